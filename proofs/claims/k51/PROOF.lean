import PyProof.Rows.All
import Wide.All
import OpenK.AllK
import Wide.FinOn
import Lean
import PyProof.EqAt
import PyProof.EqKinds
import PyProof.TupleCall
import PyProof.ExcClass3
import PyProof.NeKinds
import PyProof.ZipIter
import PyProof.ExcArgsOwn
import PyProof.EnumFor
import PyProof.EnumMake
import PyProof.DictUpdate
import PyProof.DictWalks
import PySem.Challenge.RW_hastebook_k51_corners
open Option renaming bind_eq_some_iff->aK,map_eq_some_iff->aL,bind_some->aU,some->cE,getD_some->cF,isSome_iff_exists->cO,toList_some->dI,map_some->eK,isSome_map->aPw,getD_none->aP6,none->aQE
open List renaming map_cons->aM,length_cons->aN,length_nil->aP,getElem?_eq_some_iff->aQ,getElem?_set_ne->aR,length_map->aS,replicate->aT,cons_append->aV,append_nil->aW,nil_append->aX,getElem?_append_left->aY,mem_cons_of_mem->aZ,getElem?_eq_getElem->bA,map_nil->bB,mem_of_getElem?->bC,length_append->bD,mem_cons->bE,size_toArray->bG,getElem?_map->bH,range->bI,mem_cons_self->bJ,getElem?_append_right->bK,mem_map->bL,mem_append->bM,getElem?_set_self->bN,map_append->bP,mem_iff_getElem?->bQ,mem_singleton->bS,getElem?_cons_zero->bT,getElem?_cons_succ->bU,nodup_cons->bV,lookup_cons->b4,set->b5,set_append_right->b8,not_mem_nil->cA,map_map->cC,zip_cons_cons->cD,mem_append_right->cI,map_congr_left->cL,length_set->cM,getElem?_replicate->cN,getElem?_range->cQ,mem_map_of_mem->cR,append_assoc->cS,mem_range->cT,getD_eq_getElem?_getD->cV,take_length->cY,getElem?_eq_none->dA,mem_filter->dB,find?_cons->dC,length_zip->dG,lookup->dL,nodup_append->dO,take_of_length_le->dQ,getElem_mem->dS,getElem_range->dU,getElem?_zip_eq_some->dX,range_succ->dY,getElem?_take_of_lt->d0,length_erase_of_mem->d4,length_pos_iff->d7,length_take->d9,getElem_map->eA,range_succ_eq_map->eB,drop_eq_nil_of_le->eE,set_set->eI,count_cons->eN,sum_cons->eO,length_replicate->eP,set_getElem_self->eQ,length_range->eR,take_add_one->eT,mem_append_left->aOQ,all_eq_true->aOS,drop_eq_getElem_cons->aOW,filterMap_cons->aOX,of_mem_zip->aOZ,sum_append->aO1,length_eq_zero_iff->aO3,take_succ->aO7,length_filter_le->aO9,any_cons->aPd,getElem?_zipIdx->aPe,foldl_cons->aPg,map_eq_nil_iff->aPi,idxOf_lt_length_of_mem->aPl,pairwise_iff_getElem->aPr,mem_or_eq_of_mem_set->aPs,getElem_inj->aPz,length_drop->aPA,length_pos_of_mem->aPE,set_append_left->aPN,mem_erase_of_ne->aPO,count_singleton->aPP,take_succ_cons->aPR,mem_filterMap->aPS,foldl->aPT,filterMap_map->aPU,map_replicate->aPW,length_zipIdx->aPX,getElem?_inj->aP1,ext_getElem?->aP2,count_append->aP3,any_eq_true->aP7,cons->aP9,filter_cons->aQb,length->aQd,map_const'->aQi,nodup_nil->aQk,drop_zero->aQl,all_cons->aQn,map_drop->aQp,map_take->aQq,all_map->aQt,map_set->aQx,map->aQG,tail->aQJ,sum->aQL
open PySem.W renaming Frag->aO,nsIn->bX,findIn->b6,keepIn->cG,mg_none_of->cH,fnOf->cK,kitOne->cU,emptyDict->c8,codeIn->dM,instObj->dP,kia_one->eL,mg_of->aOY,isFn->aO4,plainGet->aPa,plainGet_of->aPh,lookIn->aPn,callWith_K->aPo,methodObj->aPt,hasDictIn->aPu,cellsFrom_some->aPD,takerIn->aPF,makesIn->aPG,methodCall_KW->aPI,kl_ins->aPL,plainOver->aPZ,handedIn->aP4,OpenLaw->aQg
open Nat renaming le_refl->bF,lt_of_lt_of_le->bO,ne_of_lt->bW,le_trans->cB,lt_irrefl->cP,sub_self->dE,zero_le->dF,lt_of_le_of_lt->dW,pow_le_pow_right->dZ,lt_succ_self->d8,le_add_right->aOT,zero_add->aOU,eq_zero_or_pos->aO2,le_of_not_lt->aPb,lt_succ_of_lt->aPv,add_assoc->aPy,min_eq_right->aPB,min_eq_left->aPH,mul_le_mul_right->aPQ,le_of_lt->aPY,lt_trans->aP0,le_of_eq->aQs,add_zero->aQv,pow_succ->aQw,sub_zero->aQy,le_succ->aQD,log2_lt->aQF
open Int renaming le_refl->bR,toNat_of_nonneg->bZ,mul_sub->cJ,mul_le_mul_of_nonneg_right->cZ,toNat_natCast->c9,lt_of_le_of_lt->dJ,mul_nonneg->dN,zero_mul->dR,sub_zero->eG,add_mul->aOR,lt_trans->aOV,le_antisymm->aO0,zero_add->aO5,mul_zero->aO6,le_of_lt->aO8,sub_mul->aPf,add_zero->aPj,le_trans->aPk,fdiv_eq_ediv_of_nonneg->aPm,lt_of_lt_of_le->aPp,mul_le_mul->aPq,toNat->aPC,natAbs_of_nonneg->aPM,emod_lt_of_pos->aPV,natCast_succ->aQa,mul_one->aQc,mul_add->aQe,one_mul->aQf,emod_nonneg->aQh,min_le_left->aQj,ofNat_lt->aQu,sub_self->aQz,not_le->aQH
open Bool renaming false_ne_true->bY,false_eq_true->b9,and_true->cW,and_self->cX,eq_iff_iff->eJ,and_eq_true_iff->aOP,and_eq_true->aPc,false_and->aPK
open Array renaming length_toList->b7,mk->aPJ
open Classical renaming byContradiction->c7,choose_spec->dH,axiomOfChoice->aQr,choose->aQK
open PyProof.Rows renaming callWith_type1->dD,callWith_builtin1->aP5,callWith_kw->aQo,iadd_int->aQA,isub_int->aQB
open Function renaming comp->d3
open Iff renaming rfl->aPx
open Or renaming inr->aP8,inl->aQm
open Prod renaming ext->aQC,mk->aQI
set_option hygiene false in
local macro_rules|`(tactic|walk_at "a")=>`(tactic|(first | exact jT (by lia) | lia | (simp only [aS, bD, aN, aP, lim]; lia) | (first | (apply gM <;> lia) | (apply gY <;> lia) | (apply gB; assumption) | (apply gL; assumption)) | decide))
set_option hygiene false in
local macro_rules|`(tactic|walk_at "b")=>`(tactic|(simp only [st0, aM, bB, aN, aP, Nat.reduceAdd, Nat.reduceSub, aT, aW, aV, aX]))
set_option hygiene false in
local macro_rules|`(tactic|walk_at "c")=>`(tactic|(simp only [fR, gW, gA, mB, gK, kW, iC, cW, cX]))
set_option Elab.async false
set_option linter.all false
set_option bootstrap.genMatcherCode false
set_option compiler.extract_closed false
namespace L2
open PySem
def jU(s:Stmt):Arguments:=match s with
 | .FunctionDef _ a _ _ _ _ _ _ _ _=>a
 |_=>{posonlyargs:=[],args:=[],vararg:=none,kwonlyargs:=[],kw_defaults:=[],kwarg:=none,defaults:=[]}
def i8(s:Stmt):List Stmt:=match s with
 | .FunctionDef _ _ b _ _ _ _ _ _ _=>b
 |_=>[]
def gH(s:Stmt):Scope:=match s with
 | .FunctionDef _ _ _ _ _ _ sc _ _ _=>sc
 |_=>{kind:=.function,names:=[],isGenerator:=false,isCoroutine:=false}
def inClass(s:Stmt)(j:Nat):Stmt:=match s with
 | .ClassDef _ _ _ body _ _ _ _ _ _ _=>body.getD j (.Pass ⟨0,0,0,0⟩)
 |_=>.Pass ⟨0,0,0,0⟩
end L2
namespace HT
open PySem PySem.W PyProof.Rows
abbrev so(x:String):Str:=Str.ofString x
abbrev de:=PySem.DictEntry.mk
abbrev ob:=PySem.Obj.mk
abbrev kh:=PySem.PyData.keyHash
abbrev vs(x:String)(n:Tok):Value:=.str (so x) n
abbrev vi(i:Int):Value:=.int i 0
abbrev vr(a:Addr):Value:=.ref a
abbrev vn:Value:=.none
abbrev vb:Value:=.bool true
abbrev vt(x:String):Value:=.type x
abbrev dx(P:Params)(x:String)(n:Tok)(v:Value):DictEntry:=.mk (kh P (so x)) (vs x n) v
abbrev oc(x q:String)(i j k:Tok)(l a b:Int)(r:Addr)(h:Int)(s t u v:Addr)(z m:Int)(n:Tok):Obj:=ob (vt "code") none (Data.fields #[vs x i,vs q j,vs "/claim/cut.py" k,vi l,vi a,vi 0,vi 0,vi b,vr r,vb,vi h,vr s,vn,vr t,vr u,vr v,vi z,vi m,vs "/claim/cut.py" n]) #[]
open L2 (jU i8 gH inClass)
abbrev PR:Program:=PySem.Challenge.pw_hastebook_k51_corners
def top(i:Nat):Stmt:=PR.main.body.getD i (.Pass ⟨0,0,0,0⟩)
abbrev of(x q:String)(s:Stmt)(p:String)(n:Tok)(c:Addr):Obj:=ob (vt "function") none (Data.func (cK x q (jU s) (i8 s) (gH s) vn vn vn (vs p n) none (vr c) vn)) #[]
noncomputable def KH:Params->aO:=fun P=>
 (nat_lit 2,ob vn none (Data.dict #[]) #[])::
 (nat_lit 3,ob (vt "dict") none (Data.dict #[dx P "__name__" 165 (vs "law_hastebook_k51_corners" 617),dx P "__doc__" 166 vn,dx P "__package__" 167 vn,dx P "__loader__" 168 (Value.builtin "__main__.__loader__#opaque"),dx P "__spec__" 169 vn,dx P "__annotations__" 170 (vr 6),dx P "__builtins__" 171 (vr 4),dx P "__file__" 173 (vs "/claim/cut.py" 172),dx P "__cached__" 174 vn,dx P "_wall" 193 (vr 21),dx P "BookError" 213 (vr 31),dx P "NoOrder" 229 (vr 44),dx P "order_of" 241 (vr 53),dx P "is_work" 249 (vr 60),dx P "needed_works" 255 (vr 65),dx P "least_ready" 261 (vr 70),dx P "earliest" 269 (vr 75),dx P "length" 277 (vr 82),dx P "done_moments" 283 (vr 87),dx P "SOURCE" 287 (Value.int 0 286),dx P "SINK" 289 (Value.int 1 288),dx P "Pipe" 325 (vr 104),dx P "Net" 422 (vr 174),dx P "begin_place" 429 (vr 185),dx P "done_place" 436 (vr 192),dx P "work_at" 443 (vr 199),dx P "raise_moments" 454 (vr 206),dx P "tight_route" 460 (vr 211),dx P "next_routes" 470 (vr 218),dx P "room_on" 476 (vr 223),dx P "pour" 485 (vr 230),dx P "flowing_route" 494 (vr 237),dx P "steps_from" 500 (vr 242),dx P "take_out" 506 (vr 247),dx P "works_on" 512 (vr 252),dx P "least_end" 522 (vr 259),dx P "free_end" 528 (vr 264),dx P "stream_at" 537 (vr 271),dx P "least_hours" 543 (vr 276),dx P "free_hours" 550 (vr 283),dx P "filled_net" 560 (vr 290),dx P "through" 568 (vr 295),dx P "worth" 574 (vr 300),dx P "work_worth" 582 (vr 307),dx P "corners" 598 (vr 314),dx P "price_at" 607 (vr 321),dx P "step_at" 616 (vr 328),dx P "_law_whole" 625 (vr 335),dx P "_law_cell_at" 633 (vr 342),dx P "_law_mixed" 642 (vr 349),dx P "_law_names" 652 (vr 356),dx P "_law_numbers" 658 (vr 361),dx P "_law_work" 672 (vr 368),dx P "_law_lot_free" 690 (vr 375),dx P "_law_lot" 696 (vr 380),dx P "_law_length" 702 (vr 385),dx P "_law_ends" 708 (vr 390),dx P "_law_steps" 722 (vr 397),dx P "_law_spoil" 730 (vr 404),dx P "law" 736 (vr 409)] 60) #[])::
 (nat_lit 22,ob (vt "tuple") none (Data.seq #[vt "ValueError"]) #[])::
 (nat_lit 29,ob (vt "tuple") none (Data.seq #[]) #[])::
 (nat_lit 30,ob (vt "dict") none (Data.dict #[dx P "__module__" 203 (vs "hastebook.errors" 194),dx P "__firstlineno__" 207 (Value.int 5 206),dx P "__static_attributes__" 208 (vr 29),dx P "__weakref__" 210 (vr 32),dx P "__doc__" 211 vn] 3) #[])::
 (nat_lit 31,ob (vt "type") none (Data.cls (PySem.ClassData.mk (so "BookError") [vt "ValueError"] [vr 31,vt "ValueError",vt "Exception",vt "BaseException",vt "object"] 30 (so "BookError") true [] [vr 44] false none false)) #[some (vr 22),none,some (vs "BookError" 196),some (vs "BookError" 204),some (Value.builtin "ValueError.__new__"),some (vb)])::
 (nat_lit 32,ob (vt "getset_descriptor") none (Data.fields #[vs "__weakref__" 209,vr 31,Value.builtin "ExceptionGroup.__weakref__",vn]) #[])::
 (nat_lit 35,ob (vt "tuple") none (Data.seq #[vr 31]) #[])::
 (nat_lit 42,ob (vt "tuple") none (Data.seq #[]) #[])::
 (nat_lit 43,ob (vt "dict") none (Data.dict #[dx P "__module__" 221 (vs "hastebook.errors" 194),dx P "__firstlineno__" 225 (Value.int 7 224),dx P "__static_attributes__" 226 (vr 42),dx P "__doc__" 227 vn] 2) #[])::
 (nat_lit 44,ob (vt "type") none (Data.cls (PySem.ClassData.mk (so "NoOrder") [vr 31] [vr 44,vr 31,vt "ValueError",vt "Exception",vt "BaseException",vt "object"] 43 (so "NoOrder") true [] [] false none false)) #[some (vr 35),none,some (vs "NoOrder" 214),some (vs "NoOrder" 222),some (Value.builtin "ValueError.__new__"),some (vb)])::
 (nat_lit 52,oc "order_of" "order_of" 232 233 234 10 2 3 47 181 48 49 50 51 239 10 240)::
 (nat_lit 53,of "order_of" "order_of" (top 5) "hastebook.needs" 230 52)::
 (nat_lit 59,oc "is_work" "is_work" 242 243 244 16 2 3 54 181 55 56 57 58 247 16 248)::
 (nat_lit 60,of "is_work" "is_work" (top 6) "hastebook.needs" 230 59)::
 (nat_lit 64,ob (vt "code") none (Data.fields #[vs "needed_works" 250,vs "needed_works" 251,vs "/claim/cut.py" 252,vi 18,vi 2,vi 0,vi 0,vi 3,vr 61,vb,vi 181,vr 62,vn,vn,vn,vr 63,vi 253,vi 18,vs "/claim/cut.py" 254]) #[])::
 (nat_lit 65,of "needed_works" "needed_works" (top 7) "hastebook.needs" 230 64)::
 (nat_lit 69,ob (vt "code") none (Data.fields #[vs "least_ready" 256,vs "least_ready" 257,vs "/claim/cut.py" 258,vi 26,vi 2,vi 0,vi 0,vi 3,vr 66,vb,vi 181,vr 67,vn,vn,vn,vr 68,vi 259,vi 26,vs "/claim/cut.py" 260]) #[])::
 (nat_lit 70,of "least_ready" "least_ready" (top 8) "hastebook.needs" 230 69)::
 (nat_lit 74,ob (vt "code") none (Data.fields #[vs "earliest" 264,vs "earliest" 265,vs "/claim/cut.py" 266,vi 32,vi 2,vi 0,vi 0,vi 3,vr 71,vb,vi 181,vr 72,vn,vn,vn,vr 73,vi 267,vi 32,vs "/claim/cut.py" 268]) #[])::
 (nat_lit 75,of "earliest" "earliest" (top 10) "hastebook.moments" 262 74)::
 (nat_lit 81,oc "length" "length" 270 271 272 39 2 3 76 181 77 78 79 80 275 39 276)::
 (nat_lit 82,of "length" "length" (top 11) "hastebook.moments" 262 81)::
 (nat_lit 86,ob (vt "code") none (Data.fields #[vs "done_moments" 278,vs "done_moments" 279,vs "/claim/cut.py" 280,vi 41,vi 2,vi 0,vi 0,vi 3,vr 83,vb,vi 181,vr 84,vn,vn,vn,vr 85,vi 281,vi 41,vs "/claim/cut.py" 282]) #[])::
 (nat_lit 87,of "done_moments" "done_moments" (top 12) "hastebook.moments" 262 86)::
 (nat_lit 100,oc "__init__" "Pipe.__init__" 302 303 304 48 5 3 95 181 96 97 98 99 310 48 311)::
 (nat_lit 101,of "__init__" "Pipe.__init__" (inClass (top 16) 0) "hastebook.nets" 284 100)::
 (nat_lit 102,ob (vt "tuple") none (Data.seq #[vs "back" 313,vs "head" 314,vs "hours" 315,vs "room" 316,vs "tail" 317]) #[])::
 (nat_lit 103,ob (vt "dict") none (Data.dict #[dx P "__module__" 297 (vs "hastebook.nets" 284),dx P "__firstlineno__" 301 (Value.int 46 300),dx P "__init__" 312 (vr 101),dx P "__static_attributes__" 318 (vr 102),dx P "__dict__" 320 (vr 105),dx P "__weakref__" 322 (vr 106),dx P "__doc__" 323 vn] 4) #[])::
 (nat_lit 104,ob (vt "type") none (Data.cls (PySem.ClassData.mk (so "Pipe") [vt "object"] [vr 104,vt "object"] 103 (so "Pipe") true [] [] false none false)) #[none,none,some (vs "Pipe" 290),some (vs "Pipe" 298),some (Value.builtin "object.__new__"),some (vb)])::
 (nat_lit 105,ob (vt "getset_descriptor") none (Data.fields #[vs "__dict__" 319,vr 104,Value.builtin "function.__dict__",Value.builtin "function.__dict__#set"]) #[])::
 (nat_lit 106,ob (vt "getset_descriptor") none (Data.fields #[vs "__weakref__" 321,vr 104,Value.builtin "ExceptionGroup.__weakref__",vn]) #[])::
 (nat_lit 116,ob (vt "tuple") none (Data.seq #[Value.int 0 338]) #[])::
 (nat_lit 120,ob (vt "code") none (Data.fields #[vs "__init__" 339,vs "Net.__init__" 340,vs "/claim/cut.py" 341,vi 56,vi 4,vi 0,vi 0,vi 3,vr 117,vb,vi 181,vr 118,vn,vn,vn,vr 119,vi 342,vi 56,vs "/claim/cut.py" 343]) #[])::
 (nat_lit 121,ob (vt "function") (none) (Data.func (cK "__init__" "Net.__init__" (jU (inClass (top 17) 0)) (i8 (inClass (top 17) 0)) (gH (inClass (top 17) 0)) (vr 116) (vn) (vn) (vs "hastebook.nets" 284) (none) (vr 120) (vn))) (#[]))::
 (nat_lit 127,oc "lay" "Net.lay" 345 346 347 69 5 3 122 181 123 124 125 126 355 69 356)::
 (nat_lit 128,of "lay" "Net.lay" (inClass (top 17) 1) "hastebook.nets" 284 127)::
 (nat_lit 134,oc "fill" "Net.fill" 358 359 360 76 2 3 129 181 130 131 132 133 365 76 366)::
 (nat_lit 135,of "fill" "Net.fill" (inClass (top 17) 2) "hastebook.nets" 284 134)::
 (nat_lit 146,ob (vt "code") none (Data.fields #[vs "moments" 376,vs "Net.moments" 377,vs "/claim/cut.py" 378,vi 86,vi 2,vi 0,vi 0,vi 3,vr 143,vb,vi 181,vr 144,vn,vn,vn,vr 145,vi 379,vi 86,vs "/claim/cut.py" 380]) #[])::
 (nat_lit 147,of "moments" "Net.moments" (inClass (top 17) 4) "hastebook.nets" 284 146)::
 (nat_lit 153,oc "open_length" "Net.open_length" 382 383 384 94 1 3 148 181 149 150 151 152 386 94 387)::
 (nat_lit 154,of "open_length" "Net.open_length" (inClass (top 17) 5) "hastebook.nets" 284 153)::
 (nat_lit 158,ob (vt "code") none (Data.fields #[vs "open_pipes" 389,vs "Net.open_pipes" 390,vs "/claim/cut.py" 391,vi 97,vi 1,vi 0,vi 0,vi 3,vr 155,vb,vi 181,vr 156,vn,vn,vn,vr 157,vi 392,vi 97,vs "/claim/cut.py" 393]) #[])::
 (nat_lit 159,of "open_pipes" "Net.open_pipes" (inClass (top 17) 6) "hastebook.nets" 284 158)::
 (nat_lit 163,ob (vt "code") none (Data.fields #[vs "amount" 395,vs "Net.amount" 396,vs "/claim/cut.py" 397,vi 101,vi 1,vi 0,vi 0,vi 3,vr 160,vb,vi 181,vr 161,vn,vn,vn,vr 162,vi 398,vi 101,vs "/claim/cut.py" 399]) #[])::
 (nat_lit 164,of "amount" "Net.amount" (inClass (top 17) 7) "hastebook.nets" 284 163)::
 (nat_lit 170,oc "stream" "Net.stream" 401 402 403 104 1 3 165 181 166 167 168 169 410 104 411)::
 (nat_lit 171,of "stream" "Net.stream" (inClass (top 17) 8) "hastebook.nets" 284 170)::
 (nat_lit 172,ob (vt "tuple") none (Data.seq #[vs "pipes" 413,vs "places" 414]) #[])::
 (nat_lit 173,ob (vt "dict") none (Data.dict #[dx P "__module__" 333 (vs "hastebook.nets" 284),dx P "__firstlineno__" 337 (Value.int 54 336),dx P "__init__" 344 (vr 121),dx P "lay" 357 (vr 128),dx P "fill" 367 (vr 135),dx P "lead" 375 (vr 142),dx P "moments" 381 (vr 147),dx P "open_length" 388 (vr 154),dx P "open_pipes" 394 (vr 159),dx P "amount" 400 (vr 164),dx P "stream" 412 (vr 171),dx P "__static_attributes__" 415 (vr 172),dx P "__dict__" 417 (vr 175),dx P "__weakref__" 419 (vr 176),dx P "__doc__" 420 vn] 4) #[])::
 (nat_lit 174,ob (vt "type") none (Data.cls (PySem.ClassData.mk (so "Net") [vt "object"] [vr 174,vt "object"] 173 (so "Net") true [] [] false none false)) #[none,none,some (vs "Net" 326),some (vs "Net" 334),some (Value.builtin "object.__new__"),some (vb)])::
 (nat_lit 175,ob (vt "getset_descriptor") none (Data.fields #[vs "__dict__" 416,vr 174,Value.builtin "function.__dict__",Value.builtin "function.__dict__#set"]) #[])::
 (nat_lit 176,ob (vt "getset_descriptor") none (Data.fields #[vs "__weakref__" 418,vr 174,Value.builtin "ExceptionGroup.__weakref__",vn]) #[])::
 (nat_lit 184,oc "begin_place" "begin_place" 423 424 425 115 1 3 179 181 180 181 182 183 427 115 428)::
 (nat_lit 185,of "begin_place" "begin_place" (top 18) "hastebook.nets" 284 184)::
 (nat_lit 191,oc "done_place" "done_place" 430 431 432 117 1 3 186 181 187 188 189 190 434 117 435)::
 (nat_lit 192,of "done_place" "done_place" (top 19) "hastebook.nets" 284 191)::
 (nat_lit 198,oc "work_at" "work_at" 437 438 439 119 1 3 193 181 194 195 196 197 441 119 442)::
 (nat_lit 199,of "work_at" "work_at" (top 20) "hastebook.nets" 284 198)::
 (nat_lit 205,oc "raise_moments" "raise_moments" 444 445 446 121 2 3 200 181 201 202 203 204 452 121 453)::
 (nat_lit 206,of "raise_moments" "raise_moments" (top 21) "hastebook.nets" 284 205)::
 (nat_lit 210,ob (vt "code") none (Data.fields #[vs "tight_route" 455,vs "tight_route" 456,vs "/claim/cut.py" 457,vi 129,vi 2,vi 0,vi 0,vi 3,vr 207,vb,vi 181,vr 208,vn,vn,vn,vr 209,vi 458,vi 129,vs "/claim/cut.py" 459]) #[])::
 (nat_lit 211,of "tight_route" "tight_route" (top 22) "hastebook.nets" 284 210)::
 (nat_lit 217,oc "next_routes" "next_routes" 461 462 463 135 2 3 212 181 213 214 215 216 468 135 469)::
 (nat_lit 218,of "next_routes" "next_routes" (top 23) "hastebook.nets" 284 217)::
 (nat_lit 222,ob (vt "code") none (Data.fields #[vs "room_on" 471,vs "room_on" 472,vs "/claim/cut.py" 473,vi 141,vi 1,vi 0,vi 0,vi 3,vr 219,vb,vi 181,vr 220,vn,vn,vn,vr 221,vi 474,vi 141,vs "/claim/cut.py" 475]) #[])::
 (nat_lit 223,of "room_on" "room_on" (top 24) "hastebook.nets" 284 222)::
 (nat_lit 229,oc "pour" "pour" 477 478 479 143 2 3 224 181 225 226 227 228 483 143 484)::
 (nat_lit 230,of "pour" "pour" (top 25) "hastebook.nets" 284 229)::
 (nat_lit 236,oc "flowing_route" "flowing_route" 486 487 488 147 1 3 231 181 232 233 234 235 492 147 493)::
 (nat_lit 237,of "flowing_route" "flowing_route" (top 26) "hastebook.nets" 284 236)::
 (nat_lit 241,ob (vt "code") none (Data.fields #[vs "steps_from" 495,vs "steps_from" 496,vs "/claim/cut.py" 497,vi 154,vi 2,vi 0,vi 0,vi 3,vr 238,vb,vi 181,vr 239,vn,vn,vn,vr 240,vi 498,vi 154,vs "/claim/cut.py" 499]) #[])::
 (nat_lit 242,of "steps_from" "steps_from" (top 27) "hastebook.nets" 284 241)::
 (nat_lit 246,ob (vt "code") none (Data.fields #[vs "take_out" 501,vs "take_out" 502,vs "/claim/cut.py" 503,vi 156,vi 2,vi 0,vi 0,vi 3,vr 243,vb,vi 181,vr 244,vn,vn,vn,vr 245,vi 504,vi 156,vs "/claim/cut.py" 505]) #[])::
 (nat_lit 247,of "take_out" "take_out" (top 28) "hastebook.nets" 284 246)::
 (nat_lit 251,ob (vt "code") none (Data.fields #[vs "works_on" 507,vs "works_on" 508,vs "/claim/cut.py" 509,vi 161,vi 1,vi 0,vi 0,vi 3,vr 248,vb,vi 181,vr 249,vn,vn,vn,vr 250,vi 510,vi 161,vs "/claim/cut.py" 511]) #[])::
 (nat_lit 252,of "works_on" "works_on" (top 29) "hastebook.nets" 284 251)::
 (nat_lit 258,oc "least_end" "least_end" 515 516 517 164 2 3 253 181 254 255 256 257 520 164 521)::
 (nat_lit 259,of "least_end" "least_end" (top 31) "hastebook.haste" 513 258)::
 (nat_lit 263,ob (vt "code") none (Data.fields #[vs "free_end" 523,vs "free_end" 524,vs "/claim/cut.py" 525,vi 166,vi 2,vi 0,vi 0,vi 3,vr 260,vb,vi 181,vr 261,vn,vn,vn,vr 262,vi 526,vi 166,vs "/claim/cut.py" 527]) #[])::
 (nat_lit 264,of "free_end" "free_end" (top 32) "hastebook.haste" 513 263)::
 (nat_lit 270,oc "stream_at" "stream_at" 529 530 531 168 3 3 265 181 266 267 268 269 535 168 536)::
 (nat_lit 271,of "stream_at" "stream_at" (top 33) "hastebook.haste" 513 270)::
 (nat_lit 275,ob (vt "code") none (Data.fields #[vs "least_hours" 538,vs "least_hours" 539,vs "/claim/cut.py" 540,vi 172,vi 1,vi 0,vi 0,vi 3,vr 272,vb,vi 181,vr 273,vn,vn,vn,vr 274,vi 541,vi 172,vs "/claim/cut.py" 542]) #[])::
 (nat_lit 276,of "least_hours" "least_hours" (top 34) "hastebook.haste" 513 275)::
 (nat_lit 282,oc "free_hours" "free_hours" 544 545 546 174 1 3 277 181 278 279 280 281 548 174 549)::
 (nat_lit 283,of "free_hours" "free_hours" (top 35) "hastebook.haste" 513 282)::
 (nat_lit 289,oc "filled_net" "filled_net" 551 552 553 176 3 3 284 181 285 286 287 288 558 176 559)::
 (nat_lit 290,of "filled_net" "filled_net" (top 36) "hastebook.haste" 513 289)::
 (nat_lit 294,ob (vt "code") none (Data.fields #[vs "through" 563,vs "through" 564,vs "/claim/cut.py" 565,vi 181,vi 2,vi 0,vi 0,vi 3,vr 291,vb,vi 181,vr 292,vn,vn,vn,vr 293,vi 566,vi 181,vs "/claim/cut.py" 567]) #[])::
 (nat_lit 295,of "through" "through" (top 38) "hastebook.streams" 561 294)::
 (nat_lit 299,ob (vt "code") none (Data.fields #[vs "worth" 569,vs "worth" 570,vs "/claim/cut.py" 571,vi 187,vi 3,vi 0,vi 0,vi 3,vr 296,vb,vi 181,vr 297,vn,vn,vn,vr 298,vi 572,vi 187,vs "/claim/cut.py" 573]) #[])::
 (nat_lit 300,of "worth" "worth" (top 39) "hastebook.streams" 561 299)::
 (nat_lit 306,oc "work_worth" "work_worth" 575 576 577 191 2 3 301 181 302 303 304 305 580 191 581)::
 (nat_lit 307,of "work_worth" "work_worth" (top 40) "hastebook.streams" 561 306)::
 (nat_lit 313,oc "corners" "corners" 585 586 587 196 2 3 308 181 309 310 311 312 596 196 597)::
 (nat_lit 314,of "corners" "corners" (top 42) "hastebook.curves" 583 313)::
 (nat_lit 320,oc "price_at" "price_at" 599 600 601 209 3 3 315 181 316 317 318 319 605 209 606)::
 (nat_lit 321,of "price_at" "price_at" (top 43) "hastebook.curves" 583 320)::
 (nat_lit 327,oc "step_at" "step_at" 608 609 610 213 3 3 322 181 323 324 325 326 614 213 615)::
 (nat_lit 328,of "step_at" "step_at" (top 44) "hastebook.curves" 583 327)::
 (nat_lit 334,oc "_law_whole" "_law_whole" 619 620 621 218 1 3 329 181 330 331 332 333 623 218 624)::
 (nat_lit 335,of "_law_whole" "_law_whole" (top 46) "law_hastebook_k51_corners" 617 334)::
 (nat_lit 341,oc "_law_cell_at" "_law_cell_at" 626 627 628 220 2 3 336 181 337 338 339 340 631 220 632)::
 (nat_lit 342,of "_law_cell_at" "_law_cell_at" (top 47) "law_hastebook_k51_corners" 617 341)::
 (nat_lit 348,oc "_law_mixed" "_law_mixed" 634 635 636 224 2 3 343 181 344 345 346 347 640 224 641)::
 (nat_lit 349,of "_law_mixed" "_law_mixed" (top 48) "law_hastebook_k51_corners" 617 348)::
 (nat_lit 355,oc "_law_names" "_law_names" 643 644 645 228 2 3 350 181 351 352 353 354 650 228 651)::
 (nat_lit 356,of "_law_names" "_law_names" (top 49) "law_hastebook_k51_corners" 617 355)::
 (nat_lit 360,ob (vt "code") none (Data.fields #[vs "_law_numbers" 653,vs "_law_numbers" 654,vs "/claim/cut.py" 655,vi 233,vi 1,vi 0,vi 0,vi 3,vr 357,vb,vi 181,vr 358,vn,vn,vn,vr 359,vi 656,vi 233,vs "/claim/cut.py" 657]) #[])::
 (nat_lit 361,of "_law_numbers" "_law_numbers" (top 50) "law_hastebook_k51_corners" 617 360)::
 (nat_lit 367,oc "_law_work" "_law_work" 659 660 661 239 5 3 362 181 363 364 365 366 670 239 671)::
 (nat_lit 368,of "_law_work" "_law_work" (top 51) "law_hastebook_k51_corners" 617 367)::
 (nat_lit 374,oc "_law_lot_free" "_law_lot_free" 673 674 675 253 3 3 369 181 370 371 372 373 688 253 689)::
 (nat_lit 375,of "_law_lot_free" "_law_lot_free" (top 52) "law_hastebook_k51_corners" 617 374)::
 (nat_lit 379,ob (vt "code") none (Data.fields #[vs "_law_lot" 691,vs "_law_lot" 692,vs "/claim/cut.py" 693,vi 275,vi 3,vi 0,vi 0,vi 3,vr 376,vb,vi 181,vr 377,vn,vn,vn,vr 378,vi 694,vi 275,vs "/claim/cut.py" 695]) #[])::
 (nat_lit 380,of "_law_lot" "_law_lot" (top 53) "law_hastebook_k51_corners" 617 379)::
 (nat_lit 384,ob (vt "code") none (Data.fields #[vs "_law_length" 697,vs "_law_length" 698,vs "/claim/cut.py" 699,vi 293,vi 2,vi 0,vi 0,vi 3,vr 381,vb,vi 181,vr 382,vn,vn,vn,vr 383,vi 700,vi 293,vs "/claim/cut.py" 701]) #[])::
 (nat_lit 385,of "_law_length" "_law_length" (top 54) "law_hastebook_k51_corners" 617 384)::
 (nat_lit 389,ob (vt "code") none (Data.fields #[vs "_law_ends" 703,vs "_law_ends" 704,vs "/claim/cut.py" 705,vi 299,vi 2,vi 0,vi 0,vi 3,vr 386,vb,vi 181,vr 387,vn,vn,vn,vr 388,vi 706,vi 299,vs "/claim/cut.py" 707]) #[])::
 (nat_lit 390,of "_law_ends" "_law_ends" (top 55) "law_hastebook_k51_corners" 617 389)::
 (nat_lit 396,oc "_law_steps" "_law_steps" 709 710 711 302 3 3 391 181 392 393 394 395 720 302 721)::
 (nat_lit 397,of "_law_steps" "_law_steps" (top 56) "law_hastebook_k51_corners" 617 396)::
 (nat_lit 403,oc "_law_spoil" "_law_spoil" 723 724 725 318 1 3 398 181 399 400 401 402 728 318 729)::
 (nat_lit 404,of "_law_spoil" "_law_spoil" (top 57) "law_hastebook_k51_corners" 617 403)::
 (nat_lit 408,ob (vt "code") none (Data.fields #[vs "law" 731,vs "law" 732,vs "/claim/cut.py" 733,vi 322,vi 1,vi 0,vi 0,vi 3,vr 405,vb,vi 181,vr 406,vn,vn,vn,vr 407,vi 734,vi 322,vs "/claim/cut.py" 735]) #[])::
 (nat_lit 409,of "law" "law" (top 58) "law_hastebook_k51_corners" 617 408)::[]
def KA:List Addr:=[2,3,22,29,30,31,32,35,42,43,44,52,53,59,60,64,65,69,70,74,75,81,82,86,87,100,101,102,103,104,105,106,116,120,121,127,128,134,135,146,147,153,154,158,159,163,164,170,171,172,173,174,175,176,184,185,191,192,198,199,205,206,210,211,217,218,222,223,229,230,236,237,241,242,246,247,251,252,258,259,263,264,270,271,275,276,282,283,289,290,294,295,299,300,306,307,313,314,320,321,327,328,334,335,341,342,348,349,355,356,360,361,367,368,374,375,379,380,384,385,389,390,396,397,403,404,408,409]
noncomputable def insAll:Nat->List Obj->BT->BT
 |_,[],t=>t
 |i,o::os,t=>insAll (i+1) os (t.ins i o)
noncomputable def jL(p:Program)(w:World)(m:Nat)(an:Option Value):Nat->SharedT->Thread->Option SharedT
 |0,_,_=>none
 |n+1,s,t=>match through t with
  |true=>some s
  |false=>match stepOk m an t with
   |false=>none
   |true=>match stepT (denote treeTable) p w s t with
    |some r=>jL p w m an n r.1 r.2
    |none=>none
theorem aIa{p:Program}{w:World}{m:Nat}{an:Option Value}:∀{n:Nat}{s s':SharedT}{t:Thread},jL p w m an n s t=some s'->topRun treeTable p w m an n s.abs t=some s'.abs
 |0,_,_,_,h=>by cases h
 |n+1,s,s',t,h=>by
  unfold jL at h;unfold topRun;cases h1:through t with
  |true=>rw[h1]at h;cases h;rfl
  |false=>
   rw[h1]at h;cases h2:stepOk m an t with
   |false=>rw[h2]at h;cases h
   |true=>
    rw[h2]at h;cases h3:stepT (denote treeTable) p w s t with
    |none=>rw[h3]at h;cases h
    |some r=>
     rw[h3]at h;rw[show step (denote treeTable) p w s.abs t=.go r.1.abs r.2 from stepT_spec h3]
     exact aIa h
theorem leftOf{p q:Program}{Xt:Shared->Bool}{α:Type}{Yf:Shared->α}{Ya:World->α}{N:Nat}{s0:World->OsState->SharedT}{ran:World->OsState->Option SharedT}{fin:World->OsState->Shared}
 (hf:∀w os,fin w os=((ran w os).getD (s0 w os)).abs)
 (hr:∀w os,ran w os=jL p w (boot_heap w.params).objs.size ((boot_heap w.params).nsMap mainGlobals "__annotations__") N (s0 w os) (topStub p))
 (c0:(fun(w:World) (os:OsState)=>(s0 w os).abs)=fun w os=>⟨boot_heap w.params,aPJ [],boot_drawn,boot_toks,os⟩)
 (c1:(fun w:World=>(boot_heap w.params).isNs mainGlobals)=fun _=>true)
 (c2:(fun(w:World) (os:OsState)=>(ran w os).isSome)=fun _ _=>true)
 (c3:(fun(w:World) (os:OsState)=>(staticsOk (importedModules p.main.body) (boot_heap w.params) (fin w os).heap&&namesBound p (fin w os).heap&&gensDone (fin w os))&&laidKept (boot_heap w.params) (fin w os).heap)=fun _ _=>true)
 (c4:(fun(w:World) (os:OsState)=>openSeen q [] (importedModules p.main.body) Xt true (fin w os))=fun _ _=>openGood q [])
 (c5:(fun(w:World) (os:OsState)=>Yf (fin w os))=fun w _=>Ya w)
 (c6:opening p=plainProg p.main.scope.names)(hN:Nat.ble 600 N=true)(hm:∀s,fenceModules? p s=some s):LeftO p q [] Xt Yf Ya N:=fun w=>by
 obtain⟨⟨h,gs,d,k,os⟩,e,e'⟩:=aL.mp (boot_open (p:=p) (N:=N) c6 hN hm w);obtain⟨rfl,rfl,rfl,rfl⟩:h=boot_heap w.params/\gs=aPJ []/\d=boot_drawn/\k=boot_toks:=by simpa using e'
 have r:topRun treeTable p w (boot_heap w.params).objs.size ((boot_heap w.params).nsMap mainGlobals "__annotations__") N ⟨boot_heap w.params,aPJ [],boot_drawn,boot_toks,os⟩ (topStub p)=some (fin w os):=by
  have q0:(s0 w os).abs=⟨boot_heap w.params,aPJ [],boot_drawn,boot_toks,os⟩:=congrFun (congrFun c0 w) os;have q2:(ran w os).isSome=true:=congrFun (congrFun c2 w) os;rw[<-q0];obtain⟨x,hx⟩:=cO.mp q2;have:fin w os=x.abs:=by rw[hf,hx];rfl
  rw[this];rw[hr]at hx
  exact aIa hx
 have t:topFrom treeTable p w N ⟨boot_heap w.params,aPJ [],boot_drawn,boot_toks,os⟩=some (fin w os):=by
  unfold topFrom;dsimp only;rw[show(boot_heap w.params).isNs mainGlobals=true from congrFun c1 w,r];have q3:((staticsOk (importedModules p.main.body) (boot_heap w.params) (fin w os).heap&&namesBound p (fin w os).heap&&gensDone (fin w os))&&laidKept (boot_heap w.params) (fin w os).heap)=true:=congrFun (congrFun c3 w) os;show(match((staticsOk (importedModules p.main.body) (boot_heap w.params) (fin w os).heap&&namesBound p (fin w os).heap&&gensDone (fin w os))&&laidKept (boot_heap w.params) (fin w os).heap)with|true=>some (fin w os)|false=>none)=_;rw[q3]
 unfold openEnds;rw[e];show(topFrom treeTable p w N _).map _=_;rw[t]
 exact congrArg some (aQC (congrFun (congrFun c4 w) os) (congrFun (congrFun c5 w) os))
noncomputable def s0(w:World)(os:OsState):SharedT:=⟨insAll 0 (boot_heap w.params).objs.toList .nil,(boot_heap w.params).objs.size,(boot_heap w.params).life,#[],boot_drawn,boot_toks,os⟩
noncomputable def ran(w:World)(os:OsState):Option SharedT:=jL PR w (boot_heap w.params).objs.size ((boot_heap w.params).nsMap mainGlobals "__annotations__") 4080 (s0 w os) (topStub PR)
noncomputable def fin(w:World)(os:OsState):Shared:=((ran w os).getD (s0 w os)).abs
def vw:Program:=view PR [0,2,3,5,6,7,8,10,11,12,14,15,16,17,18,19,20,21,22,23,24,25,26,27,28,29,31,32,33,34,35,36,38,39,40,42,43,44,46,47,48,49,50,51,52,53,54,55,56,57,58]
noncomputable def xt(s:Shared):Bool:=xlAt vw [] s&&recOk (RowW.records (OpenRow.toRowW (OpenLaw.row PySem.Challenge.rw_hastebook_k51_corners))) s
set_option maxHeartbeats 0 in
theorem c0:(fun(w:World) (os:OsState)=>(s0 w os).abs)=fun w os=>⟨boot_heap w.params,aPJ [],boot_drawn,boot_toks,os⟩:=by kernel_rfl
theorem c1:(fun w:World=>(boot_heap w.params).isNs mainGlobals)=fun _=>true:=by kernel_rfl
set_option maxHeartbeats 0 in
theorem c2:(fun(w:World) (os:OsState)=>(ran w os).isSome)=fun _ _=>true:=by kernel_rfl
set_option maxHeartbeats 0 in
theorem c3:(fun(w:World) (os:OsState)=>(staticsOk (importedModules PR.main.body) (boot_heap w.params) (fin w os).heap&&namesBound PR (fin w os).heap&&gensDone (fin w os))&&laidKept (boot_heap w.params) (fin w os).heap)=fun _ _=>true:=by kernel_rfl
set_option maxHeartbeats 0 in
theorem c4:(fun(w:World) (os:OsState)=>openSeen vw [] (importedModules PR.main.body) xt true (fin w os))=fun _ _=>openGood vw []:=by kernel_rfl
set_option maxHeartbeats 0 in
theorem c5:(fun(w:World) (os:OsState)=>KA.map (fin w os).heap.get?)=fun w _=>(KH w.params).map fun p=>some p.2:=by kernel_rfl
theorem c6:opening PR=plainProg PR.main.scope.names:=by kernel_rfl
theorem left:LeftO PR vw [] xt (fun s=>KA.map s.heap.get?) (fun w=>(KH w.params).map fun p=>some p.2) 4080:=
 leftOf (s0:=s0) (ran:=ran) (fin:=fin) (fun _ _=>rfl) (fun _ _=>rfl) c0 c1 c2 c3 c4 c5 c6 rfl (fun _=>rfl)
theorem ka(P:Params):KA=(KH P).map (·.1):=by kernel_rfl
theorem xs:∀s,xt s=true->XL vw [] (s.heap.nsMap mainGlobals) s.heap:=fun s e=>xl_of s (aOP.mp e).1
theorem rs:∀s,xt s=true->RecFacts (RowW.records (OpenRow.toRowW (OpenLaw.row PySem.Challenge.rw_hastebook_k51_corners))) s.heap:=fun s e=>recFacts_of (aOP.mp e).2
end HT
noncomputable section
set_option maxRecDepth 100000
namespace L2
open PySem PySem.Spec PyProof.Rows
variable{H:Hp}{a b:Addr}{o:HO}
noncomputable abbrev Key:=Sum Int Str
noncomputable def aAM:Key->Value->Bool
 | .inl k,v=>Value.isInt k v
 | .inr x,v=>Value.isStrOf x v
noncomputable def keyH(w:World):Key->Int
 | .inl k=>hashInt k
 | .inr x=>hashStr w x
theorem jN:∀{k:Key}{v:Value},aAM k v=true->(∃i t,k=Sum.inl i/\v=Value.int i t)\/(∃x t,k=Sum.inr x/\v=Value.str x t)
 | .inl i,v,h=>by
   obtain⟨t,e⟩:=Value.isInt_shape (k:=i) (v:=v) h
   exact .inl ⟨i,t,rfl,e⟩
 | .inr x,v,h=>by
   obtain⟨t,e⟩:=Value.isStrOf_shape (x:=x) (v:=v) h
   exact .inr ⟨x,t,rfl,e⟩
theorem aFO(i:Int)(t:Tok):aAM (.inl i) (.int i t)=true:=by simp[aAM,Value.isInt]
theorem aGo(x:Str)(t:Tok):aAM (.inr x) (.str x t)=true:=by simp[aAM,Value.isStrOf]
theorem aNv(a b:Int):decide ((Sum.inl a:Key)=Sum.inl b)=(a==b):=by
 by_cases e:a=b
 ·subst e;simp
 ·have h:¬(Sum.inl a:Key)=Sum.inl b:=fun q=>e (Sum.inl.inj q)
  rw[decide_eq_false h]
  exact(beq_eq_false_iff_ne.mpr e).symm
theorem aMB(a b:Str):decide ((Sum.inr a:Key)=Sum.inr b)=decide (a=b):=by
 by_cases e:a=b
 ·subst e;simp
 ·have h:¬(Sum.inr a:Key)=Sum.inr b:=fun q=>e (Sum.inr.inj q)
  rw[decide_eq_false h,decide_eq_false e]
theorem aNB(a:Int)(b:Str):decide ((Sum.inl a:Key)=Sum.inr b)=false:=decide_eq_false (fun q=>nomatch q)
theorem aL9(a:Str)(b:Int):decide ((Sum.inr a:Key)=Sum.inl b)=false:=decide_eq_false (fun q=>nomatch q)
def iW(prog:Program)(w:World):PySem.KeyKind prog w Key where
 is:=aAM
 hash:=keyH w
 inj:=fun v a b ha hb=>by
  rcases jN ha with⟨i,t,rfl,rfl⟩| ⟨x,t,rfl,rfl⟩
  ·rcases jN hb with⟨j,u,rfl,e⟩| ⟨y,u,rfl,e⟩
   ·injection e with e1 _;rw[e1]
   ·exact nomatch e
  ·rcases jN hb with⟨j,u,rfl,e⟩| ⟨y,u,rfl,e⟩
   ·exact nomatch e
   ·injection e with e1 _;rw[e1]
 byValue:=fun k v h=>by
  rcases jN h with⟨i,t,rfl,rfl⟩| ⟨x,t,rfl,rfl⟩<;>rfl
 pyHash:=fun hv h=>by
  rcases jN hv with⟨i,t,rfl,rfl⟩| ⟨x,t,rfl,rfl⟩
  ·exact wpAny_pyHash_int h
  ·exact wpAny_pyHash_str h
 eqBool:=fun hu hv h=>by
  rcases jN hu with⟨i,t,rfl,rfl⟩| ⟨x,t,rfl,rfl⟩
  ·rcases jN hv with⟨j,u,rfl,rfl⟩| ⟨y,u,rfl,rfl⟩
   ·rw[aNv]at h;exact wpAny_eqBool_int h
   ·rw[aNB]at h;exact SeqAt.EqAt.int_str i t y u _ _ _ _ h
  ·rcases jN hv with⟨j,u,rfl,rfl⟩| ⟨y,u,rfl,rfl⟩
   ·rw[aL9]at h;exact SeqAt.EqAt.str_int x t j u _ _ _ _ h
   ·rw[aMB]at h;exact wpAny_eqBool_str h
 «strs»:=fun k x t v h=>by
  rcases jN h with⟨i,u,rfl,e⟩| ⟨y,u,rfl,e⟩
  ·exact nomatch e
  ·injection e with e1 _
   subst e1;cases v<;>rfl
theorem aCz(prog:Program)(w:World)(i:Int)(t:Tok):(iW prog w).is (.inl i) (.int i t)=true:=aFO i t
theorem aC8(prog:Program)(w:World)(x:Str)(t:Tok):(iW prog w).is (.inr x) (.str x t)=true:=aGo x t
inductive V where
 |non|bl (b:Bool)|int (i:Int)|str (x:Str)|byt (b:Array UInt8)|flt (b:UInt64)|ref (a:Addr)|ty (n:String)
 deriving DecidableEq
def RelV:V->Value->Prop
 | .non,u=>u=Value.none
 | .bl b,u=>u=Value.bool b
 | .int i,u=>∃t,u=Value.int i t
 | .str x,u=>∃t,u=Value.str x t
 | .byt b,u=>∃t,u=Value.bytes b t
 | .flt b,u=>∃t,u=Value.float b t
 | .ref a,u=>u=Value.ref a
 | .ty n,u=>u=Value.type n
abbrev Vals:List V->List Value->Prop:=Paired RelV
theorem Vals.length{xs:List V}{us:List Value}(r:Vals xs us):xs.length=us.length:=Paired.length r
theorem Vals.get:∀{xs:List V}{us:List Value}{i:Nat}{x:V},Vals xs us->xs[i]?=some x->∃u,us[i]?=some u/\RelV x u
 |_,_,_,_,.nil,e=>by simp at e
 |_,_,0,_,.cons r _,e=>by simp at e;subst e;exact⟨_,rfl,r⟩
 |_,_,i+1,x,.cons _ t,e=>by
  obtain⟨u,h1,h2⟩:=Vals.get (i:=i) (x:=x) t (by simpa using e)
  exact⟨u,by simpa using h1,h2⟩
theorem Vals.set{x:V}{u:Value}(r:RelV x u):∀{xs:List V}{us:List Value}(i:Nat),Vals xs us->Vals (xs.set i x) (us.set i u)
 |_,_,_,.nil=>.nil
 |_,_,0,.cons _ t=>.cons r t
 |_,_,i+1,.cons q t=>.cons q (Vals.set r i t)
theorem Vals.append:∀{xs ys:List V}{us ws:List Value},Vals xs us->Vals ys ws->Vals (xs++ys) (us++ws)
 |_,_,_,_,.nil,s=>s
 |_,_,_,_,.cons r t,s=>.cons r (Vals.append t s)
theorem Vals.take:∀{xs:List V}{us:List Value}(n:Nat),Vals xs us->Vals (xs.take n) (us.take n)
 |_,_,0,_=>.nil
 |_,_,_+1,.nil=>.nil
 |_,_,n+1,.cons r t=>.cons r (Vals.take n t)
theorem Vals.drop:∀{xs:List V}{us:List Value}(n:Nat),Vals xs us->Vals (xs.drop n) (us.drop n)
 |_,_,0,r=>r
 |_,_,_+1,.nil=>.nil
 |_,_,n+1,.cons _ t=>Vals.drop n t
def pE:Option V->Option Value->Prop
 |some v,some u=>RelV v u
 |none,none=>True
 |_,_=>False
def KV{κ:Type}:List (κ×V)->List (κ×Value)->Prop:=Paired fun(p:κ×V) (q:κ×Value)=>p.1=q.1/\RelV p.2 q.2
noncomputable def kV:Key->V
 | .inl i=>.int i
 | .inr x=>.str x
inductive HO where
 |lst (xs:List V)
 |tup (xs:List V)
 |dK (kvs:List (Key×V))|dT (kvs:List (List Key×V))
 |set (S:Int->Bool) (n:Nat)
 |ins (C dx:Addr) (fs:List (Str×V))
 |own (x:Addr)
 |xd (fs:List (Str×V))
 |met (f x:Addr)
 |rng (lo hi:Int)
 |frz (o:Obj) (u:HO)
 |tbl (ps:Array Value)
 |ext (φ:Heap->Prop)
noncomputable abbrev Hp:=Addr->Option HO
noncomputable def upd(H:Hp)(a:Addr)(o:HO):Hp:=fun b=>if b=a then some o else H b
theorem i6:upd H a o a=some o:=by unfold upd;rw[if_pos rfl]
theorem fP(h:b≠a):upd H a o b=H b:=by unfold upd;rw[if_neg h]
theorem nS{u:HO}(h:H a=some o)(h':H b=some u)(d:o≠u):a≠b:=by
 intro e;subst e;rw[h]at h';exact d (cE.inj h')
theorem nG(h:H a=some o)(h':H b=none):a≠b:=by
 intro e;subst e;rw[h]at h';cases h'
section
variable (P:Program)(w:World)
def jP(H:Hp)(h:Heap)(a:Addr):HO->Prop
 | .lst xs=>xs.length<=sizeLine/\∃(its:List Value)(n:Nat),Vals xs its/\h.get? a=some {cls:=.type "list",data:=.seq its.toArray n}
 | .tup xs=>xs.length<=sizeLine/\∃its:List Value,Vals xs its/\IsTup h a its.toArray
 | .dK kvs=>kvs.length<=sizeLine/\(a==sysModules)=false/\∃vs,KV kvs vs/\h.DictOf (iW P w) a vs
 | .dT kvs=>kvs.length<=sizeLine/\(a==sysModules)=false/\∃xs:List (List Key×Addr×Value),
  Paired (fun(p:List Key×V) (q:List Key×Addr×Value)=>p.1=q.1/\H q.2.1=some (.tup (p.1.map kV))/\RelV p.2 q.2.2) kvs xs/\
  ∃o es ep,h.get? a=some o/\o.ExactDict/\o.data=.dict es ep/\es.toList=xs.map (entryOfKey (tupleKind (iW P w)))/\(xs.map (·.1)).Nodup
 | .set S n=>h.SetOf (intKind P w) a S n
 | .ins C dx fs=>H dx=some (.own a)/\fs.length<=1000/\dx≠a/\h.get? a=some (dP C dx)/\
  ∃mA,h.Ns1 dx mA/\(∀f,pE (fs.lookup f) (mA f))/\PySem.Within mA (fs.map (·.1))
 | .own _=>∃o,h.get? a=some o
 | .xd fs=>∃mA,h.Ns1 a mA/\∀f,pE (fs.lookup f) (mA f)
 | .rng lo hi=>∃t u v,h.get? a=some {cls:=.type "range",data:=.fields #[.int lo t,.int hi u,.int 1 v]}
 | .frz o u=>h.get? a=some o/\jP H h a u
 | .tbl ps=>h.get? a=some {cls:=.none,data:=.fields ps}
 | .met f x=>h.get? a=some (aPt (.ref f) (.ref x))
 | .ext φ=>φ h/\(∃o,h.get? a=some o)/\∀h1 h2:Heap,φ h1->(∀o,h1.get? a=some o->h2.get? a=some o)->φ h2
def HOk(H:Hp)(h:Heap):Prop:=∀a o,H a=some o->jP P w H h a o
end
section
variable {P:Program}{w:World}{H H':Hp}{h h':Heap}{a:Addr}{o:HO}
theorem jP.lt(x:jP P w H h a o):a<h.objs.size:=by
 cases o with
 |lst xs=>obtain⟨_,_,_,_,e⟩:=x;exact Heap.lt_size e
 |tup xs=>obtain⟨_,_,_,p⟩:=x;exact p.lt
 |dK kvs=>obtain⟨_,_,_,_,o,_,_,e,_⟩:=x;exact Heap.lt_size e
 |dT kvs=>obtain⟨_,_,_,_,o,_,_,e,_⟩:=x;exact Heap.lt_size e
 |set S n=>obtain⟨o,_,_,_,e,_⟩:=x;exact Heap.lt_size e
 |ins C dx fs=>obtain⟨_,_,_,e,_⟩:=x;exact Heap.lt_size e
 |own y=>obtain⟨_,e⟩:=x;exact Heap.lt_size e
 |xd fs=>obtain⟨_,⟨_,_,_,e,_⟩,_⟩:=x;exact Heap.lt_size e
 |rng lo hi=>obtain⟨_,_,_,e⟩:=x;exact Heap.lt_size e
 |frz ob u=>obtain⟨e,_⟩:=x;exact Heap.lt_size e
 |tbl ps=>exact Heap.lt_size (show h.get? a=some _ from x)
 |met f y=>exact Heap.lt_size (show h.get? a=some _ from x)
 |ext φ=>obtain⟨_,⟨_,e⟩,_⟩:=x;exact Heap.lt_size e
theorem Paired.mapP{α β:Type}{F G:α->β->Prop}:∀{gn:List α}{gm:List β},Paired F gn gm->(∀a b,F a b->G a b)->Paired G gn gm
 |_,_,.nil,_=>.nil
 |_,_,.cons r t,f=>.cons (f _ _ r) (Paired.mapP t f)
theorem jP.stay(x:jP P w H h a o)(k:∀b u,(b=a\/H b=some (.own a))->h.get? b=some u->h'.get? b=some u)
 (ho:∀b,H b=some (.own a)->H' b=some (.own a))(ht:∀b xs,H b=some (.tup xs)->H' b=some (.tup xs)):jP P w H' h' a o:=by
 induction o with
 |lst xs=>obtain⟨z,its,n,r,e⟩:=x;exact⟨z,its,n,r,k _ _ (.inl rfl) e⟩
 |tup xs=>obtain⟨z,its,r,ob,e,c⟩:=x;exact⟨z,its,r,ob,k _ _ (.inl rfl) e,c⟩
 |dK kvs=>obtain⟨z,y,vs,r,ob,es,ep,e,c⟩:=x;exact⟨z,y,vs,r,ob,es,ep,k _ _ (.inl rfl) e,c⟩
 |dT kvs=>
  obtain⟨z,y,xs,r,ob,es,ep,e,c⟩:=x
  exact⟨z,y,xs,Paired.mapP r fun p q z=>⟨z.1,ht _ _ z.2.1,z.2.2⟩,ob,es,ep,k _ _ (.inl rfl) e,c⟩
 |set S n=>obtain⟨ob,es,ep,t,e,c⟩:=x;exact⟨ob,es,ep,t,k _ _ (.inl rfl) e,c⟩
 |ins C dx fs=>
  obtain⟨d,z,ne,e,mA,⟨od,es,ep,e2,c⟩,r⟩:=x
  exact⟨ho _ d,z,ne,k _ _ (.inl rfl) e,mA,⟨od,es,ep,k _ _ (.inr d) e2,c⟩,r⟩
 |own y=>obtain⟨ob,e⟩:=x;exact⟨ob,k _ _ (.inl rfl) e⟩
 |xd fs=>obtain⟨mA,⟨od,es,ep,e,c⟩,r⟩:=x;exact⟨mA,⟨od,es,ep,k _ _ (.inl rfl) e,c⟩,r⟩
 |rng lo hi=>obtain⟨t,u,v,e⟩:=x;exact⟨t,u,v,k _ _ (.inl rfl) e⟩
 |frz ob u ih=>obtain⟨e,q⟩:=x;exact⟨k _ _ (.inl rfl) e,ih q⟩
 |tbl ps=>
  have e:h.get? a=some {cls:=.none,data:=.fields ps}:=x;show h'.get? a=some {cls:=.none,data:=.fields ps}
  exact k a _ (.inl rfl) e
 |met f y=>
  have e:h.get? a=some (aPt (.ref f) (.ref y)):=x;show h'.get? a=some (aPt (.ref f) (.ref y))
  exact k a _ (.inl rfl) e
 |ext φ=>obtain⟨p,⟨o,e⟩,st⟩:=x;exact⟨st _ _ p fun o q=>k _ _ (.inl rfl) q,⟨o,k _ _ (.inl rfl) e⟩,st⟩
theorem HOk.lt(x:HOk P w H h)(e:H a=some o):a<h.objs.size:=(x a o e).lt
theorem HOk.fresh(x:HOk P w H h)(e:h.objs.size<=a):H a=none:=by
 cases q:H a with
 |none=>rfl
 |some u=>exact absurd (bO (x.lt q) e) (cP _)
theorem HOk.kept(x:HOk P w H h)(k:∀b u,h.get? b=some u->h'.get? b=some u):HOk P w H h':=fun a o e=>
 (x a o e).stay (fun b u _ q=>k b u q) (fun _ q=>q) fun _ _ q=>q
theorem HOk.laid(x:HOk P w H h)(k:∀b u,h.get? b=some u->h'.get? b=some u)(hp:h.objs.size<=a)(new:jP P w (upd H a o) h' a o):HOk P w (upd H a o) h':=fun b u e=>by
 have hn:=x.fresh hp;by_cases hb:b=a
 ·subst hb;rw[i6]at e;cases e;exact new
 ·rw[fP hb]at e
  exact(x b u e).stay (fun c v _ q=>k c v q) (fun c q=>by rw[fP (nG q hn)];exact q) fun c xs q=>by rw[fP (nG q hn)];exact q
end
def Rd(H:Hp)(a:Addr)(u:HO):Prop:=H a=some u\/∃o,H a=some (.frz o u)
theorem Rd.ok{P:Program}{w:World}{H:Hp}{h:Heap}{a:Addr}{u:HO}(r:Rd H a u)(x:HOk P w H h):jP P w H h a u:=by
 rcases r with r| ⟨o,r⟩
 ·exact x a u r
 ·obtain⟨_,q⟩:=x a _ r
  exact q
def Mut:Option HO->Prop
 |some (.lst _)=>True
 |some (.dK _)=>True
 |some (.dT _)=>True
 |some (.set _ _)=>True
 |some (.ins _ _ _)=>True
 |some (.ext _)=>True
 |_=>False
section
variable {P:Program}{w:World}{H:Hp}{h h':Heap}{x e:Addr}{o':HO}
theorem HOk.write(ok:HOk P w H h)(mu:Mut (H x))(he:e=x\/H e=some (.own x))(k:∀b u,b≠e->h.get? b=some u->h'.get? b=some u)(ot:∃u,h'.get? e=some u)
 (new:jP P w (upd H x o') h' x o'):HOk P w (upd H x o') h':=fun b u q=>by
 have qo:∀c y,H c=some (.own y)->c≠x:=fun c y r z=>by subst z;rw[r]at mu;exact mu
 have ww:∀c xs,H c=some (.tup xs)->c≠x:=fun c xs r z=>by subst z;rw[r]at mu;exact mu
 by_cases hb:b=x
 ·subst hb;rw[i6]at q;cases q;exact new
 ·rw[fP hb]at q;by_cases jt:b=e
  ·have q':H b=some (.own x):=by
    rcases he with z|z
    ·exact absurd (jt.trans z) hb
    ·rw[jt];exact z
   rw[q]at q';cases q';obtain⟨v,hv⟩:=ot
   exact⟨v,by rw[jt];exact hv⟩
  ·refine(ok b u q).stay (fun c v hc r=>k c v ?_ r) (fun c r=>by rw[fP (qo c b r)];exact r) fun c xs r=>by rw[fP (ww c xs r)];exact r
   rcases hc with rfl|hc
   ·exact jt
   ·rintro rfl;rcases he with z|z
    ·exact qo c b hc z
    ·rw[hc]at z;cases z;exact hb rfl
end
structure Un(fs ex:List Addr)(H H':Hp)(h h':Heap):Prop where
 keep:∀b o,h.get? b=some o->H b=none->b∉fs->b∉ex->h'.get? b=some o
 slot:∀b o,h.get? b=some o->H b=none->b∈fs->b∉ex->∃sl,h'.get? b=some {o with slots:=sl}
 free:∀b o,h.get? b=some o->H b=none->b∉ex->H' b=none
 there:∀b o,h.get? b=some o->b∉ex->∃o',h'.get? b=some o'
 tups:∀b xs,H b=some (.tup xs)->H' b=some (.tup xs)
 frzs:∀b o u,H b=some (.frz o u)->H' b=some (.frz o u)
 tbls:∀b ps,H b=some (.tbl ps)->∃more,H' b=some (.tbl (ps++more))
section
variable {fs oy ex zm:List Addr}{H H1 H2:Hp}{h h1 h2 h':Heap}{a x e:Addr}{o:HO}
theorem Un.any(u:Un fs ex H H1 h h1){b:Addr}{ob:Obj}(q:h.get? b=some ob)(n:H b=none)(hx:b∉ex):∃sl,h1.get? b=some {ob with slots:=sl}:=by
 by_cases hb:b∈fs
 ·exact u.slot b ob q n hb hx
 ·exact⟨ob.slots,u.keep b ob q n hb hx⟩
theorem Un.kept(k:∀b u,h.get? b=some u->h'.get? b=some u):Un fs ex H H h h':=
 ⟨fun b ob q _ _ _=>k b ob q,fun b ob q _ _ _=>⟨ob.slots,k b ob q⟩,fun _ _ _ n _=>n,fun b ob q _=>⟨ob,k b ob q⟩,fun _ _ q=>q,fun _ _ _ q=>q,fun _ ps q=>⟨#[],by rw[q];simp⟩⟩
theorem Un.refl:Un fs ex H H h h:=Un.kept fun _ _ q=>q
theorem Un.laid(k:∀b u,h.get? b=some u->h'.get? b=some u)(hp:h.objs.size<=a)(hn:H a=none):Un fs ex H (upd H a o) h h' where
 keep:=fun b u q _ _ _=>k b u q
 slot:=fun b u q _ _ _=>⟨u.slots,k b u q⟩
 free:=fun b u q n _=>by rw[fP (bW (bO (Heap.lt_size q) hp))];exact n
 there:=fun b u q _=>⟨u,k b u q⟩
 tups:=fun b xs q=>by rw[fP (nG q hn)];exact q
 frzs:=fun b u xs q=>by rw[fP (nG q hn)];exact q
 tbls:=fun b ps q=>⟨#[],by rw[fP (nG q hn),q];simp⟩
theorem Un.write(mu:Mut (H x))(he:e=x\/H e=some (.own x))(k:∀b u,b≠e->h.get? b=some u->h'.get? b=some u)(ot:∃u,h'.get? e=some u):Un fs ex H (upd H x o) h h':=by
 have hx:∀b,H b=none->b≠x:=fun b n z=>by subst z;rw[n]at mu;exact mu
 have hb:∀b,H b=none->b≠e:=fun b n z=>by
  subst z;rcases he with r|r
  ·exact hx b n r
  ·rw[n]at r;cases r
 have hm:∀b u,H b=some u->¬Mut (some u)->b≠x:=fun b u q nm z=>by subst z;rw[q]at mu;exact nm mu
 refine⟨fun b u q n _ _=>k b u (hb b n) q,fun b u q n _ _=>⟨u.slots,k b u (hb b n) q⟩,fun b u q n _=>by rw[fP (hx b n)];exact n,fun b u q _=>?_,
  fun b xs q=>by rw[fP (hm b _ q fun z=>z)];exact q,fun b u xs q=>by rw[fP (hm b _ q fun z=>z)];exact q,fun b ps q=>⟨#[],by rw[fP (hm b _ q fun z=>z),q];simp⟩⟩
 by_cases jt:b=e
 ·subst jt;exact ot
 ·exact⟨u,k b u jt q⟩
end
noncomputable def trk(h:Heap)(H:Hp):List Addr:=(bI h.objs.size).filter fun a=>(H a).isSome
def aBm(h:Heap)(H:Hp):Heap:=PySem.W.hideAll h (trk h H)
theorem aFH(h:Heap)(H:Hp):(aBm h H).objs.size=h.objs.size:=PySem.W.hideAll_size _ _
theorem aIp{h:Heap}{H:Hp}{b:Addr}{o:Obj}(e:h.get? b=some o)(n:H b=none):(aBm h H).get? b=some o:=
 PySem.W.hideAll_get _ e fun hm=>by
  have q:(H b).isSome=true:=(dB.mp hm).2;rw[n]at q;simp at q
theorem aLh{h:Heap}{H:Hp}{b:Addr}{o:Obj}(e:(aBm h H).get? b=some o):h.get? b=some o/\H b=none:=by
 have e':h.get? b=some o:=PySem.W.of_hideAll (trk h H) e
 refine⟨e',?_⟩
 cases q:H b with
 |none=>rfl
 |some x=>
  have hm:b∈trk h H:=dB.mpr ⟨cT.mpr (Heap.lt_size e'),by simp[q]⟩;have z:(aBm h H).get? b=none:=PySem.W.hideAll_none (trk h H) hm;rw[z]at e;cases e
noncomputable def allNews(g h:Heap)(L:Addr):List (Addr×Obj):=(bI h.objs.size).filterMap fun a=>if a=L\/(g.get? a).isSome=true then none else(h.get? a).map fun o=>(a,o)
def rest(g h:Heap)(L d:Addr):List (Addr×Obj):=(allNews g h L).filter fun p=>decide (p.1≠d)
structure Mod(K:aO)(mg:Str->Option Value)(base:Heap):Prop where
 kin:K.In base
 glob:base.Ns mainGlobals mg
 blt:∃mb,base.Ns builtinsNs mb/\∀x:Str,x≠"__name__"->mb x=bootBuiltins x
 nolimit:base.NoLimit
structure Cx where
 prog:Program
 w:World
 K:aO
 mg:Str->Option Value
 base:Heap
 A:Around
 N:List Str
 s₀:Shared
 H₀:Hp
 env:Env
 outer:List Env
 stack:List Env
 ex:List Addr
 fn:Str->Bool
 calm:Bool
 pn:List (Addr×Obj)
 xe:Value->Shared->Prop
noncomputable def frs(l:List Env):List Addr:=l.filterMap (·.frame)
abbrev Cx.fs(X:Cx):List Addr:=frs X.outer
def Vis(sc:Scope)(x:Str):Prop:=sc.names.lookup x=some .local\/sc.names.lookup x=some .cell\/sc.names.lookup x=some .free
def Loc(sc:Scope)(x:Str):Prop:=sc.names.lookup x=some .local\/sc.names.lookup x=some .cell
def Look(env:Env)(h:Heap)(m:Str->Option Value)(x:Str)(u:Value):Prop:=
 (env.kindOf x=some .local/\m x=some u)\/((env.kindOf x=some .cell\/env.kindOf x=some .free)/\∃c,env.cells.lookup x=some c/\h.IsCell c (some u))
structure Cx.Ok(X:Cx):Prop where
 mod:Mod X.K X.mg X.base
 kind:X.env.scope.kind=.function
 glob:X.env.globals=mainGlobals
 blt:X.env.builtins=builtinsNs
 above:X.s₀.heap.objs.size<=X.env.locals
 inj:∀x y c,X.env.cells.lookup x=some c->X.env.cells.lookup y=some c->x=y
 has:∀x,(X.env.kindOf x=some .cell\/X.env.kindOf x=some .free)->∃c,X.env.cells.lookup x=some c
 cab:∀x c,X.fn x=true->X.env.cells.lookup x=some c->X.s₀.heap.objs.size<=c
 hd:X.calm=true->X.A.handled=none
 frames:X.A.frames=some X.stack
 stk:X.stack=X.outer\/(X.stack=X.env::X.outer/\X.env.frame=some X.env.locals)
 exf:∀b∈X.ex,b≠X.env.locals/\∀x c,X.env.cells.lookup x=some c->c≠b
 bs:∀b o,X.base.get? b=some o->X.s₀.heap.get? b=some o/\X.H₀ b=none
 bsz:X.base.objs.size<=X.s₀.heap.objs.size
 noex:∀b o,X.base.get? b=some o->b∉X.ex
 exfs:∀b∈X.ex,b∉X.fs
 funs:X.s₀.heap.FunFrames X.base X.outer
 frf:∀b∈X.fs,X.H₀ b=none
structure Inv(X:Cx)(aa:List (Addr×Obj))(σ:List (Option V))(H:Hp)(s:Shared):Prop where
 ok:X.Ok
 os:s.os=X.s₀.os
 bare:AllBare s.gens
 base:Un X.fs X.ex X.H₀ H X.s₀.heap s.heap
 loc:∃m,s.heap.Ns X.env.locals m/\∀(i:Nat)(x:Str)(v:V),X.N[i]?=some x->σ[i]?=some (some v)->Vis X.env.scope x->∃u,RelV v u/\Look X.env s.heap m x u
 cell:∀x c,X.env.cells.lookup x=some c->∃v,s.heap.IsCell c v
 free:H X.env.locals=none
 freeC:∀x c,X.env.cells.lookup x=some c->H c=none
 pin:∀p∈X.pn++aa,s.heap.get? p.1=some p.2/\H p.1=none/\p.1≠X.env.locals/\p.1∉X.fs/\∀v,p.2.data≠ .cell v
 hok:HOk X.prog X.w H s.heap
 len:σ.length=X.N.length
section
variable {X:Cx}{aa:List (Addr×Obj)}{σ:List (Option V)}{H H':Hp}{s:Shared}{h':Heap}
variable{g':Array GenState}{t' i:Nat}{d':Drawn}{ch:List Addr}{x:Str}{M:Model}{A:Around}{E:Value->Shared->Prop}{v:V}{u:Value}{Q:Unit->Shared->Prop}
theorem Cx.Ok.nofr(ok:X.Ok){b:Addr}{o:Obj}(e:X.base.get? b=some o):b∉X.fs:=fun hb=>by
 have:=(ok.funs.mem hb).1;rw[e]at this;cases this
theorem Inv.bs(I:Inv X aa σ H s):∀b o,X.base.get? b=some o->s.heap.get? b=some o/\H b=none:=fun b o e=>
 ⟨I.base.keep b o (I.ok.bs b o e).1 (I.ok.bs b o e).2 (I.ok.nofr e) (I.ok.noex b o e),I.base.free b o (I.ok.bs b o e).1 (I.ok.bs b o e).2 (I.ok.noex b o e)⟩
theorem Inv.bk(I:Inv X aa σ H s):∀b o,X.base.get? b=some o->s.heap.get? b=some o:=fun b o e=>(I.bs b o e).1
theorem Inv.mod(I:Inv X aa σ H s):Mod X.K X.mg X.base:=I.ok.mod
theorem Inv.kIn(I:Inv X aa σ H s):X.K.In s.heap:=I.ok.mod.kin.keeps I.bk
theorem Inv.lt(I:Inv X aa σ H s):X.env.locals<s.heap.objs.size:=let ⟨_,hn,_⟩:=I.loc;hn.lt
theorem Inv.sz(I:Inv X aa σ H s):X.s₀.heap.objs.size<=s.heap.objs.size:=cB I.ok.above (aPY I.lt)
theorem Inv.nofs(I:Inv X aa σ H s){a:Addr}(h:s.heap.objs.size<=a):a∉X.fs:=fun hb=>by
 obtain⟨_,o,ho,_⟩:=I.ok.funs.mem hb
 exact absurd (bO (Heap.lt_size ho) (cB I.sz h)) (cP _)
theorem Inv.cne(I:Inv X aa σ H s):∀x c,X.env.cells.lookup x=some c->c≠X.env.locals:=fun x c e z=>by
 obtain⟨v,o,ho,hd⟩:=I.cell x c e;obtain⟨m,⟨o',es,ep,im,jg,_⟩,_⟩:=I.loc;rw[z,im]at ho;cases ho;rw[jg]at hd;cases hd
theorem Inv.funs(I:Inv X aa σ H s):s.heap.FunFrames X.base X.outer:=by
 have all:∀(l:List Env),(∀b∈frs l,b∈X.fs)->X.s₀.heap.FunFrames X.base l->s.heap.FunFrames X.base l:=by
  intro l;induction l with
  |nil=>intro _ _;trivial
  |cons env r ih=>
   intro hs hl;obtain⟨hk,⟨L,o,hf,hn,ho,hd⟩,hr⟩:=hl;have hL:L∈X.fs:=hs L (by unfold frs;rw[aOX,hf];exact bJ);obtain⟨sl,e⟩:=I.base.slot L o ho (I.ok.frf L hL) hL fun z=>I.ok.exfs L z hL
   exact⟨hk,⟨L,_,hf,hn,e,hd⟩,ih (fun b hb=>hs b (by unfold frs;rw[aOX,hf];exact aZ _ hb)) hr⟩
 exact all X.outer (fun _ hb=>hb) I.ok.funs
theorem Inv.stack(I:Inv X aa σ H s):s.heap.FunFrames X.base X.stack:=by
 rcases I.ok.stk with e| ⟨e,hf⟩
 ·rw[e];exact I.funs
 ·rw[e];obtain⟨m,hn,_⟩:=I.loc
  refine .cons (by rw[I.ok.kind];decide) hf hn ?_ I.funs
  exact Heap.get?_none_of_le (cB I.ok.bsz I.ok.above)
theorem Inv.stkSub(I:Inv X aa σ H s):∀b∈frs X.stack,b∈X.env.locals::X.fs:=fun b hb=>by
 rcases I.ok.stk with e| ⟨e,hf⟩
 ·rw[e]at hb;exact aZ _ hb
 ·rw[e]at hb;unfold frs at hb;rw[aOX,hf]at hb
  exact hb
theorem Inv.stkFree(I:Inv X aa σ H s):∀b∈frs X.stack,H b=none:=fun b hb=>by
 rcases bE.mp (I.stkSub b hb)with e|hb
 ·rw[e];exact I.free
 ·obtain⟨_,o,ho,_⟩:=I.ok.funs.mem hb
  exact I.base.free b o ho (I.ok.frf b hb) fun z=>I.ok.exfs b z hb
theorem Inv.step(I:Inv X aa σ H s)
 (bo:∀b∈ch,(b∈X.ex\/X.s₀.heap.objs.size<=b)/\b≠X.env.locals/\(∀x c,X.env.cells.lookup x=some c->c≠b)/\∀p∈X.pn++aa,p.1≠b)
 (keep:∀b o,b≠X.env.locals->b∉X.fs->b∉ch->s.heap.get? b=some o->H b=none->h'.get? b=some o)
 (slot:∀b o,b≠X.env.locals->b∈X.fs->b∉ch->s.heap.get? b=some o->H b=none->∃sl,h'.get? b=some {o with slots:=sl})(free:∀b o,b∉ch->s.heap.get? b=some o->H b=none->H' b=none)
 (there:∀b o,b∉ch->s.heap.get? b=some o->∃o',h'.get? b=some o')
 (tups:∀b xs,H b=some (.tup xs)->H' b=some (.tup xs))(frzs:∀b o u,H b=some (.frz o u)->H' b=some (.frz o u))(tbls:∀b ps,H b=some (.tbl ps)->∃more,H' b=some (.tbl (ps++more)))
 (ns:∀m,s.heap.Ns X.env.locals m->h'.Ns X.env.locals m)(hok:HOk X.prog X.w H' h')(hg:AllBare g'):
 Inv X aa σ H' {s with heap:=h',gens:=g',drawn:=d',toks:=t'}:=by
 have neL:∀b o,X.s₀.heap.get? b=some o->b≠X.env.locals:=fun b o e=>bW (bO (Heap.lt_size e) I.ok.above)
 have uy:∀b o,X.s₀.heap.get? b=some o->b∉X.ex->b∉ch:=fun b o e hx hb=>by
  rcases(bo b hb).1 with z|z
  ·exact hx z
  ·exact absurd (bO (Heap.lt_size e) z) (cP _)
 have cellK:∀x c,X.env.cells.lookup x=some c->∀v,s.heap.IsCell c v->h'.IsCell c v:=fun x c e v ⟨o,ho,hd⟩=>by
  have ie:c∉ch:=fun z=>(bo c z).2.2.1 x c e rfl
  by_cases hc:c∈X.fs
  ·obtain⟨sl,q⟩:=slot c o (I.cne x c e) hc ie ho (I.freeC x c e)
   exact⟨_,q,hd⟩
  ·exact⟨o,keep c o (I.cne x c e) hc ie ho (I.freeC x c e),hd⟩
 refine⟨I.ok,I.os,hg,⟨fun b o e n hb hx=>?_,fun b o e n hb hx=>?_,fun b o e n hx=>?_,fun b o e hx=>?_,fun b xs e=>tups b xs (I.base.tups b xs e),fun b o xs e=>frzs b o xs (I.base.frzs b o xs e),fun b ps e=>?_⟩,?_,fun x c e=>?_,?_,fun x c e=>?_,fun p hp=>?_,hok,I.len⟩
 ·exact keep b o (neL b o e) hb (uy b o e hx) (I.base.keep b o e n hb hx) (I.base.free b o e n hx)
 ·obtain⟨sl,e1⟩:=I.base.slot b o e n hb hx;obtain⟨sl',e2⟩:=slot b _ (neL b o e) hb (uy b o e hx) e1 (I.base.free b o e n hx)
  exact⟨sl',e2⟩
 ·obtain⟨o',e1⟩:=I.base.there b o e hx
  exact free b o' (uy b o e hx) e1 (I.base.free b o e n hx)
 ·obtain⟨o',e1⟩:=I.base.there b o e hx
  exact there b o' (uy b o e hx) e1
 ·obtain⟨m1,e1⟩:=I.base.tbls b ps e;obtain⟨m2,e2⟩:=tbls b _ e1
  exact⟨m1++m2,by rw[e2,Array.append_assoc]⟩
 ·obtain⟨m,hn,hl⟩:=I.loc
  refine⟨m,ns m hn,fun i x v e1 e2 e3=>?_⟩
  obtain⟨u,r,l⟩:=hl i x v e1 e2 e3
  refine⟨u,r,?_⟩
  rcases l with l| ⟨k,c,e,z⟩
  ·exact .inl l
  ·exact .inr ⟨k,c,e,cellK x c e _ z⟩
 ·obtain⟨v,z⟩:=I.cell x c e
  exact⟨v,cellK x c e v z⟩
 ·obtain⟨m,⟨o,_,_,ho,_⟩,_⟩:=I.loc
  exact free _ o (fun z=>(bo _ z).2.1 rfl) ho I.free
 ·obtain⟨v,o,ho,hd⟩:=I.cell x c e
  exact free c o (fun z=>(bo c z).2.2.1 x c e rfl) ho (I.freeC x c e)
 ·obtain⟨e,n,ne,nf,d⟩:=I.pin p hp;have ie:p.1∉ch:=fun z=>(bo p.1 z).2.2.2 p hp rfl
  exact⟨keep p.1 p.2 ne nf ie e n,free p.1 p.2 ie e n,ne,nf,d⟩
theorem Inv.un(I:Inv X aa σ H s)(u:Un X.fs [] H H' s.heap h')(hok:HOk X.prog X.w H' h'):Inv X aa σ H' {s with heap:=h',toks:=t'}:=by
 obtain⟨m,⟨o,es,ep,ho,r⟩,_⟩:=id I.loc;obtain⟨sl,hL⟩:=u.any ho I.free (by simp)
 exact I.step (g':=s.gens) (d':=s.drawn) (ch:=[]) (fun _ z=>nomatch z) (fun b o _ hb _ e n=>u.keep b o e n hb (by simp)) (fun b o _ hb _ e n=>u.slot b o e n hb (by simp)) (fun b o _ e n=>u.free b o e n (by simp)) (fun b o _ e=>u.there b o e (by simp)) u.tups u.frzs u.tbls (fun m' hm=>by
  obtain⟨o',zn,zo,im,r'⟩:=hm;rw[ho]at im;cases im
  exact⟨_,zn,zo,hL,r'⟩) hok I.bare
theorem Inv.call(I:Inv X aa σ H s)(u:Un (frs X.stack) ch H H' s.heap h')(hok:HOk X.prog X.w H' h')(hg:AllBare g')
 (bo:∀b∈ch,(b∈X.ex\/X.s₀.heap.objs.size<=b)/\b≠X.env.locals/\(∀x c,X.env.cells.lookup x=some c->c≠b)/\∀p∈X.pn++aa,p.1≠b):
 Inv X aa σ H' {s with heap:=h',gens:=g',drawn:=d',toks:=t'}:=by
 obtain⟨m,⟨o,es,ep,ho,r⟩,_⟩:=id I.loc;obtain⟨sl,hL⟩:=u.any ho I.free fun z=>(bo _ z).2.1 rfl
 exact I.step (ch:=ch) bo (fun b o hL hb hc e n=>u.keep b o e n (fun z=>(bE.mp (I.stkSub b z)).elim hL hb) hc) (fun b o _ _ hc e n=>u.any e n hc) (fun b o hc e n=>u.free b o e n hc) (fun b o hc e=>u.there b o e hc) u.tups u.frzs u.tbls (fun m' hm=>by
  obtain⟨o',zn,zo,im,r'⟩:=hm;rw[ho]at im;cases im
  exact⟨_,zn,zo,hL,r'⟩) hok hg
theorem Inv.turned{it:Addr}(I:Inv X aa σ H s)(k:∀b o,b≠it->s.heap.get? b=some o->h'.get? b=some o)(hn:H it=none)(hL:it≠X.env.locals)
 (h1:it∈X.ex\/X.s₀.heap.objs.size<=it)(h2:∀x c,X.env.cells.lookup x=some c->c≠it)(h3:∀p∈X.pn++aa,p.1≠it):Inv X aa σ H {s with heap:=h',toks:=t'}:=by
 have nit:∀b u,H b=some u->b≠it:=fun b u e z=>by rw[z,hn]at e;cases e
 refine I.step (g':=s.gens) (d':=s.drawn) (ch:=[it]) (fun b hb=>?_) (fun b o _ _ hc e _=>k b o (fun z=>hc (by simp[z])) e) (fun b o _ _ hc e _=>⟨o.slots,k b o (fun z=>hc (by simp[z])) e⟩) (fun _ _ _ _ n=>n)
  (fun b o hc e=>⟨o,k b o (fun z=>hc (by simp[z])) e⟩) (fun _ _ e=>e) (fun _ _ _ e=>e) (fun b ps e=>⟨#[],by rw[e];simp⟩) (fun m hm=>?_) (fun b u e=>?_) I.bare
 ·have e:b=it:=by simpa using hb
  subst e
  exact⟨h1,hL,h2,h3⟩
 ·obtain⟨o,es,ep,ho,r⟩:=hm
  exact⟨o,es,ep,k _ o (Ne.symm hL) ho,r⟩
 ·refine(I.hok b u e).stay (fun c v hc q=>k c v ?_ q) (fun _ q=>q) fun _ _ q=>q
  rcases hc with z|z
  ·rw[z];exact nit b u e
  ·exact nit c _ z
theorem Inv.tok(I:Inv X aa σ H s)(t:Nat):Inv X aa σ H {s with toks:=t}:=I.un (h':=s.heap) (t':=t) Un.refl I.hok
theorem Inv.kept(I:Inv X aa σ H s)(k:∀b u,s.heap.get? b=some u->h'.get? b=some u):Inv X aa σ H {s with heap:=h',toks:=t'}:=I.un (Un.kept k) (I.hok.kept k)
theorem Inv.laid{a:Addr}{o:HO}(I:Inv X aa σ H s)(k:∀b u,s.heap.get? b=some u->h'.get? b=some u)(hp:s.heap.objs.size<=a)(new:jP X.prog X.w (upd H a o) h' a o):
 Inv X aa σ (upd H a o) {s with heap:=h',toks:=t'}:=I.un (Un.laid k hp (I.hok.fresh hp)) (I.hok.laid k hp new)
theorem Inv.write{x e:Addr}{o:HO}(I:Inv X aa σ H s)(mu:Mut (H x))(he:e=x\/H e=some (.own x))(k:∀b u,b≠e->s.heap.get? b=some u->h'.get? b=some u)(ot:∃u,h'.get? e=some u)
 (new:jP X.prog X.w (upd H x o) h' x o):Inv X aa σ (upd H x o) {s with heap:=h',toks:=t'}:=I.un (Un.write mu he k ot) (I.hok.write mu he k ot new)
theorem Inv.pins_of{kb:List (Addr×Obj)}(I:Inv X aa σ H s)(h:∀p∈kb,s.heap.get? p.1=some p.2/\H p.1=none/\p.1≠X.env.locals/\p.1∉X.fs/\∀v,p.2.data≠ .cell v):Inv X kb σ H s:=
 ⟨I.ok,I.os,I.bare,I.base,I.loc,I.cell,I.free,I.freeC,fun p hp=>(bM.mp hp).elim (fun z=>I.pin p (aOQ _ z)) (h p),I.hok,I.len⟩
theorem aCo{N:List Str}(hN:N.Nodup){j:Nat}(a:N[i]?=some x)(b:N[j]?=some x):i=j:=by
 obtain⟨h1,e1⟩:=aQ.mp a;obtain⟨h2,e2⟩:=aQ.mp b
 exact(aPz hN).mp (e1.trans e2.symm)
theorem aAh(I:Inv X aa σ H s)(hN:X.N.Nodup)(hi:X.N[i]?=some x)(hx:Loc X.env.scope x)(r:RelV v u)
 (h:∀s',Inv X aa (σ.set i (some v)) H s'->(∃a,Heap.SameBut a s.heap s'.heap/\(a=X.env.locals\/X.env.cells.lookup x=some a))->Q () s')(hf:X.fn x=true\/X.env.scope.names.lookup x=some .local:=by first|exact .inl rfl|exact .inr rfl|assumption):wpAny M A (storeName X.env x u) Q E s:=by
 obtain⟨m,hn,hl⟩:=id I.loc;have zb:(X.env.scope.kind== .class||(X.env.scope.kind== .module&&X.env.locals !=X.env.globals))=false:=by rw[I.ok.kind];rfl
 have tj:i<σ.length:=by rw[I.len];exact(aQ.mp hi).1
 have cne:=I.cne;have tracked:∀{a:Addr}{h':Heap},(∃o,s.heap.get? a=some o/\H a=none)->Heap.SameBut a s.heap h'->HOk X.prog X.w H h':=fun {a h'} ha hs b ob e=>by
  obtain⟨_,_,da⟩:=ha
  refine(I.hok b ob e).stay (fun c w' hc q=>(hs.2 c ?_).trans q) (fun _ q=>q) fun _ _ q=>q
  rintro rfl;rcases hc with rfl|hc
  ·rw[da]at e;cases e
  ·rw[da]at hc;cases hc
 rcases hx with hk|hk
 ·refine wpAny_storeName_local hk hn (fun h' kj hs=>?_) zb
  obtain⟨oL,_,_,hoL,_⟩:=id hn
  refine h _ ⟨I.ok,I.os,I.bare,⟨fun b o e n hb hx=>?_,fun b o e n hb hx=>?_,I.base.free,fun b o e hx=>?_,I.base.tups,I.base.frzs,I.base.tbls⟩,⟨_,kj,fun j y v' e1 e2 e3=>?_⟩,fun y c e=>?_,I.free,I.freeC,fun p hp=>?_,tracked ⟨oL,hoL,I.free⟩ hs,by simpa using I.len⟩ ⟨_,hs,.inl rfl⟩
  ·exact(hs.2 b (bW (bO (Heap.lt_size e) I.ok.above))).trans (I.base.keep b o e n hb hx)
  ·obtain⟨sl,e1⟩:=I.base.slot b o e n hb hx
   exact⟨sl,(hs.2 b (bW (bO (Heap.lt_size e) I.ok.above))).trans e1⟩
  ·obtain⟨o',e1⟩:=I.base.there b o e hx
   exact⟨o',(hs.2 b (bW (bO (Heap.lt_size e) I.ok.above))).trans e1⟩
  ·by_cases hj:j=i
   ·subst hj;rw[hi]at e1;cases e1;rw[bN tj]at e2;cases e2
    exact⟨u,r,.inl ⟨hk,by simp⟩⟩
   ·rw[aR (Ne.symm hj)]at e2;obtain⟨u',r',q⟩:=hl j y v' e1 e2 e3
    refine⟨u',r',?_⟩
    rcases q with⟨k,e⟩| ⟨k,c,e,z⟩
    ·refine .inl ⟨k,?_⟩
     have:y≠x:=fun e=>hj (aCo hN e1 (e ▸ hi))
     simp[this,e]
    ·exact .inr ⟨k,c,e,z.sameBut hs (cne y c e)⟩
  ·obtain⟨w',z⟩:=I.cell y c e
   exact⟨w',z.sameBut hs (cne y c e)⟩
  ·obtain⟨e,n,ne,nf,d⟩:=I.pin p hp
   exact⟨(hs.2 p.1 ne).trans e,n,ne,nf,d⟩
 ·have yu:X.fn x=true:=by
   rcases hf with z|z
   ·exact z
   ·rw[z]at hk;cases hk
  obtain⟨c,hc⟩:=I.ok.has x (.inl hk);obtain⟨w',z⟩:=I.cell x c hc
  refine wpAny_storeName_cell I.ok.kind hk hc z (fun h' ou hs=>?_)
  obtain⟨oc,hoc,yf⟩:=id z
  refine h {s with heap:=h'} ⟨I.ok,I.os,I.bare,⟨fun b o e n hb hx=>?_,fun b o e n hb hx=>?_,I.base.free,fun b o e hx=>?_,I.base.tups,I.base.frzs,I.base.tbls⟩,⟨m,hn.sameBut hs (Ne.symm (cne x c hc)),fun j y v' e1 e2 e3=>?_⟩,fun y c' e=>?_,I.free,I.freeC,fun p hp=>?_,tracked ⟨oc,hoc,I.freeC x c hc⟩ hs,by simpa using I.len⟩ ⟨c,hs,.inr hc⟩
  ·exact(hs.2 b (bW (bO (Heap.lt_size e) (I.ok.cab x c yu hc)))).trans (I.base.keep b o e n hb hx)
  ·obtain⟨sl,e1⟩:=I.base.slot b o e n hb hx
   exact⟨sl,(hs.2 b (bW (bO (Heap.lt_size e) (I.ok.cab x c yu hc)))).trans e1⟩
  ·obtain⟨o',e1⟩:=I.base.there b o e hx
   exact⟨o',(hs.2 b (bW (bO (Heap.lt_size e) (I.ok.cab x c yu hc)))).trans e1⟩
  ·by_cases hj:j=i
   ·subst hj;rw[hi]at e1;cases e1;rw[bN tj]at e2;cases e2
    exact⟨u,r,.inr ⟨.inl hk,c,hc,ou⟩⟩
   ·rw[aR (Ne.symm hj)]at e2;obtain⟨u',r',q⟩:=hl j y v' e1 e2 e3
    refine⟨u',r',?_⟩
    rcases q with q| ⟨k,c',e,z'⟩
    ·exact .inl q
    ·refine .inr ⟨k,c',e,z'.sameBut hs ?_⟩
     rintro rfl
     exact hj (aCo hN e1 (I.ok.inj _ _ _ e hc ▸ hi))
  ·by_cases hcc:c'=c
   ·subst hcc;exact⟨_,ou⟩
   ·obtain⟨w2,z2⟩:=I.cell y c' e
    exact⟨w2,z2.sameBut hs hcc⟩
  ·obtain⟨e,n,ne,nf,d⟩:=I.pin p hp
   refine⟨(hs.2 p.1 ?_).trans e,n,ne,nf,d⟩
   intro q;rw[q,hoc]at e;have q':oc=p.2:=cE.inj e
   exact d w' (by rw[<-q'];exact yf)
theorem yN(I:Inv X aa σ H s)(hN:X.N.Nodup)(hi:X.N[i]?=some x)(hx:Loc X.env.scope x)(r:RelV v u)
 (h:∀s',Inv X aa (σ.set i (some v)) H s'->Q () s')(hf:X.fn x=true\/X.env.scope.names.lookup x=some .local:=by first|exact .inl rfl|exact .inr rfl|assumption):wpAny M A (storeName X.env x u) Q E s:=
 aAh I hN hi hx r (fun s' I' _=>h s' I') hf
theorem Inv.call'{s':Shared}(I:Inv X aa σ H s)(ho:s'.os=s.os)(u:Un (frs X.stack) ch H H' s.heap s'.heap)(hok:HOk X.prog X.w H' s'.heap)(hg:AllBare s'.gens)
 (bo:∀b∈ch,(b∈X.ex\/X.s₀.heap.objs.size<=b)/\b≠X.env.locals/\(∀x c,X.env.cells.lookup x=some c->c≠b)/\∀p∈X.pn++aa,p.1≠b):Inv X aa σ H' s':=by
 obtain⟨h',g',d',t',o'⟩:=s';have e:o'=s.os:=ho;subst e
 exact I.call (g':=g') (t':=t') (d':=d') u hok hg bo
end
abbrev XK:=Value->Option Addr->Hp->Prop
noncomputable abbrev St:=List (Option V)
abbrev VK:=V->Hp->Prop
abbrev TE:=St->Hp->VK->Prop
abbrev TT:=St->Hp->(Bool->Hp->Prop)->Prop
abbrev TA:=St->Hp->(List V->Hp->Prop)->Prop
structure Ends where
 nx:St->Hp->Prop
 rt:VK
 bk:St->Hp->Prop:=fun _ _=>False
 ct:St->Hp->Prop:=fun _ _=>False
abbrev TS:=Ends->St->Hp->Prop
def EP(X:Cx)(aa:List (Addr×Obj))(σ:St)(Q:VK)(u:Value)(s':Shared):Prop:=∃v H',Inv X aa σ H' s'/\RelV v u/\Q v H'
def TP(X:Cx)(aa:List (Addr×Obj))(σ:St)(Q:Bool->Hp->Prop)(b:Bool)(s':Shared):Prop:=∃H',Inv X aa σ H' s'/\Q b H'
def AP(X:Cx)(aa:List (Addr×Obj))(σ:St)(Q:List V->Hp->Prop)(us:List Value)(s':Shared):Prop:=∃vs H',Inv X aa σ H' s'/\Vals vs us/\Q vs H'
def SP(X:Cx)(aa:List (Addr×Obj))(D:Ends)(f:Flow)(s':Shared):Prop:=
 match f with
 | .next=>∃ah H',Inv X aa ah H' s'/\D.nx ah H'
 | .brk=>∃ah H',Inv X aa ah H' s'/\D.bk ah H'
 | .cont=>∃ah H',Inv X aa ah H' s'/\D.ct ah H'
 | .ret u=>∃v ah H',Inv X aa ah H' s'/\RelV v u/\D.rt v H'
def PE(X:Cx)(e:Expr)(t:TE):Prop:=
 ∀(aa:List (Addr×Obj))(s:Shared)(σ:St)(H:Hp)(Q:VK),Inv X aa σ H s->t σ H Q->wpAny (model X.prog X.w) X.A (eval e X.env) (EP X aa σ Q) X.xe s
def PT(X:Cx)(e:Expr)(t:TT):Prop:=
 ∀(aa:List (Addr×Obj))(s:Shared)(σ:St)(H:Hp)(Q:Bool->Hp->Prop),Inv X aa σ H s->t σ H Q->wpAny (model X.prog X.w) X.A (isTrue e X.env (eval e X.env)) (TP X aa σ Q) X.xe s
def PW(X:Cx)(e:Expr)(t:TT):Prop:=
 ∀(whole:Sem Value)(aa:List (Addr×Obj))(s:Shared)(σ:St)(H:Hp)(Q:Bool->Hp->Prop),Inv X aa σ H s->t σ H Q->wpAny (model X.prog X.w) X.A (isTrue e X.env whole) (TP X aa σ Q) X.xe s
theorem PW.pt{X:Cx}{e:Expr}{t:TT}(h:PW X e t):PT X e t:=h _
def PA(X:Cx)(es:List Expr)(t:TA):Prop:=
 ∀(pos:Pos)(aa:List (Addr×Obj))(s:Shared)(σ:St)(H:Hp)(Q:List V->Hp->Prop),Inv X aa σ H s->t σ H Q->wpAny (model X.prog X.w) X.A (spliced (backTo pos (starEach es X.env))) (AP X aa σ Q) X.xe s
def PS(X:Cx)(st:Stmt)(t:TS):Prop:=
 ∀(aa:List (Addr×Obj))(s:Shared)(σ:St)(H:Hp)(D:Ends),Inv X aa σ H s->t D σ H->wpAny (model X.prog X.w) X.A (exec st X.env) (SP X aa D) X.xe s
def PSs(X:Cx)(st:List Stmt)(t:TS):Prop:=
 ∀(aa:List (Addr×Obj))(s:Shared)(σ:St)(H:Hp)(D:Ends),Inv X aa σ H s->t D σ H->wpAny (model X.prog X.w) X.A (execs st X.env) (SP X aa D) X.xe s
theorem thn{α:Type}{t:Sem α}{Q Q':α->Shared->Prop}{M:Model}{A:Around}{E:Value->Shared->Prop}{s:Shared}(h:wpAny M A t Q E s)(hQ:∀a s,Q a s->Q' a s):wpAny M A t Q' E s:=wpAny_mono h hQ fun _ _ x=>x
section
variable {X:Cx}
variable{x:Str}{pos:Pos}{E Q:Value->Shared->Prop}{aa:List (Addr×Obj)}{s:Shared}{σ:St}{u:Value}{v:V}
noncomputable def tVar(i:Nat):TE:=fun σ H Q=>∃v,σ[i]?=some (some v)/\Q v H
noncomputable def tC(v:V):TE:=fun _ H Q=>Q v H
theorem aMa{i:Nat}(hN:X.N[i]?=some x)(hv:Vis X.env.scope x)(hd:(x==("__debug__":Str))=false:=by decide)(iu:(x==("__classdict__":Str))=false:=by decide):PE X (.Name x pos) (tVar i):=by
 intro aa s σ H Q I h;obtain⟨v,e,h⟩:=h;obtain⟨m,hn,hl⟩:=I.loc;obtain⟨u,r,l⟩:=hl i x v hN e hv;have fin:EP X aa σ Q u s:=⟨v,H,I,r,h⟩;rcases l with⟨hk,hm⟩| ⟨hk,c,hc,gj⟩
 ·exact wpAny_Name (wpAny_loadName_local I.ok.kind hk hn hm fin) hd
 ·rcases hk with hk|hk
  ·exact wpAny_Name (wpAny_loadName_cell I.ok.kind hk hc gj fin) hd
  ·exact wpAny_Name (wpAny_loadName_free I.ok.kind hk hc gj fin iu) hd
theorem aDR{i j pos}:PE X (.Constant (.int i) j pos) (tC (.int i)):=fun _ _ _ H _ I h=>wpAny_Constant_int ⟨.int i,H,I.tok _,⟨_,rfl⟩,h⟩
theorem aN2{b j pos}:PE X (.Constant (.bool b) j pos) (tC (.bl b)):=fun _ _ _ H _ I h=>Constant_bool ⟨.bl b,H,I,rfl,h⟩
theorem aNi{j pos}:PE X (.Constant .none j pos) (tC .non):=fun _ _ _ H _ I h=>Constant_none ⟨.non,H,I,rfl,h⟩
def Gl(X:Cx)(x:Str):Prop:=X.env.kindOf x=some .globalImplicit
theorem aBB{H:Hp}(I:Inv X aa σ H s)(hg:Gl X x)(hm:X.mg x=some u)(h:Q u s)
 (hd:(x==("__debug__":Str))=false:=by decide):wpAny (model X.prog X.w) X.A (eval (.Name x pos) X.env) Q E s:=
 Calls.Name_function_global I.ok.kind hg (Calls.loadGlobal_global (by rw[I.ok.glob];exact I.mod.glob.keeps I.bk) hm h) hd
theorem pQ{H:Hp}(I:Inv X aa σ H s)(hg:Gl X x)(hm:X.mg x=none)(hv:bootBuiltins x=some u)(h:Q u s)
 (hn:x≠"__name__":=by decide)(hd:(x==("__debug__":Str))=false:=by decide):wpAny (model X.prog X.w) X.A (eval (.Name x pos) X.env) Q E s:=by
 obtain⟨mb,h1,h2⟩:=I.mod.blt
 exact Calls.Name_function_global I.ok.kind hg (Calls.loadGlobal_builtin (by rw[I.ok.glob];exact I.mod.glob.keeps I.bk) hm (by rw[I.ok.blt];exact h1.keeps I.bk) ((h2 x hn).trans hv) h) hd
theorem aJ7(hg:Gl X x)(hm:X.mg x=some u)(r:RelV v u)(hd:(x==("__debug__":Str))=false:=by decide):PE X (.Name x pos) (tC v):=
 fun _ _ _ H _ I h=>aBB I hg hm ⟨v,H,I,r,h⟩ hd
theorem aJi(hg:Gl X x)(hm:X.mg x=none)(hv:bootBuiltins x=some u)(r:RelV v u)(hn:x≠"__name__":=by decide)(hd:(x==("__debug__":Str))=false:=by decide):PE X (.Name x pos) (tC v):=
 fun _ _ _ H _ I h=>pQ I hg hm hv ⟨v,H,I,r,h⟩ hn hd
variable {a b:Expr}{ta tb:TE}{pos:Pos}
def PC(X:Cx)(op:CmpOp)(a b:Expr)(t:TE):Prop:=
 ∀(aa:List (Addr×Obj))(s:Shared)(σ:St)(H:Hp)(Q:VK),Inv X aa σ H s->t σ H Q->
  wpAny (model X.prog X.w) X.A (eval a X.env) (fun v aj=>wpAny (model X.prog X.w) X.A (eval b X.env) (fun u bi=>wpAny (model X.prog X.w) X.A (compareOp op v u) (EP X aa σ Q) X.xe bi) X.xe aj) X.xe s
noncomputable def tB(t:TE):TT:=fun σ H Q=>t σ H fun x H1=>∃c,x=.bl c/\Q c H1
theorem aIr{op:CmpOp}{t:TE}(h:PC X op a b t)(h1:behindInMarks op b=false:=by first|exact qp _ (by decide) (by decide)|rfl):PT X (.Compare a [op] [b] pos) (tB t):=by
 intro aa s σ H Q I hw
 refine wpAny_isTrue_Compare1 (thn (h aa s σ H _ I hw) fun v s1 h1=>thn h1 fun u s2 h2=>thn h2 fun c s3 ⟨x,H1,I1,r1,q1⟩=>?_) h1
 obtain⟨d,rfl,q⟩:=q1;cases r1
 exact wpAny_truthy_bool ⟨H1,I1,q⟩
variable {tA uu:TT}{rest:List Expr}
noncomputable def tAnd(t u:TT):TT:=fun σ H Q=>t σ H fun c H1=>if c=true then u σ H1 Q else Q false H1
noncomputable def tOr(t u:TT):TT:=fun σ H Q=>t σ H fun c H1=>if c=true then Q true H1 else u σ H1 Q
noncomputable def tNot(t:TT):TT:=fun σ H Q=>t σ H fun c H1=>Q (!c) H1
theorem aJJ(ha:PT X a tA):PW X (.BoolOp .And [a] pos) tA:=by
 intro wh aa s σ H Q I h
 refine isTrue_and (thn (ha aa s σ H Q I h) fun c s1 e=>?_)
 cases c with
 |true=>exact isTrue_and_nil e
 |false=>exact e
theorem aMh(ha:PT X a tA):PW X (.BoolOp .Or [a] pos) tA:=by
 intro wh aa s σ H Q I h
 refine isTrue_or (thn (ha aa s σ H Q I h) fun c s1 e=>?_)
 cases c with
 |false=>exact isTrue_or_nil e
 |true=>exact e
theorem aM7(ha:PT X a tA)(hb:PW X (.BoolOp .And (b::rest) pos) uu):PW X (.BoolOp .And (a::b::rest) pos) (tAnd tA uu):=by
 intro wh aa s σ H Q I h
 refine isTrue_and (thn (ha aa s σ H _ I h) fun c s1 ⟨H1,I1,q1⟩=>?_)
 cases c with
 |true=>exact hb wh aa s1 σ H1 Q I1 q1
 |false=>exact⟨H1,I1,q1⟩
theorem aNR(ha:PT X a tA)(hb:PW X (.BoolOp .Or (b::rest) pos) uu):PW X (.BoolOp .Or (a::b::rest) pos) (tOr tA uu):=by
 intro wh aa s σ H Q I h
 refine isTrue_or (thn (ha aa s σ H _ I h) fun c s1 ⟨H1,I1,q1⟩=>?_)
 cases c with
 |true=>exact⟨H1,I1,q1⟩
 |false=>exact hb wh aa s1 σ H1 Q I1 q1
theorem aMn(ha:PT X a tA):PT X (.UnaryOp .Not a pos) (tNot tA):=by
 intro aa s σ H Q I h
 exact isTrue_not (ha aa s σ H (fun c H1=>Q (!c) H1) I h)
noncomputable def tAndV(ta tb:TE):TE:=fun σ H Q=>ta σ H fun x H1=>∃c,x=.bl c/\if c=true then tb σ H1 Q else Q (.bl false) H1
noncomputable def tNotV(ta:TE):TE:=fun σ H Q=>ta σ H fun x H1=>∃c,x=.bl c/\Q (.bl (!c)) H1
theorem aM9{op}{t:TE}(h:PE X a t):PE X (.BoolOp op [a] pos) t:=fun aa s σ H Q I hw=>BoolOp_one (h aa s σ H Q I hw)
theorem aNH(ha:PE X a ta)(hb:PE X (.BoolOp .And (b::rest) pos) tb):PE X (.BoolOp .And (a::b::rest) pos) (tAndV ta tb):=by
 intro aa s σ H Q I h
 refine BoolOp_and (thn (ha aa s σ H _ I h) fun v s1 zz=>?_)
 obtain⟨x,H1,I1,r1,q1⟩:=zz;obtain⟨c,rfl,q1⟩:=q1;cases r1
 refine wpAny_truthy_bool ?_
 cases c with
 |true=>exact hb aa s1 σ H1 Q I1 q1
 |false=>exact⟨.bl false,H1,I1,rfl,q1⟩
theorem aNO(ha:PE X a ta):PE X (.UnaryOp .Not a pos) (tNotV ta):=by
 intro aa s σ H Q I h
 refine UnaryOp_ (thn (ha aa s σ H _ I h) fun v s1 zz=>?_)
 obtain⟨x,H1,I1,r1,q1⟩:=zz;obtain⟨c,rfl,q1⟩:=q1;cases r1
 exact not_of (wpAny_truthy_bool ⟨.bl (!c),H1,I1,rfl,q1⟩)
noncomputable def tIf(t:TT)(ta tb:TE):TE:=fun σ H Q=>t σ H fun c H1=>if c=true then ta σ H1 Q else tb σ H1 Q
theorem aII{c:Expr}(hc:PT X c tA)(ha:PE X a ta)(hb:PE X b tb):PE X (.IfExp c a b pos) (tIf tA ta tb):=by
 intro aa s σ H Q I h
 refine wpAny_IfExp (thn (hc aa s σ H _ I h) fun d s1 ⟨H1,I1,q1⟩=>?_)
 cases d with
 |true=>exact ha aa s1 σ H1 Q I1 q1
 |false=>exact hb aa s1 σ H1 Q I1 q1
end
variable{x:V}{u:Value}
def SqL(K:aO)(H:Hp)(a:Addr)(xs:List V):Prop:=
 Rd H a (.lst xs)\/
  ∃(o:Obj)(its:Array Value)(n:Nat),K.lookup a=some o/\o.cls=.type "list"/\o.dict=none/\o.data=.seq its n/\its.size<=sizeLine/\Vals xs its.toList
def SqT(K:aO)(H:Hp)(a:Addr)(xs:List V):Prop:=
 Rd H a (.tup xs)\/
  ∃(o:Obj)(its:Array Value)(n:Nat),K.lookup a=some o/\o.cls=.type "tuple"/\o.data=.seq its n/\its.size<=sizeLine/\Vals xs its.toList
noncomputable def absV:Value->Option V
 | .none=>some .non
 | .bool b=>some (.bl b)
 | .int i _=>some (.int i)
 | .str x _=>some (.str x)
 | .bytes b _=>some (.byt b)
 | .float b _=>some (.flt b)
 | .ref a=>some (.ref a)
 | .type n=>some (.ty n)
 |_=>none
theorem RelV.abs(r:RelV x u):absV u=some x:=by
 cases x with
 |non=>cases r;rfl
 |bl _=>cases r;rfl
 |int _=>obtain⟨t,rfl⟩:=r;rfl
 |str _=>obtain⟨t,rfl⟩:=r;rfl
 |byt _=>obtain⟨t,rfl⟩:=r;rfl
 |flt _=>obtain⟨t,rfl⟩:=r;rfl
 |ref _=>cases r;rfl
 |ty _=>cases r;rfl
theorem RelV.inj{y:V}(r:RelV x u)(q:RelV y u):x=y:=cE.inj (r.abs.symm.trans q.abs)
theorem Vals.inj:∀{xs ys:List V}{us:List Value},Vals xs us->Vals ys us->xs=ys
 |_,_,_,.nil,.nil=>rfl
 |_,_,_,.cons r t,.cons r' t'=>by rw[r.inj r',Vals.inj t t']
section
variable {X:Cx}{aa:List (Addr×Obj)}{σ:St}{H:Hp}{s:Shared}{a:Addr}{xs ys:List V}
variable{K:aO}
theorem SqL.of(h:H a=some (.lst xs)):SqL K H a xs:=.inl (.inl h)
theorem SqT.of(h:H a=some (.tup xs)):SqT K H a xs:=.inl (.inl h)
theorem Inv.list(I:Inv X aa σ H s)(h:SqL X.K H a xs):∃its:List Value,Vals xs its/\PlainL s.heap a its.toArray/\xs.length<=sizeLine:=by
 rcases h with h| ⟨o,its,n,hk,hc,hd,hs,hz,r⟩
 ·obtain⟨z,its,n,r,e⟩:=h.ok I.hok
  exact⟨its,r,⟨_,n,e,rfl,rfl,rfl⟩,z⟩
 ·refine⟨its.toList,r,⟨o,n,I.kIn a o hk,hc,hd,by simpa using hs⟩,?_⟩
  have e:=r.length;simp only[b7]at e
  lia
theorem Inv.tuple(I:Inv X aa σ H s)(h:SqT X.K H a xs):∃its:List Value,Vals xs its/\IsTup s.heap a its.toArray/\xs.length<=sizeLine:=by
 rcases h with h| ⟨o,its,n,hk,hc,hs,hz,r⟩
 ·obtain⟨z,its,r,p⟩:=h.ok I.hok
  exact⟨its,r,p,z⟩
 ·refine⟨its.toList,r,⟨o,I.kIn a o hk,hc,n,by simpa using hs⟩,?_⟩
  have e:=r.length;simp only[b7]at e
  lia
theorem Inv.list_inj(I:Inv X aa σ H s)(h:SqL X.K H a xs)(h':SqL X.K H a ys):xs=ys:=by
 obtain⟨its,r,⟨o,n,e,_,_,d⟩,_⟩:=I.list h;obtain⟨its',r',⟨o',n',e',_,_,d'⟩,_⟩:=I.list h';rw[e]at e';cases e';rw[d]at d';injection d' with d1 _
 have:its=its':=by simpa using congrArg Array.toList d1
 subst this
 exact r.inj r'
end
noncomputable abbrev Cx.wish(X:Cx)(E:Value->Shared->Prop):Cx:={X with xe:=E}
abbrev Cx.nox(X:Cx):Cx:=X.wish fun _ _=>False
theorem Cx.Ok.wish{X:Cx}(ok:X.Ok)(E:Value->Shared->Prop):(X.wish E).Ok:=
 ⟨ok.mod,ok.kind,ok.glob,ok.blt,ok.above,ok.inj,ok.has,ok.cab,ok.hd,ok.frames,ok.stk,ok.exf,ok.bs,ok.bsz,ok.noex,ok.exfs,ok.funs,ok.frf⟩
theorem Cx.Ok.unwish{X:Cx}{E:Value->Shared->Prop}(ok:(X.wish E).Ok):X.Ok:=
 ⟨ok.mod,ok.kind,ok.glob,ok.blt,ok.above,ok.inj,ok.has,ok.cab,ok.hd,ok.frames,ok.stk,ok.exf,ok.bs,ok.bsz,ok.noex,ok.exfs,ok.funs,ok.frf⟩
section
variable {X:Cx}{aa:List (Addr×Obj)}{σ:St}{H:Hp}{s:Shared}{E:Value->Shared->Prop}
theorem Inv.wish(I:Inv X aa σ H s)(E:Value->Shared->Prop):Inv (X.wish E) aa σ H s:=⟨I.ok.wish E,I.os,I.bare,I.base,I.loc,I.cell,I.free,I.freeC,I.pin,I.hok,I.len⟩
theorem Inv.unwish(I:Inv (X.wish E) aa σ H s):Inv X aa σ H s:=⟨I.ok.unwish,I.os,I.bare,I.base,I.loc,I.cell,I.free,I.freeC,I.pin,I.hok,I.len⟩
theorem SP.unwish{D:Ends}{f:Flow}{s':Shared}(h:SP (X.wish E) aa D f s'):SP X aa D f s':=by
 cases f with
 |next=>obtain⟨ah,H',I,q⟩:=h;exact⟨ah,H',I.unwish,q⟩
 |brk=>obtain⟨ah,H',I,q⟩:=h;exact⟨ah,H',I.unwish,q⟩
 |cont=>obtain⟨ah,H',I,q⟩:=h;exact⟨ah,H',I.unwish,q⟩
 |ret u=>obtain⟨v,ah,H',I,r,q⟩:=h;exact⟨v,ah,H',I.unwish,r,q⟩
theorem PSs.nox{st:List Stmt}{t:TS}(h:PSs X.nox st t):PSs X st t:=fun aa s σ H D I hw=>
 wpAny_mono (h aa s σ H D (I.wish _) hw) (fun _ _ q=>q.unwish) fun _ _ z=>False.elim z
end
section
variable {X:Cx}{st:Stmt}{rest:List Stmt}{t u:TS}{e:Expr}{te:TE}{pos:Pos}
noncomputable def aG5:TS:=fun D σ H=>D.nx σ H
noncomputable def tSeq(t u:TS):TS:=fun D σ H=>t {D with nx:=u D} σ H
theorem aKZ:PSs X [] aG5:=fun _ _ σ H _ I h=>wpAny_execs_nil ⟨σ,H,I,h⟩
theorem aIR(h1:PS X st t)(h2:PSs X rest u):PSs X (st::rest) (tSeq t u):=by
 intro aa s σ H D I h
 refine wpAny_execs_cons (thn (h1 aa s σ H {D with nx:=u D} I h) fun f s1 q=>?_)
 cases f with
 |next=>
  obtain⟨ah,H',I',q⟩:=q
  exact h2 aa s1 ah H' D I' q
 |ret v=>exact q
 |brk=>exact q
 |cont=>exact q
theorem aKj(h1:PS X st t):PSs X [st] t:=by
 intro aa s σ H D I h
 refine wpAny_execs_cons (thn (h1 aa s σ H D I h) fun f s1 q=>?_)
 cases f with
 |next=>exact wpAny_execs_nil q
 |ret v=>exact q
 |brk=>exact q
 |cont=>exact q
theorem aK9:PS X (.Pass pos) aG5:=fun _ _ σ H _ I h=>wpAny_Pass ⟨σ,H,I,h⟩
theorem Inv.quiet{aa:List (Addr×Obj)}{σ:St}{H:Hp}{s:Shared}(I:Inv X aa σ H s):interactive X.env=false:=by simp[interactive,I.ok.kind]
noncomputable def aE6(te:TE):TS:=fun D σ H=>te σ H fun _ H1=>D.nx σ H1
theorem wG(he:PE X e te)(hs:swapsWith e none pos.line X.env=pure false:=by rfl):PS X (.Expr e pos) (aE6 te):=by
 intro aa s σ H D I h
 exact wpAny_Expr_any (thn (he aa s σ H _ I h) fun v s1 ⟨x,H1,I1,r1,q1⟩=>⟨σ,H1,I1,q1⟩) I.quiet hs
def tRet(te:TE):TS:=fun D σ H=>te σ H D.rt
theorem aLR(he:PE X e te):PS X (.Return (some e) pos) (tRet te):=by
 intro aa s σ H D I h
 exact wpAny_Return_some (thn (he aa s σ H _ I h) fun v s1 ⟨x,H1,I1,r1,q1⟩=>⟨x,σ,H1,I1,r1,q1⟩)
noncomputable def tIfS(c:TT)(t u:TS):TS:=fun D σ H=>c σ H fun b H1=>if b=true then t D σ H1 else u D σ H1
theorem aOu{c:Expr}{a b:List Stmt}{tc:TT}(hc:PT X c tc)(ha:PSs X a t)(hb:PSs X b u):PS X (.If c a b pos) (tIfS tc t u):=by
 intro aa s σ H D I h
 refine wpAny_If (thn (hc aa s σ H _ I h) fun d s1 ⟨H1,I1,q1⟩=>?_)
 cases d with
 |true=>exact ha aa s1 σ H1 D I1 q1
 |false=>exact hb aa s1 σ H1 D I1 q1
end
abbrev TG:=V->St->Hp->(St->Hp->Prop)->Prop
abbrev TGs:=List V->St->Hp->(St->Hp->Prop)->Prop
def PG(X:Cx)(target:Expr)(t:TG):Prop:=
 ∀(aa:List (Addr×Obj))(s:Shared)(σ:St)(H:Hp)(v:V)(u:Value)(Q:St->Hp->Prop),Inv X aa σ H s->RelV v u->t v σ H Q->
  wpAny (model X.prog X.w) X.A (assign target X.env u) (fun _ s'=>∃ah H',Inv X aa ah H' s'/\Q ah H') X.xe s
def PGs(X:Cx)(ts:List Expr)(t:TGs):Prop:=
 ∀(aa:List (Addr×Obj))(s:Shared)(σ:St)(H:Hp)(vs:List V)(us:List Value)(Q:St->Hp->Prop),Inv X aa σ H s->Vals vs us->t vs σ H Q->
  wpAny (model X.prog X.w) X.A (assignInOrder ((assignEach ts X.env).map (·.2)) us) (fun _ s'=>∃ah H',Inv X aa ah H' s'/\Q ah H') X.xe s
abbrev aHF:=V->V->V->Hp->(Hp->Prop)->Prop
def aMR(X:Cx)(t:aHF):Prop:=
 ∀(aa:List (Addr×Obj))(s:Shared)(σ:St)(H:Hp)(o i v:V)(ov iv u:Value)(Q:Hp->Prop),Inv X aa σ H s->RelV o ov->RelV i iv->RelV v u->t o i v H Q->
  wpAny (model X.prog X.w) X.A (setItem ov iv u) (fun _ s'=>∃H',Inv X aa σ H' s'/\Q H') X.xe s
abbrev TIp:=V->V->Hp->VK->Prop
def PIp(X:Cx)(op:Operator)(t:TIp):Prop:=
 ∀(aa:List (Addr×Obj))(s:Shared)(σ:St)(H:Hp)(x y:V)(v u:Value)(Q:VK),Inv X aa σ H s->RelV x v->RelV y u->t x y H Q->
  wpAny (model X.prog X.w) X.A (inplaceOp op v u) (EP X aa σ Q) X.xe s
section
variable {X:Cx}{pos:Pos}
variable{i:Nat}{e:Expr}{es:List Expr}{to ti te:TE}{ao:Pos}{op:Operator}
noncomputable def r9(i:Nat):TG:=fun v σ H Q=>Q (σ.set i (some v)) H
theorem aFg{x:Str}(hN:X.N.Nodup)(hi:X.N[i]?=some x)(hx:Loc X.env.scope x)(hf:X.fn x=true\/X.env.scope.names.lookup x=some .local:=by first|exact .inl rfl|exact .inr rfl|assumption):PG X (.Name x pos) (r9 i):=by
 intro aa s σ H v u Q I r h
 exact wpAny_assign_Name (yN I hN hi hx r (fun s' I'=>⟨_,H,I',h⟩) hf)
noncomputable def aKE:TGs:=fun vs σ H Q=>vs=[]/\Q σ H
noncomputable def aE2(t:TG)(u:TGs):TGs:=fun vs σ H Q=>∃v r,vs=v::r/\t v σ H fun ah H'=>u r ah H' Q
theorem aJn:PGs X [] aKE:=by
 intro aa s σ H vs us Q I r h;obtain⟨e,h⟩:=h;subst e;cases r
 exact assignInOrder_nil ⟨σ,H,I,h⟩
theorem aG9{t:TG}{u:TGs}(h1:PG X e t)(h2:PGs X es u)
 (hs:(assignEach (e::es) X.env).map (·.2)=assign e X.env::(assignEach es X.env).map (·.2):=by rfl):PGs X (e::es) (aE2 t u):=by
 intro aa s σ H vs us Q I r h;obtain⟨v,vr,e1,h⟩:=h;subst e1;cases r with
 |cons r rr=>
  rw[hs]
  refine assignInOrder_cons (thn (h1 aa s σ H _ _ _ I r h) fun _ s1 zz=>?_)
  obtain⟨cv,H1,I1,q1⟩:=zz
  exact h2 aa s1 cv H1 _ _ Q I1 rr q1
noncomputable def gTup(K:aO)(n:Nat)(t:TGs):TG:=fun v σ H Q=>∃a xs,v=.ref a/\SqT K H a xs/\xs.length=n/\t xs σ H Q
theorem aNn{k:Nat}{t:TGs}{n:Nat}(hc:X.calm=true)(h:PGs X es t)
 (hn:(assignEach es X.env).length=n:=by rfl)(bc:(assignEach es X.env).findIdx? (·.1)=none:=by rfl):PG X (.Tuple es k pos) (gTup X.K n t):=by
 intro aa s σ H v u Q I r hw;obtain⟨a,xs,e1,hq,hl,hw⟩:=hw;subst e1;cases r;obtain⟨its,rv,ht,hz⟩:=I.tuple hq
 refine assign_Tuple_tuple (I.ok.hd hc) ht (by simp[hn,<-hl,rv.length]) bc fun h' hx=>?_
 have I1:Inv X aa σ H {s with heap:=h'}:=I.kept (t':=s.toks) fun b o e=>hx b o (bW (Heap.lt_size e)) e
 exact h aa _ σ H xs _ Q I1 (by simpa using rv) hw
noncomputable def gSub(to ti:TE)(t:aHF):TG:=fun v σ H Q=>to σ H fun o H1=>ti σ H1 fun i H2=>t o i v H2 fun H3=>Q σ H3
theorem aNz{o i:Expr}{t:aHF}(ho:PE X o to)(hi:PE X i ti)(hs:aMR X t)
 (ha:∀v,assign (.Subscript o i pos) X.env v=(do
  let ov<-holding [v] (eval o X.env)
  let iv<-holding [v,ov] (eval i X.env)
  standAt pos
  holding [v,ov,iv] (setItem ov iv v)
  release [v,ov,iv] []):=by intro _;rfl):PG X (.Subscript o i pos) (gSub to ti t):=by
 intro aa s σ H v u Q I r h;rw[ha]
 refine wpAny_bind (wpAny_holding (thn (ho aa s σ H _ I h) fun ov s1 zz=>?_))
 obtain⟨x,H1,I1,r1,q1⟩:=zz
 refine wpAny_bind (wpAny_holding (thn (hi aa s1 σ H1 _ I1 q1) fun iv s2 zz=>?_))
 obtain⟨y,H2,I2,r2,q2⟩:=zz
 refine wpAny_bind (wpAny_standAt (wpAny_bind (wpAny_holding (thn (hs aa s2 σ H2 x y v ov iv u _ I2 r1 r2 r q2) fun _ s3 ⟨H3,I3,q3⟩=>?_))))
 exact wpAny_release ⟨σ,H3,I3,q3⟩
noncomputable def aDg(te:TE)(g:TG):TS:=fun D σ H=>te σ H fun x H1=>g x σ H1 D.nx
theorem aHA{tg:Expr}{g:TG}(he:PE X e te)(hg:PG X tg g)(hs:swapsWithSole [tg] e pos.line X.env=pure false:=by rfl)(hw:swappedStores [tg] e X.env=pure none:=by rfl)
 (h1:(assignEach [tg] X.env).map (·.2)=[assign tg X.env]:=by rfl):PS X (.Assign [tg] e pos) (aDg te g):=by
 intro aa s σ H D I h
 refine wpAny_Assign_stores (thn (he aa s σ H _ I h) fun v s1 ⟨x,H1,I1,r1,q1⟩=>?_) hs hw
 rw[h1]
 exact thn (hg aa s1 σ H1 x v _ I1 r1 q1) fun _ s2 q=>q
theorem aMr{x:Str}(hN:X.N.Nodup)(hi:X.N[i]?=some x)(hx:Loc X.env.scope x)(he:PE X e te)(hs:swapsWith e (some (.Name x ao)) pos.line X.env=pure false:=by rfl)(hf:X.fn x=true\/X.env.scope.names.lookup x=some .local:=by first|exact .inl rfl|exact .inr rfl|assumption):
 PS X (.Assign [.Name x ao] e pos) (aDg te (r9 i)):=by
 intro aa s σ H D I h
 refine wpAny_Assign_Name (thn (he aa s σ H _ I h) fun v s1 ⟨y,H1,I1,r1,q1⟩=>?_) hs
 exact yN I1 hN hi hx r1 (fun s2 I2=>⟨_,H1,I2,q1⟩) hf
noncomputable def tAug(i:Nat)(te:TE)(ti:TIp):TS:=fun D σ H=>∃x,σ[i]?=some (some x)/\te σ H fun y H1=>ti x y H1 fun z H2=>D.nx (σ.set i (some z)) H2
theorem aNr{x:Str}{ti:TIp}(hN:X.N.Nodup)(hi:X.N[i]?=some x)(hx:Loc X.env.scope x)(he:PE X e te)(ho:PIp X op ti)(hf:X.fn x=true\/X.env.scope.names.lookup x=some .local:=by first|exact .inl rfl|exact .inr rfl|assumption):
 PS X (.AugAssign (.Name x ao) op e pos) (tAug i te ti):=by
 intro aa s σ H D I h;obtain⟨v,e1,h⟩:=h;obtain⟨m,hn,hl⟩:=I.loc;have vis:Vis X.env.scope x:=by rcases hx with k|k;exact .inl k;exact .inr (.inl k)
 obtain⟨u,r,l⟩:=hl i x v hi e1 vis
 refine wpAny_AugAssign_Name ?_
 have go:wpAny (model X.prog X.w) X.A (eval e X.env) (fun w bi=>wpAny (model X.prog X.w) X.A (inplaceOp op u w) (fun r bw=>wpAny (model X.prog X.w) X.A (storeName X.env x r) (fun _=>SP X aa D .next) X.xe bw) X.xe bi) X.xe s:=by
  refine thn (he aa s σ H _ I h) fun w s1 zz=>?_
  obtain⟨y,H1,I1,r1,q1⟩:=zz
  refine thn (ho aa s1 σ H1 v y u w _ I1 r r1 q1) fun z s2 zz=>?_
  obtain⟨zv,H2,I2,r2,q2⟩:=zz
  exact yN I2 hN hi hx r2 (fun s3 I3=>⟨_,H2,I3,q2⟩) hf
 rcases l with⟨hk,hm⟩| ⟨hk,c,hc,gj⟩
 ·exact wpAny_loadName_local I.ok.kind hk hn hm go
 ·rcases hk with hk|hk
  ·exact wpAny_loadName_cell I.ok.kind hk hc gj go
  ·rcases hx with k|k
   ·have:X.env.scope.names.lookup x=some .free:=hk;rw[k]at this;cases this
   ·have:X.env.scope.names.lookup x=some .free:=hk;rw[k]at this;cases this
noncomputable def tAugS(to ti te:TE)(jo:V->V->Hp->VK->Prop)(ut:TIp)(jn:aHF):TS:=fun D σ H=>to σ H fun o H1=>ti σ H1 fun i H2=>jo o i H2 fun x H3=>te σ H3 fun y H4=>ut x y H4 fun z H5=>jn o i z H5 fun H6=>D.nx σ H6
def PGet(X:Cx)(t:V->V->Hp->VK->Prop):Prop:=
 ∀(aa:List (Addr×Obj))(s:Shared)(σ:St)(H:Hp)(o i:V)(ov iv:Value)(Q:VK),Inv X aa σ H s->RelV o ov->RelV i iv->t o i H Q->
  wpAny (model X.prog X.w) X.A (getItem ov iv) (EP X aa σ Q) X.xe s
theorem aJ2{o i:Expr}{jo:V->V->Hp->VK->Prop}{ut:TIp}{jn:aHF}{aw:Pos}(ho:PE X o to)(hi:PE X i ti)(hg:PGet X jo)(he:PE X e te)(hp:PIp X op ut)(hs:aMR X jn)
 (ha:∀ov iv new,augStore i ov iv new=(do holding [new,ov,iv] (setItem ov iv new);release [new,ov,iv] [];pure .next):=by intros;rfl):PS X (.AugAssign (.Subscript o i aw) op e pos) (tAugS to ti te jo ut jn):=by
 intro aa s σ H D I h
 refine wpAny_AugAssign_SubscriptAny (thn (ho aa s σ H _ I h) fun ov s1 ⟨x1,H1,I1,r1,q1⟩=>?_) ha
 refine thn (hi aa s1 σ H1 _ I1 q1) fun iv s2 zz=>?_
 obtain⟨x2,H2,I2,r2,q2⟩:=zz
 refine thn (hg aa s2 σ H2 x1 x2 ov iv _ I2 r1 r2 q2) fun old s3 zz=>?_
 obtain⟨x3,H3,I3,r3,q3⟩:=zz
 refine thn (he aa s3 σ H3 _ I3 q3) fun v s4 zz=>?_
 obtain⟨x4,H4,I4,r4,q4⟩:=zz
 refine thn (hp aa s4 σ H4 x3 x4 old v _ I4 r3 r4 q4) fun new s5 zz=>?_
 obtain⟨x5,H5,I5,r5,q5⟩:=zz
 exact thn (hs aa s5 σ H5 x1 x2 x5 ov iv new _ I5 r1 r2 r5 q5) fun _ s6 ⟨H6,I6,q6⟩=>⟨σ,H6,I6,q6⟩
noncomputable def ipI(f:Int->Int->Int):TIp:=fun x y H Q=>∃i j,x=.int i/\y=.int j/\Q (.int (f i j)) H
theorem aIF:PIp X .Add (ipI fun i j=>i+j):=by
 intro aa s σ H x y v u Q I r1 r2 h;obtain⟨i,j,e1,e2,q⟩:=h;subst e1;subst e2;obtain⟨t,rfl⟩:=r1;obtain⟨t',rfl⟩:=r2
 exact iadd_int ⟨.int _,H,I.tok _,⟨_,rfl⟩,q⟩
end
section
variable {X:Cx}{pos:Pos}
def tWhile(c:TT)(tb:TS):TS:=fun D σ H=>∃W:Nat->St->Hp->Prop,(∃m,W m σ H)/\∀m σ H,W m σ H->
 c σ H fun b H1=>if b=true then∃N:St->Hp->Prop,(∀ah H',N ah H'->∃m',m'<m/\W m' ah H')/\tb {D with nx:=N,ct:=N,bk:=D.nx} σ H1 else D.nx σ H1
theorem aHK{c:Expr}{body:List Stmt}{tc:TT}{tb:TS}(hp:PassesOwn (model X.prog X.w) X.A X.env X.xe)(hc:PT X c tc)(hb:PSs X body tb):PS X (.While c body [] pos) (tWhile tc tb):=by
 intro aa s σ H D I h;obtain⟨W,⟨m0,w0⟩,turn⟩:=h
 refine wpAny_While (codeAny_whileLoop (fun n s'=>∃ah H',Inv X aa ah H' s'/\W n ah H') ?_ m0 ⟨σ,H,I,w0⟩)
 rintro n s1 ⟨cv,H1,I1,w1⟩
 refine wpAny_passesOwn hp (thn (hc aa s1 cv H1 _ I1 (turn n cv H1 w1)) fun b s2 ⟨H2,I2,q2⟩=>?_)
 cases b with
 |true=>
  obtain⟨N,hN,q2⟩:=q2;rw[if_pos rfl]
  refine wpAny_passesOwn hp (thn (hb aa s2 cv H2 _ I2 q2) fun f s3 q3=>?_)
  cases f with
  |next=>
   obtain⟨ce,H3,I3,n3⟩:=q3;obtain⟨m',hm,w3⟩:=hN ce H3 n3
   exact⟨m',hm,ce,H3,I3,w3⟩
  |cont=>
   obtain⟨ce,H3,I3,n3⟩:=q3;obtain⟨m',hm,w3⟩:=hN ce H3 n3
   exact⟨m',hm,ce,H3,I3,w3⟩
  |brk=>exact q3
  |ret v=>exact q3
 |false=>
  rw[if_neg bY]
  exact wpAny_execs_nil ⟨cv,H2,I2,q2⟩
end
variable{s:Shared}{tg:Expr}{P:Program}{w:World}{K:aO}
structure It where
 go:Nat->Hp->Prop
 yld:Nat->Hp->V->Hp->Prop
 stop:Nat->Hp->Prop
def uC(X:Cx)(aa:List (Addr×Obj))(H:Hp)(b:Addr):Prop:=
 H b=none/\b≠X.env.locals/\b∉X.fs/\(b∈X.ex\/X.s₀.heap.objs.size<=b)/\(∀x c,X.env.cells.lookup x=some c->c≠b)/\∀p∈X.pn++aa,p.1≠b
theorem Inv.fpOk{X:Cx}{aa:List (Addr×Obj)}{σ:St}{H H':Hp}{b:Addr}(I:Inv X aa σ H s)(hb:s.heap.objs.size<=b)(hn:H' b=none):uC X aa H' b:=by
 refine⟨hn,Nat.ne_of_gt (bO I.lt hb),I.nofs hb,.inr (cB I.sz hb),fun x c e z=>?_,fun p hp z=>?_⟩
 ·obtain⟨v,q⟩:=I.cell x c e
  exact absurd (bO q.lt (by rw[z];exact hb)) (cP _)
 ·exact absurd (bO (Heap.lt_size (I.pin p hp).1) (by rw[z];exact hb)) (cP _)
structure Turn(P:Program)(w:World)(K:aO)(tg:Expr)(J:It)(fp:List Addr)(it:Addr)(tn:Nat->Heap->Prop):Prop where
 mem:it∈fp
 obj:∀i h,tn i h->∀b∈fp,∃o,h.get? b=some o/\∀v,o.data≠ .cell v
 keep:∀i h h',tn i h->(∀b∈fp,∀o,h.get? b=some o->h'.get? b=some o)->tn i h'
 item:∀(X:Cx),X.prog=P->X.w=w->X.K=K->X.calm=true->∀(i:Nat)(aa:List (Addr×Obj))(s:Shared)(σ:St)(H:Hp)(E:Value->Shared->Prop),Inv X aa σ H s->(∀b∈fp,uC X aa H b)->tn i s.heap->J.go i H->
  wpAny (model P w) X.A (pyNext (.ref it)) (fun r s1=>∃u,r=some u/\
   wpAny (model P w) X.A (letOwnedTupleGo tg (.ref it) u) (fun _ s2=>∃x H',Inv X aa σ H' s2/\RelV x u/\J.yld i H x H'/\tn (i+1) s2.heap/\∀b∈fp,H' b=none) E s1) E s
 done:∀(X:Cx),X.prog=P->X.w=w->X.K=K->X.calm=true->∀(i:Nat)(aa:List (Addr×Obj))(s:Shared)(σ:St)(H:Hp)(E:Value->Shared->Prop),Inv X aa σ H s->(∀b∈fp,uC X aa H b)->tn i s.heap->J.stop i H->
  wpAny (model P w) X.A (pyNext (.ref it)) (fun r s1=>r=none/\Inv X aa σ H s1) E s
 self:∀(A:Around)(i:Nat)(s:Shared)(Q:Value->Shared->Prop)(E:Value->Shared->Prop),tn i s.heap->Q (.ref it) s->wpAny (model P w) A (pyIter (.ref it)) Q E s
abbrev TI:=St->Hp->(It->Hp->Prop)->Prop
def PIE(X:Cx)(aa:List (Addr×Obj))(σ:St)(tg:Expr)(R:It->Hp->Prop)(va:Value)(s2:Shared):Prop:=
 ∃(it:Addr)(fp:List Addr)(tn:Nat->Heap->Prop)(J:It)(H':Hp),va=.ref it/\Inv X aa σ H' s2/\Turn X.prog X.w X.K tg J fp it tn/\tn 0 s2.heap/\(∀b∈fp,uC X aa H' b)/\R J H'
def PI(X:Cx)(tg iter:Expr)(wi:TI):Prop:=
 ∀(aa:List (Addr×Obj))(s:Shared)(σ:St)(H:Hp)(R:It->Hp->Prop),Inv X aa σ H s->wi σ H R->
  wpAny (model X.prog X.w) X.A (eval iter X.env) (fun v s1=>wpAny (model X.prog X.w) X.A (pyIter v) (PIE X aa σ tg R) X.xe s1) X.xe s
theorem aGX{M:Model}{A:Around}{E:Value->Shared->Prop}{it:Addr}{u:Value}{o:Obj}{n:String}{vs:Array Value}{Q:Unit->Shared->Prop}(ho:s.heap.get? it=some o)(hc:o.cls=.type n)(hd:o.data=.fields vs)
 (hn:["enumerate","zip","dict_itemiterator","dict_reverseitemiterator","odict_iterator","itertools.zip_longest","itertools.pairwise"].contains n=false)(hQ:Q () s):wpAny M A (letOwnedTupleGo tg (.ref it) u) Q E s:=by
 unfold letOwnedTupleGo;cases tg<;>first
  |exact wpAny_pure hQ
  | (cases u<;>first
   |exact wpAny_pure hQ
   | (refine wpAny_bind (wpAny_load ho ?_)
      rw[hc,hd];show wpAny M A (if(["enumerate","zip","dict_itemiterator","dict_reverseitemiterator","odict_iterator","itertools.zip_longest","itertools.pairwise"].contains n&&vs[0]?==some (rawInt _))=true then _ else _) Q E s;rw[if_neg (by intro h;rw[hn,aPK]at h;cases h)]
      exact wpAny_pure hQ))
noncomputable def Itl(K:aO)(a:Addr):It:=
 ⟨fun i H=>∃xs x,SqL K H a xs/\xs[i]?=some x,fun i H x H'=>H'=H/\∀xs,SqL K H a xs->xs[i]?=some x,fun i H=>∃xs,SqL K H a xs/\xs.length<=i⟩
noncomputable def Itr(lo:Int)(n:Nat):It:=⟨fun i _=>i<n,fun i H x H'=>H'=H/\x=.int (lo+i),fun i _=>n<=i⟩
theorem aGc(a it:Addr):Turn P w K tg (Itl K a) [it] it (fun i h=>h.IsListIter it a i) where
 mem:=by simp
 obj:=fun i h st b hb=>by
  have e:b=it:=by simpa using hb
  subst e;obtain⟨o,e,c,d⟩:=st
  exact⟨o,e,fun v z=>by rw[d]at z;cases z⟩
 keep:=fun i h h' st k=>st.at fun o e=>k it (by simp) o e
 item:=by
  intro X hP hw hK hc i aa s σ H E I hf st hg;subst hP hw hK;obtain⟨xs,x,hq,hx⟩:=hg;obtain⟨its,rv,p,hz⟩:=I.list hq;obtain⟨u,hu,ru⟩:=rv.get hx;obtain⟨f0,f1,f2,f3,f4,f5⟩:=hf it (by simp)
  refine wpAny_pyNext_list_item st p.isList (x:=u) (by simpa using hu) fun h' ax sb=>?_
  have I1:Inv X aa σ H {s with heap:=h'}:=I.turned (t':=s.toks) (fun b o hb e=>(sb.2 b hb).trans e) f0 f1 f3 f4 f5;obtain⟨o,e,c,d⟩:=id ax
  exact⟨u,rfl,aGX (s:={s with heap:=h'}) e c d (by decide) ⟨x,H,I1,ru,⟨rfl,fun ys hy=>by rw[I.list_inj hy hq];exact hx⟩,ax,fun b hb=>(hf b hb).1⟩⟩
 done:=by
  intro X hP hw hK hc i aa s σ H E I hf st hg;subst hP hw hK;obtain⟨xs,hq,hx⟩:=hg;obtain⟨its,rv,p,hz⟩:=I.list hq;obtain⟨f0,f1,f2,f3,f4,f5⟩:=hf it (by simp);have hl:=rv.length
  exact wpAny_pyNext_list_end (I.ok.hd hc) st p.isList (by simp;lia) fun h' eb=>⟨rfl,I.turned (t':=s.toks) (fun b o hb e=>eb b o hb e) f0 f1 f3 f4 f5⟩
 self:=fun _ _ _ _ _ st h=>wpAny_pyIter_listiter st h
theorem aDQ(it:Addr)(lo:Int)(n:Nat):Turn P w K tg (Itr lo n) [it] it (fun i h=>IsRangeIter h it (lo+(i:Nat)*1) ((n:Int) - (i:Nat)) 1) where
 mem:=by simp
 obj:=fun i h st b hb=>by
  have e:b=it:=by simpa using hb
  subst e
  exact⟨_,st,fun v z=>by
   have z':Data.fields _=Data.cell v:=z;cases z'⟩
 keep:=fun i h h' st k=>k it (by simp) _ st
 item:=by
  intro X hP hw hK hc i aa s σ H E I hf st hg;subst hP hw hK;obtain⟨f0,f1,f2,f3,f4,f5⟩:=hf it (by simp);have W:=Walks.range (prog:=X.prog) (w:=X.w) (I.ok.hd hc) it lo 1 n
  refine W.item i s _ _ hg st fun v h' tk hv ax kk=>?_
  obtain⟨t,rfl⟩:=hv;have I1:Inv X aa σ H {s with heap:=h',toks:=tk}:=I.turned (fun b o hb e=>kk b o (by simpa using hb) e) f0 f1 f3 f4 f5
  refine⟨_,rfl,aGX (s:={s with heap:=h',toks:=tk}) (n:="range_iterator") ax rfl rfl (by decide) ⟨.int (lo+i),H,I1,⟨t,?_⟩,⟨rfl,rfl⟩,ax,fun b hb=>(hf b hb).1⟩⟩
  rw[aQc]
 done:=by
  intro X hP hw hK hc i aa s σ H E I hf st hg;subst hP hw hK;obtain⟨f0,f1,f2,f3,f4,f5⟩:=hf it (by simp)
  exact wpAny_pyNext_range_end (I.ok.hd hc) st (by have:n<=i:=hg;lia) fun h' eb=>⟨rfl,I.turned (t':=s.toks) (fun b o hb e=>eb b o hb e) f0 f1 f3 f4 f5⟩
 self:=fun _ _ _ _ _ st h=>wpAny_pyIter_rangeiter st h
section
variable {X:Cx}{tg:Expr}
variable{aa:List (Addr×Obj)}{σ:St}{ta:TA}{pos:Pos}{fp:List Addr}{h:Heap}
def aIA(K:aO)(tl:TE):TI:=fun σ H R=>tl σ H fun x H1=>∃a,x=.ref a/\(∃xs,SqL K H1 a xs)/\R (Itl K a) H1
theorem aA8{l:Expr}{tl:TE}(hl:PE X l tl):PI X tg l (aIA X.K tl):=by
 intro aa s σ H R I h
 refine thn (hl aa s σ H _ I h) fun v s1 zz=>?_
 obtain⟨x,H1,I1,r1,q1⟩:=zz;obtain⟨a,e,⟨xs,hq⟩,q⟩:=q1;subst e;cases r1;obtain⟨its,rv,p,hz⟩:=I1.list hq
 refine wpAny_pyIter_list p.isList ?_
 refine⟨s1.heap.objs.size,[s1.heap.objs.size],_,_,H1,rfl,I1.kept (t':=s1.toks) fun b o e=>Heap.get?_push_of_some _ e,aGc a _,⟨_,Heap.get?_push_size _ rfl,rfl,rfl⟩,fun b hb=>?_,q⟩
 have e:b=s1.heap.objs.size:=by simpa using hb
 subst e
 exact I1.fpOk (bF _) (I1.hok.fresh (bF _))
theorem aC0{H:Hp}{s:Shared}{R:It->Hp->Prop}{E:Value->Shared->Prop}{lo hi:Int}{t u v:Tok}{tk:Nat}(I:Inv X aa σ H s)(h1: -(2^62)<=lo)(h2:lo<2^62)(h3: -(2^62)<=hi)(h4:hi<2^62)
 (q:R (Itr lo (hi - lo).toNat) H):wpAny (model X.prog X.w) X.A (pyIter (.ref s.heap.objs.size)) (PIE X aa σ tg R) E {s with heap:=s.heap.push {cls:=.type "range",data:=.fields #[.int lo t,.int hi u,.int 1 v]},toks:=tk}:=by
 refine wpAny_pyIter_range (IsRange.new ..) (small_one h1 h2 h3 h4) ?_
 have I1:Inv X aa σ H {s with heap:=s.heap.push {cls:=.type "range",data:=.fields #[.int lo t,.int hi u,.int 1 v]},toks:=tk}:=I.kept fun b o e=>Heap.get?_push_of_some _ e
 refine⟨(s.heap.push {cls:=.type "range",data:=.fields #[.int lo t,.int hi u,.int 1 v]}).objs.size,[(s.heap.push {cls:=.type "range",data:=.fields #[.int lo t,.int hi u,.int 1 v]}).objs.size],_,_,H,rfl,
  I1.kept (t':=tk) fun b o e=>Heap.get?_push_of_some _ e,aDQ _ lo (hi - lo).toNat,?_,fun b hb=>?_,q⟩
 ·have e1:lo+((0:Nat):Int)*1=lo:=by simp
  have e2:(((hi - lo).toNat:Nat):Int) - ((0:Nat):Int)=Builtin.Range.rangeSize lo hi 1:=by rw[rangeSize_one];split<;>lia
  show IsRangeIter _ _ (lo+((0:Nat):Int)*1) ((((hi - lo).toNat:Nat):Int) - ((0:Nat):Int)) 1;rw[e1,e2]
  exact Heap.get?_push_size _ rfl
 ·have e:b=(s.heap.push {cls:=.type "range",data:=.fields #[.int lo t,.int hi u,.int 1 v]}).objs.size:=by simpa using hb
  subst e
  exact I1.fpOk (bF _) (I1.hok.fresh (bF _))
def aHV(ta:TA):TI:=fun σ H R=>ta σ H fun vs H1=>∃j:Int,vs=[.int j]/\ -(2^62)<=j/\j<2^62/\R (Itr 0 j.toNat) H1
def iRng2(ta:TA):TI:=fun σ H R=>ta σ H fun vs H1=>∃i j:Int,vs=[.int i,.int j]/\(-(2^62)<=i/\i<2^62/\ -(2^62)<=j/\j<2^62)/\R (Itr i (j - i).toNat) H1
theorem qE{a:Expr}{p:Pos}(hg:Gl X "range")(hm:X.mg "range"=none)(ha:PA X [a] ta)(hs:starEach [a] X.env=[(false,eval a X.env)]:=by rfl):PI X tg (.Call (.Name "range" p) [a] [] pos) (aHV ta):=by
 intro aa s σ H R I h
 refine Call_ (pQ I hg hm boot_range (dD (thn (ha pos aa s σ H _ I h) fun us s1 ⟨vs,H1,I1,r1,q1⟩=>?_) hs rfl))
 obtain⟨j,e,q1,q2,q⟩:=q1;subst e;cases r1 with
 |cons r rr=>
  cases rr;obtain⟨t,rfl⟩:=r
  exact call_range_1 (aC0 I1 (by lia) (by lia) q1 q2 (by simpa using q))
theorem aFi{a b:Expr}{p:Pos}(hg:Gl X "range")(hm:X.mg "range"=none)(ha:PA X [a,b] ta)(hs:starEach [a,b] X.env=[(false,eval a X.env),(false,eval b X.env)]:=by rfl)(ij:starEach [b] X.env=[(false,eval b X.env)]:=by rfl):
 PI X tg (.Call (.Name "range" p) [a,b] [] pos) (iRng2 ta):=by
 intro aa s σ H R I h
 refine Call_ (pQ I hg hm boot_range (dD (thn (ha pos aa s σ H _ I h) fun us s1 ⟨vs,H1,I1,r1,q1⟩=>?_) (by rw[hs,ij]) (by rw[ij];rfl)))
 obtain⟨i,j,e,⟨q1,q2,q3,q4⟩,q⟩:=q1;subst e;cases r1 with
 |cons r rr=>
  cases rr with
  |cons r' rr=>
   cases rr;obtain⟨t,rfl⟩:=r;obtain⟨t',rfl⟩:=r'
   exact call_range_2 (aC0 I1 q1 q2 q3 q4 q)
def aIZ(wi:TI)(g:TG)(tb:TS):TS:=fun D σ H=>wi σ H fun J H1=>∃W:Nat->Nat->St->Hp->Prop,(∃m,W 0 m σ H1)/\∀i m σ H,W i m σ H->
 (J.stop i H/\D.nx σ H)\/(J.go i H/\∃N:St->Hp->Prop,(∀ah H',N ah H'->∃m',m'<m/\W (i+1) m' ah H')/\∀x H',J.yld i H x H'->g x σ H' fun bn H2=>tb {D with nx:=N,ct:=N,bk:=D.nx} bn H2)
noncomputable def xB(fp:List Addr)(h:Heap):List (Addr×Obj):=fp.filterMap fun b=>(h.get? b).map fun o=>(b,o)
theorem oO{b:Addr}{o:Obj}(hb:b∈fp)(e:h.get? b=some o):(b,o)∈xB fp h:=aPS.mpr ⟨b,hb,by rw[e];rfl⟩
theorem aGl{p:Addr×Obj}(hp:p∈xB fp h):p.1∈fp/\h.get? p.1=some p.2:=by
 obtain⟨b,hb,e⟩:=aPS.mp hp;cases q:h.get? b with
 |none=>rw[q]at e;cases e
 |some o=>
  rw[q]at e;have e':(b,o)=p:=cE.inj e;subst e'
  exact⟨hb,q⟩
theorem Inv.pinned{H:Hp}{s:Shared}(I:Inv X aa σ H s)(hf:∀b∈fp,uC X aa H b)(ho:∀b∈fp,∃o,s.heap.get? b=some o/\∀v,o.data≠ .cell v):Inv X (aa++xB fp s.heap) σ H s:=
 I.pins_of fun p hp=>(bM.mp hp).elim (fun z=>I.pin p (cI _ z)) fun z=>by
  obtain⟨hb,e⟩:=aGl z;obtain⟨f0,f1,f2,_⟩:=hf p.1 hb;obtain⟨o,e',d⟩:=ho p.1 hb;rw[e]at e';cases e'
  exact⟨e,f0,f1,f2,d⟩
theorem Inv.unpinned{pl:List (Addr×Obj)}{H:Hp}{s:Shared}(I:Inv X (aa++pl) σ H s):Inv X aa σ H s:=I.pins_of fun p hp=>I.pin p (cI _ (aOQ _ hp))
theorem aAU{iter:Expr}{body:List Stmt}{wi:TI}{g:TG}{tb:TS}(hp:PassesOwn (model X.prog X.w) X.A X.env X.xe)(hc:X.calm=true)(hi:PI X tg iter wi)(hg:PG X tg g)(hb:PSs X body tb)
 (hs:∀x,foldedSetIterable iter X.env x=pure x:=by intro _;rfl):PS X (.For tg iter body [] pos) (aIZ wi g tb):=by
 intro aa s σ H D I h
 refine wpAny_For (thn (hi aa s σ H _ I h) fun v s1 h1=>thn h1 fun va s2 h2=>?_) hs
 obtain⟨it,fp,tn,J,H2,e,I2,T,jz,f2,W,⟨m0,w0⟩,turn⟩:=h2;subst e;have ed:∀{H':Hp},(∀b∈fp,H' b=none)->∀b∈fp,uC X aa H' b:=fun hn b hb=>⟨hn b hb,(f2 b hb).2⟩
 refine codeAny_forLoop_any (fun n s'=>∃i ah H',Inv X aa ah H' s'/\tn i s'.heap/\(∀b∈fp,H' b=none)/\W i n ah H') ?_ m0 ⟨0,σ,H2,I2,jz,fun b hb=>(f2 b hb).1,w0⟩
 rintro n s3 ⟨i,ce,H3,I3,qh,ui,w3⟩;rcases turn i n ce H3 w3 with⟨stop,qn⟩| ⟨go,N,hN,step⟩
 ·refine wpAny_passesOwn hp (thn (T.done X rfl rfl rfl hc i aa s3 ce H3 X.xe I3 (ed ui) qh stop) fun r s4 ⟨hr,I4⟩=>?_)
  subst hr
  exact wpAny_execs_nil ⟨ce,H3,I4,qn⟩
 ·refine wpAny_passesOwn hp (thn (T.item X rfl rfl rfl hc i aa s3 ce H3 X.xe I3 (ed ui) qh go) fun r s4 ⟨u,hr,h4⟩=>?_)
  subst hr
  refine wpAny_passesOwn hp (thn h4 fun _ s5 zz=>?_)
  obtain⟨x,H5,I5,r5,y5,lf,zj⟩:=zz;have I5':=I5.pinned (ed zj) (T.obj _ _ lf)
  refine wpAny_passesOwn hp (thn (hg _ s5 ce H5 x u _ I5' r5 (step x H5 y5)) fun _ s6 zz=>?_)
  obtain⟨ni,H6,I6,q6⟩:=zz
  refine wpAny_passesOwn hp (thn (hb _ s6 ni H6 _ I6 q6) fun f s7 q7=>?_)
  have again:∀{dj:St}{H7:Hp},Inv X (aa++xB fp s5.heap) dj H7 s7->N dj H7->∃m,m<n/\∃i ah H',Inv X aa ah H' s7/\tn i s7.heap/\(∀b∈fp,H' b=none)/\W i m ah H':=fun {dj H7} I7 n7=>by
   obtain⟨m',hm,w7⟩:=hN dj H7 n7
   refine⟨m',hm,i+1,dj,H7,I7.unpinned,T.keep _ _ _ lf fun b hb o e=>(I7.pin (b,o) (cI _ (cI _ (oO hb e)))).1,fun b hb=>?_,w7⟩
   obtain⟨o,e,d⟩:=T.obj _ _ lf b hb
   exact(I7.pin (b,o) (cI _ (cI _ (oO hb e)))).2.1
  cases f with
  |next=>obtain⟨dj,H7,I7,n7⟩:=q7;exact again I7 n7
  |cont=>obtain⟨dj,H7,I7,n7⟩:=q7;exact again I7 n7
  |brk=>obtain⟨dj,H7,I7,q7⟩:=q7;exact⟨dj,H7,I7.unpinned,q7⟩
  |ret v=>obtain⟨x7,dj,H7,I7,r7,q7⟩:=q7;exact⟨x7,dj,H7,I7.unpinned,r7,q7⟩
end
abbrev R2:=V->V->Hp->VK->Prop
def OpR(X:Cx)(f:Value->Value->Sem Value)(r:R2):Prop:=
 ∀(aa:List (Addr×Obj))(s:Shared)(σ:St)(H:Hp)(x y:V)(v u:Value)(Q:VK),Inv X aa σ H s->RelV x v->RelV y u->r x y H Q->
  wpAny (model X.prog X.w) X.A (f v u) (EP X aa σ Q) X.xe s
def UnR(X:Cx)(f:Value->Sem Value)(r:V->Hp->VK->Prop):Prop:=
 ∀(aa:List (Addr×Obj))(s:Shared)(σ:St)(H:Hp)(x:V)(v:Value)(Q:VK),Inv X aa σ H s->RelV x v->r x H Q->
  wpAny (model X.prog X.w) X.A (f v) (EP X aa σ Q) X.xe s
def nV(X:Cx)(f:Value)(r:List V->Hp->VK->Prop):Prop:=
 ∀(aa:List (Addr×Obj))(s:Shared)(σ:St)(H:Hp)(xs:List V)(us:List Value)(Q:VK),Inv X aa σ H s->Vals xs us->r xs H Q->
  wpAny (model X.prog X.w) X.A (call f us) (EP X aa σ Q) X.xe s
def TruR(X:Cx)(r:V->Hp->(Bool->Hp->Prop)->Prop):Prop:=
 ∀(aa:List (Addr×Obj))(s:Shared)(σ:St)(H:Hp)(x:V)(v:Value)(Q:Bool->Hp->Prop),Inv X aa σ H s->RelV x v->r x H Q->
  wpAny (model X.prog X.w) X.A (truthy v) (TP X aa σ Q) X.xe s
noncomputable def tOp(r:R2)(ta tb:TE):TE:=fun σ H Q=>ta σ H fun x H1=>tb σ H1 fun y H2=>r x y H2 Q
noncomputable def tUn(r:V->Hp->VK->Prop)(ta:TE):TE:=fun σ H Q=>ta σ H fun x H1=>r x H1 Q
noncomputable def rI(C:Int->Int->Prop)(g:Int->Int->V):R2:=fun x y H Q=>∃i j,x=.int i/\y=.int j/\C i j/\Q (g i j) H
noncomputable def rI0(g:Int->Int->V):R2:=fun x y H Q=>∃i j,x=.int i/\y=.int j/\Q (g i j) H
def rU(g:Int->V):V->Hp->VK->Prop:=fun x H Q=>∃i,x=.int i/\Q (g i) H
section
variable {X:Cx}{a b c:Expr}{ta tb tc:TE}{pos:Pos}
variable{f:Value->Value->Sem Value}{g:Int->Int->Int}
theorem aMZ(ha:PE X a ta)(hb:PE X b tb){aa:List (Addr×Obj)}{s:Shared}{σ:St}{H:Hp}{R:V->V->Hp->Prop}(I:Inv X aa σ H s)
 (h:ta σ H fun x H1=>tb σ H1 fun y H2=>R x y H2){Q:Value->Shared->Prop}
 (hf:∀v u s2 x y H2,Inv X aa σ H2 s2->RelV x v->RelV y u->R x y H2->wpAny (model X.prog X.w) X.A (f v u) Q X.xe s2):
 wpAny (model X.prog X.w) X.A (eval a X.env) (fun v aj=>wpAny (model X.prog X.w) X.A (eval b X.env) (fun u bi=>wpAny (model X.prog X.w) X.A (f v u) Q X.xe bi) X.xe aj) X.xe s:=by
 refine thn (ha aa s σ H _ I h) fun v s1 zz=>?_
 obtain⟨x,H1,I1,r1,q1⟩:=zz
 refine thn (hb aa s1 σ H1 _ I1 q1) fun u s2 zz=>?_
 obtain⟨y,H2,I2,r2,q2⟩:=zz
 exact hf v u s2 x y H2 I2 r1 r2 q2
theorem uZ{op:Operator}{r:R2}(ho:OpR X (binaryOp op) r)(ha:PE X a ta)(hb:PE X b tb):PE X (.BinOp a op b pos) (tOp r ta tb):=by
 intro aa s σ H Q I h
 exact wpAny_BinOp (aMZ ha hb I h fun v u s2 x y H2 I2 rx ry q=>ho aa s2 σ H2 x y v u Q I2 rx ry q)
theorem aOa{op:UnaryOp}{r:V->Hp->VK->Prop}(ho:UnR X (unaryOp op) r)(ha:PE X a ta):PE X (.UnaryOp op a pos) (tUn r ta):=by
 intro aa s σ H Q I h
 exact UnaryOp_ (thn (ha aa s σ H _ I h) fun v s1 ⟨x,H1,I1,r1,q1⟩=>ho aa s1 σ H1 x v Q I1 r1 q1)
theorem opI{C:Int->Int->Prop}
 (rule:∀(i j:Int)(t u:Tok)(s:Shared)(Q:Value->Shared->Prop)(E:Value->Shared->Prop),C i j->Q (.int (g i j) s.toks) {s with toks:=s.toks+1}->wpAny (model X.prog X.w) X.A (f (.int i t) (.int j u)) Q E s):
 OpR X f (rI C fun i j=>.int (g i j)):=by
 intro aa s σ H x y v u Q I rx ry h;obtain⟨i,j,rfl,rfl,hc,q⟩:=h;obtain⟨t,rfl⟩:=rx;obtain⟨t',rfl⟩:=ry
 exact rule i j t t' s _ _ hc ⟨.int (g i j),H,I.tok _,⟨_,rfl⟩,q⟩
theorem opI0
 (rule:∀(i j:Int)(t u:Tok)(s:Shared)(Q:Value->Shared->Prop)(E:Value->Shared->Prop),Q (.int (g i j) s.toks) {s with toks:=s.toks+1}->wpAny (model X.prog X.w) X.A (f (.int i t) (.int j u)) Q E s):
 OpR X f (rI0 fun i j=>.int (g i j)):=by
 intro aa s σ H x y v u Q I rx ry h;obtain⟨i,j,rfl,rfl,q⟩:=h;obtain⟨t,rfl⟩:=rx;obtain⟨t',rfl⟩:=ry
 exact rule i j t t' s _ _ ⟨.int (g i j),H,I.tok _,⟨_,rfl⟩,q⟩
theorem aMp{g:Int->Int->Bool}
 (rule:∀(i j:Int)(t u:Tok)(s:Shared)(Q:Value->Shared->Prop)(E:Value->Shared->Prop),Q (.bool (g i j)) s->wpAny (model X.prog X.w) X.A (f (.int i t) (.int j u)) Q E s):
 OpR X f (rI0 fun i j=>.bl (g i j)):=by
 intro aa s σ H x y v u Q I rx ry h;obtain⟨i,j,rfl,rfl,q⟩:=h;obtain⟨t,rfl⟩:=rx;obtain⟨t',rfl⟩:=ry
 exact rule i j t t' s _ _ ⟨.bl (g i j),H,I,rfl,q⟩
def CDiv(i j:Int):Prop:=0<j/\j<1073741824
def CPow(i j:Int):Prop:=0<=j/\j<=1000000/\i.natAbs<2^64
theorem aLQ:OpR X (binaryOp .Add) (rI0 fun i j=>.int (i+j)):=opI0 fun _ _ _ _ _ _ _ q=>add_int q
theorem aMc:OpR X (binaryOp .Sub) (rI0 fun i j=>.int (i - j)):=opI0 fun _ _ _ _ _ _ _ q=>sub_int q
theorem aLc:OpR X (binaryOp .FloorDiv) (rI CDiv fun i j=>.int (i/j)):=opI fun i j _ _ _ _ _ hc q=>by
 have h1:(0:Int)<j:=hc.1;have h2:j<1073741824:=hc.2
 exact floordiv_int (by lia) (by rw[aPm i (by lia)];exact q) (.inl (PyProof.noPylong_small (by lia)))
theorem aMT:OpR X (binaryOp .Mod) (rI (fun _ j=>0<j) fun i j=>.int (i%j)):=opI fun i j _ _ _ _ _ hc q=>by
 have h1:(0:Int)<j:=hc
 exact mod_int' (by lia) (by rw[Int.fmod_eq_emod_of_nonneg i (by lia)];exact q)
theorem aMo:OpR X (binaryOp .Pow) (rI CPow fun i j=>.int (i^j.toNat)):=opI fun _ _ _ _ _ _ _ hc q=>pow_int_small hc.1 hc.2.1 hc.2.2 q
theorem unI{f:Value->Sem Value}{g:Int->Int}
 (rule:∀(i:Int)(t:Tok)(s:Shared)(Q:Value->Shared->Prop)(E:Value->Shared->Prop),Q (.int (g i) s.toks) {s with toks:=s.toks+1}->wpAny (model X.prog X.w) X.A (f (.int i t)) Q E s):
 UnR X f (rU fun i=>.int (g i)):=by
 intro aa s σ H x v Q I rx h;obtain⟨i,rfl,q⟩:=h;obtain⟨t,rfl⟩:=rx
 exact rule i t s _ _ ⟨.int (g i),H,I.tok _,⟨_,rfl⟩,q⟩
theorem aNx:UnR X (unaryOp .USub) (rU fun i=>.int (-i)):=unI fun _ _ _ _ _ q=>neg_int q
end
noncomputable def scal:V->V->Bool
 | .non,.non=>true| .non,.int _=>true| .int _,.non=>true| .non,.bl _=>true| .bl _,.non=>true| .non,.str _=>true| .str _,.non=>true
 | .int _,.int _=>true| .bl _,.bl _=>true| .str _,.str _=>true| .byt _,.byt _=>true
 | .int _,.str _=>true| .str _,.int _=>true| .bl _,.str _=>true| .str _,.bl _=>true
 |_,_=>false
def rNe:R2:=fun x y H Q=>scal x y=true/\Q (.bl (!decide (x=y))) H
theorem aEH{i j:Int}:decide (V.int i=V.int j)=(i==j):=by
 rw[eJ];simp
theorem aGU{i j:Bool}:decide (V.bl i=V.bl j)=(i==j):=by
 rw[eJ];simp
theorem aER{i j:Str}:decide (V.str i=V.str j)=(i==j):=by
 rw[eJ];simp
theorem aKo{i j:Array UInt8}:decide (V.byt i=V.byt j)=(i.toList==j.toList):=by
 rw[eJ];cases i;cases j;simp
section
variable {X:Cx}{a b c:Expr}{ta tb tc:TE}{pos:Pos}
variable{op:CmpOp}{r:R2}{us:List Value}
theorem kR{aa:List (Addr×Obj)}{σ:St}{H:Hp}{s:Shared}{Q:VK}{k k':Bool}(I:Inv X aa σ H s)(q:Q (.bl k) H)(e:k=k'):EP X aa σ Q (.bool k') s:=by
 subst e
 exact⟨.bl k,H,I,rfl,q⟩
theorem aHj:OpR X (compareOp .NotEq) rNe:=by
 intro aa s σ H x y v u Q I rx ry h;obtain⟨hs,q⟩:=h;cases x with
 |non=>
  cases rx;cases y with
  |non=>cases ry;exact PySem.EqNone.ne_none_none (kR I q (by simp))
  |bl j=>cases ry;exact PySem.EqNone.ne_none_bool (kR I q (by simp))
  |int j=>obtain⟨t',rfl⟩:=ry;exact PySem.EqNone.ne_none_int (kR I q (by simp))
  |str j=>obtain⟨t',rfl⟩:=ry;exact PySem.EqNone.ne_none_str (kR I q (by simp))
  |_=>exact absurd (show false=true from hs) bY
 |bl i=>
  cases rx;cases y with
  |non=>cases ry;exact PySem.EqNone.ne_bool_none (kR I q (by simp))
  |bl j=>cases ry;exact ne_bool (kR I q (congrArg not aGU))
  |str j=>obtain⟨t',rfl⟩:=ry;exact PySem.EqMixed.ne_bool_str (kR I q (by simp))
  |_=>exact absurd (show false=true from hs) bY
 |int i=>
  obtain⟨t,rfl⟩:=rx;cases y with
  |non=>cases ry;exact PySem.EqNone.ne_int_none (kR I q (by simp))
  |int j=>obtain⟨t',rfl⟩:=ry;exact ne_int (kR I q (congrArg not aEH))
  |str j=>obtain⟨t',rfl⟩:=ry;exact PySem.EqMixed.ne_int_str (kR I q (by simp))
  |_=>exact absurd (show false=true from hs) bY
 |str i=>
  obtain⟨t,rfl⟩:=rx;cases y with
  |non=>cases ry;exact PySem.EqNone.ne_str_none (kR I q (by simp))
  |bl j=>cases ry;exact PySem.EqMixed.ne_str_bool (kR I q (by simp))
  |int j=>obtain⟨t',rfl⟩:=ry;exact PySem.EqMixed.ne_str_int (kR I q (by simp))
  |str j=>obtain⟨t',rfl⟩:=ry;exact ne_str (kR I q (congrArg not aER))
  |_=>exact absurd (show false=true from hs) bY
 |byt i=>
  obtain⟨t,rfl⟩:=rx;cases y with
  |byt j=>obtain⟨t',rfl⟩:=ry;exact PySem.W.ne_bytes (kR I q (congrArg not aKo))
  |_=>exact absurd (show false=true from hs) bY
 |_=>cases y<;>exact absurd (show false=true from hs) bY
theorem aIo:OpR X (compareOp .Lt) (rI0 fun i j=>.bl (decide (i<j))):=aMp fun _ _ _ _ _ _ _ q=>lt_int q
theorem aLn:OpR X (compareOp .LtE) (rI0 fun i j=>.bl (decide (i<=j))):=aMp fun _ _ _ _ _ _ _ q=>le_int q
theorem aLz:OpR X (compareOp .Gt) (rI0 fun i j=>.bl (decide (j<i))):=aMp fun _ _ _ _ _ _ _ q=>gt_int q
theorem aHJ:OpR X (compareOp .Is) (fun x y H Q=>y=.non/\Q (.bl (decide (x=.non))) H):=by
 intro aa s σ H x y v u Q I rx ry h;obtain⟨rfl,q⟩:=h;cases ry
 refine is_none_gen (kR I q ?_)
 cases x<;>first
  | (cases rx;rfl)
  | (obtain⟨t,rfl⟩:=rx;rfl)
theorem nomark(b:Expr)(h:op≠ .In:=by decide)(h2:op≠ .NotIn:=by decide):behindInMarks op b=false:=by
 have e1:(op==CmpOp.In)=false:=by cases op<;>first|rfl|exact absurd rfl h
 have e2:(op==CmpOp.NotIn)=false:=by cases op<;>first|rfl|exact absurd rfl h2
 cases b<;>simp[behindInMarks,e1,e2]
theorem aKe(ho:OpR X (compareOp op) r)(ha:PE X a ta)(hb:PE X b tb)(hm:behindInMarks op b=false):PE X (.Compare a [op] [b] pos) (tOp r ta tb):=by
 intro aa s σ H Q I h
 exact wpAny_Compare1 (aMZ ha hb I h fun v u s2 x y H2 I2 rx ry q=>ho aa s2 σ H2 x y v u Q I2 rx ry q) hm
noncomputable def tTest(t:TE):TT:=fun σ H Q=>t σ H fun x H'=>∃k,x=.bl k/\Q k H'
theorem aLg(ho:OpR X (compareOp op) r)(ha:PE X a ta)(hb:PE X b tb)(hm:behindInMarks op b=false):PT X (.Compare a [op] [b] pos) (tTest (tOp r ta tb)):=by
 intro aa s σ H Q I h
 refine wpAny_isTrue_Compare1 (thn (ha aa s σ H _ I h) fun v s1 ⟨x,H1,I1,r1,q1⟩=>thn (hb aa s1 σ H1 _ I1 q1) fun u s2 ⟨y,H2,I2,r2,q2⟩=>
  thn (ho aa s2 σ H2 x y v u _ I2 r1 r2 q2) fun c s3 ⟨z,H3,I3,r3,k,e,q3⟩=>?_) hm
 subst e;cases r3
 exact wpAny_truthy_bool ⟨H3,I3,q3⟩
noncomputable def tChain(r r':R2)(ta tb tc:TE):TE:=fun σ H Q=>ta σ H fun x H1=>tb σ H1 fun y H2=>r x y H2 fun z H3=>∃k,z=.bl k/\
 (if k=true then tc σ H3 fun w' H4=>r' y w' H4 Q else Q (.bl false) H3)
theorem aI0{wm:CmpOp}{r':R2}(ho:OpR X (compareOp op) r)(im:OpR X (compareOp wm) r')(ha:PE X a ta)(hb:PE X b tb)(hc:PE X c tc)
 (hm:lastMarks [op,wm] [b,c]=false:=by with_unfolding_all rfl):PE X (.Compare a [op,wm] [b,c] pos) (tChain r r' ta tb tc):=by
 intro aa s σ H Q I h
 refine Compare_chain (thn (ha aa s σ H _ I h) fun v s1 ⟨x,H1,I1,r1,q1⟩=>chain_link (thn (hb aa s1 σ H1 _ I1 q1) fun u s2 ⟨y,H2,I2,r2,q2⟩=>
  thn (ho aa s2 σ H2 x y v u _ I2 r1 r2 q2) fun d s3 ⟨z,H3,I3,r3,k,e,q3⟩=>?_)) hm
 subst e;cases r3
 refine wpAny_truthy_bool ?_
 cases k with
 |false=>exact ite_ff ⟨.bl false,H3,I3,rfl,q3⟩
 |true=>exact ite_tt (chain_last (thn (hc aa s3 σ H3 _ I3 q3) fun w' s4 ⟨z',H4,I4,r4,q4⟩=>im aa s4 σ H4 y z' u w' Q I4 r2 r4 q4))
def aNa(K:aO)(x:V)(H:Hp)(k:Bool):Prop:=
 match x with
 | .non=>k=false
 | .bl b=>k=b
 | .int i=>k=(i !=0)
 | .str y=>y.length<=sizeLine/\k=((y.length:Int)!=0)
 | .byt y=>y.size<=sizeLine/\k=((y.size:Int)!=0)
 | .ref p=>(∃xs,SqL K H p xs/\k= !xs.isEmpty)\/(∃xs,SqT K H p xs/\k= !xs.isEmpty)\/∃kvs,H p=some (.dK kvs)/\k= !kvs.isEmpty
 |_=>False
theorem aDN{κ:Type}{kvs:List (κ×V)}{vs:List (κ×Value)}(r:KV kvs vs):(!vs.isEmpty)= !kvs.isEmpty:=by
 cases r<;>rfl
theorem wN{xs:List V}{its:List Value}(r:Vals xs its):(!its.toArray.isEmpty)= !xs.isEmpty:=by
 cases r<;>simp
theorem line63:(sizeLine:Nat)<2^63:=by rw[sizeLine_eq];decide
theorem aMj:TruR X (fun x H Q=>∃k,aNa X.K x H k/\Q k H):=by
 intro aa s σ H x v Q I rx h;obtain⟨k,e,q⟩:=h;have hl:=line63;have hs:sizeLine=16777216:=sizeLine_eq;cases x with
 |non=>
  cases rx;have e':k=false:=e;subst e'
  exact truthy_none ⟨H,I,q⟩
 |bl b=>
  cases rx;have e':k=b:=e;subst e'
  exact wpAny_truthy_bool ⟨H,I,q⟩
 |int i=>
  obtain⟨t,rfl⟩:=rx;have e':k=(i !=0):=e;subst e'
  exact PySem.P.truthy_int ⟨H,I,q⟩
 |str y=>
  obtain⟨t,rfl⟩:=rx;obtain⟨hy,e'⟩:y.length<=sizeLine/\k=((y.length:Int)!=0):=e;subst e'
  exact PySem.P.truthy_str (by lia) ⟨H,I.tok _,q⟩
 |byt y=>
  obtain⟨t,rfl⟩:=rx;obtain⟨hy,e'⟩:y.size<=sizeLine/\k=((y.size:Int)!=0):=e;subst e'
  exact PySem.W.truthy_bytes (by lia) ⟨H,I.tok _,q⟩
 |ref p=>
  cases rx;have e':(∃xs,SqL X.K H p xs/\k= !xs.isEmpty)\/(∃xs,SqT X.K H p xs/\k= !xs.isEmpty)\/∃kvs,H p=some (.dK kvs)/\k= !kvs.isEmpty:=e;rcases e' with⟨xs,hx,e'⟩| ⟨xs,hx,e'⟩| ⟨kvs,hx,e'⟩
  ·subst e';obtain⟨its,r,pl,hz⟩:=I.list hx;have ai:=r.length
   exact wpAny_truthy_list pl.isList (by simp only[bG];lia) ⟨H,I.tok _,by rw[wN r];exact q⟩
  ·subst e';obtain⟨its,r,pl,hz⟩:=I.tuple hx;have ai:=r.length
   exact truthy_tuple pl (by simp only[bG];lia) ⟨H,I.tok _,by rw[wN r];exact q⟩
  ·subst e';obtain⟨hz,hS,vs,r,m⟩:kvs.length<=sizeLine/\(p==sysModules)=false/\∃vs,KV kvs vs/\s.heap.DictOf (iW X.prog X.w) p vs:=I.hok p _ hx;have ai:kvs.length=vs.length:=Paired.length r
   exact wpAny_truthy_dict hS m (by lia) ⟨H,I.tok _,by rw[aDN r];exact q⟩
 |_=>exact(show False from e).elim
theorem aHB(ha:PE X a ta)(he:∀whole,isTrue a X.env whole=(do let v<-whole;standAt a.pos;holding [v] (truthy v))):
 PT X a (fun σ H Q=>ta σ H fun x H'=>∃k,aNa X.K x H' k/\Q k H'):=by
 intro aa s σ H Q I h
 exact isTrue_plain (thn (ha aa s σ H _ I h) fun v s1 ⟨x,H1,I1,r1,q1⟩=>aMj aa s1 σ H1 x v Q I1 r1 q1) (he _)
theorem vals1{x:V}(r:Vals [x] us):∃u,us=[u]/\RelV x u:=by
 cases r with
 |cons r1 r2=>cases r2;exact⟨_,rfl,r1⟩
theorem vals2{x y:V}(r:Vals [x,y] us):∃u w',us=[u,w']/\RelV x u/\RelV y w':=by
 cases r with
 |cons r1 r2=>
  cases r2 with
  |cons r3 r4=>cases r4;exact⟨_,_,rfl,r1,r3⟩
theorem aF6(hc:X.calm=true):nV X (.builtin "max") (fun xs H Q=>∃i j,xs=[.int i,.int j]/\Q (.int (if j>i then j else i)) H):=by
 intro aa s σ H xs us Q I r h;obtain⟨i,j,rfl,q⟩:=h;obtain⟨u,w',rfl,⟨t,rfl⟩,⟨t',rfl⟩⟩:=vals2 r
 refine max_two_ints (I.ok.hd hc) fun h' tk k=>⟨_,H,I.kept k,?_,q⟩
 by_cases hj:j>i
 ·rw[if_pos hj,if_pos hj];exact⟨_,rfl⟩
 ·rw[if_neg hj,if_neg hj];exact⟨_,rfl⟩
theorem aFJ(hc:X.calm=true):nV X (.builtin "min") (fun xs H Q=>∃i j,xs=[.int i,.int j]/\Q (.int (if j<i then j else i)) H):=by
 intro aa s σ H xs us Q I r h;obtain⟨i,j,rfl,q⟩:=h;obtain⟨u,w',rfl,⟨t,rfl⟩,⟨t',rfl⟩⟩:=vals2 r
 refine min_two_ints (I.ok.hd hc) fun h' tk k=>⟨_,H,I.kept k,?_,q⟩
 by_cases hj:j<i
 ·rw[if_pos hj,if_pos hj];exact⟨_,rfl⟩
 ·rw[if_neg hj,if_neg hj];exact⟨_,rfl⟩
theorem aFM:nV X (.type "int") (fun xs H Q=>(∃i,xs=[.int i]/\Q (.int i) H)\/∃k,xs=[.bl k]/\Q (.int (if k then 1 else 0)) H):=by
 intro aa s σ H xs us Q I r h;rcases h with⟨i,rfl,q⟩| ⟨k,rfl,q⟩
 ·obtain⟨u,rfl,t,rfl⟩:=vals1 r
  exact call_int_int ⟨.int i,H,I,⟨_,rfl⟩,q⟩
 ·obtain⟨u,rfl,r1⟩:=vals1 r;cases r1
  exact call_int_bool ⟨.int (if k then 1 else 0),H,I.tok _,⟨_,rfl⟩,q⟩
end
variable{h:Heap}{dx:Addr}{mA:Str->Option Value}
structure aDx(h:Heap)(x dx C:Addr)(mA:Str->Option Value):Prop where
 obj:h.get? x=some (dP C dx)
 ns:h.Ns1 dx mA
 ne:dx≠x
theorem aFK(n:h.Ns1 dx mA):∃od,h.get? dx=some od/\∀name,aPn name od=some (mA name):=by
 obtain⟨o,es,ep,ho,hd,hk,_,hm⟩:=n
 refine⟨o,ho,fun name=>?_⟩
 have e:=hm name;unfold nsFind findBy at e;rw[<-Array.find?_toList]at e;unfold aPn;rw[hd];dsimp only;split
 ·rename_i y q;rw[q]at e
  exact congrArg some e
 ·rename_i q;rw[q]at e;have a:es.toList.any (·.refKey)=false:=by
   rw[List.any_eq_false];intro y hy;obtain⟨z,t,yo⟩:=hk y (Array.mem_toList_iff.mp hy);simp[DictEntry.refKey,yo]
  have a':¬es.toList.any (·.refKey)=true:=by rw[a];exact bY
  rw[if_neg a']
  exact congrArg some e
theorem aDx.look{x C:Addr}(I:aDx h x dx C mA):∃od,PySem.W.InstAt h x (dP C dx) C (some od)/\∀name,aPn name od=some (mA name):=
 let ⟨od,ho,hl⟩:=aFK I.ns
 ⟨od,⟨I.obj,rfl,rfl,ho⟩,hl⟩
section
variable {prog:Program}{w:World}{A:Around}{E:Value->Shared->Prop}{s:Shared}{K:aO}{x dx C f:Addr}{mA:Str->Option Value}{name:Str}{v:Value}
theorem aKc{expr:Bool}{Q:Value->Shared->Prop}(X:K.In s.heap)(I:aDx s.heap x dx C mA)(hg:aPa K C name=true)(hh:aPu K C=true)
 (ha:b6 K (.ref C) name=some none)(hv:mA name=some v)(hv':aP4 v=true)(h:Q v {s with toks:=s.toks+1}):
 wpAny (model prog w) A (getAttr (.ref x) name expr) Q E s:=by
 obtain⟨od,J,hl⟩:=I.look
 exact PySem.W.get_value X J (aPh hg).1 (PySem.W.findObj_own hh ha rfl (by rw[hl,hv])) hv' h
theorem aGx{pl:Sem Bool}{Q:Value×List Value->Shared->Prop}(X:K.In s.heap)(I:aDx s.heap x dx C mA)(hg:aPa K C name=true)
 (hf:b6 K (.ref C) name=some (some (.ref f)))(ht:aO4 K (.ref f)=true)(hv:mA name=none)(h:Q (.ref f,[.ref x]) s):
 wpAny (model prog w) A (getMethod (.ref x) name pl) Q E s:=by
 obtain⟨od,J,hl⟩:=I.look
 exact PySem.W.method_fn X J (aPh hg).1 (aPh hg).2 hf (beq_iff_eq.mp ht) (by show(aPn name od).map (·.isSome)=some false;rw[hl,hv];rfl) h
theorem aJ9{ns:List Str}{Q:Unit->Shared->Prop}(X:K.In s.heap)(I:aDx s.heap x dx C mA)
 (hs:b6 K (.ref C) "__setattr__"=some (some (.builtin "object.__setattr__")))(hp:aPZ K C=true)(ht:aPF K C name=some none)(hh:aPu K C=true)
 (hw:PySem.Within mA ns)(hsz:ns.length<=sizeLine)
 (h:∀h',aDx h' x dx C (fun y=>if y=name then some v else mA y)->Heap.SameBut dx s.heap h'->Q () {s with heap:=h',toks:=s.toks+2}):
 wpAny (model prog w) A (setAttr (.ref x) name v) Q E s:=by
 obtain⟨od,J,hl⟩:=I.look
 refine PySem.W.set_plain X J hs (PySem.W.osa_open (s:={s with toks:=s.toks+1}) (r:=none) X J hp ht fun b=>?_)
 obtain⟨cd,hc,jg⟩:=PySem.W.any_some hh;have hx:s.heap.get? x=some ⟨.ref C,some dx,.plain,#[]⟩:=I.obj
 refine wpAny_bind (wpAny_pure (wpAny_bind (wpAny_bind (wpAny_loadPart hx (wpAny_bind (PySem.W.Looks.here (s:={s with toks:=s.toks+1}) (PySem.W.looks_clsIn X hc) ?_))))))
 rw[jg]
 refine wpAny_pure (a:=some dx) (wpAny_bind (wpAny_pure (wpAny_bind ?_)))
 refine wpAny_nsSet1 (s:={s with toks:=s.toks+1}) I.ns fun h' yh ij=>?_
 obtain⟨oD,esD,epD,hoD,hdD,hcD⟩:=yh.count (PySem.Within.cons name v hw)
 refine wpAny_bind (wpAny_lookBehind hoD (by rw[hdD];exact pastItsLine_dict (cB hcD (by rw[aN];lia))) ?_)
 exact wpAny_pure (h _ ⟨(ij.2 _ (Ne.symm I.ne)).trans I.obj,yh,I.ne⟩ ij)
theorem aHe{R:Result->Shared->Prop}{vs:List Value}{kw:List (Str×Value)}(X:K.In s.heap)(hm:aPG K C=true)
 (hi:b6 K (.ref C) "__init__"=some (some (.ref f)))(hf:PySem.W.typeIn K (.ref f)=some (.type "function"))
 (h:codeAny (model prog w) (A.under (.builtin "type.__call__" ⟨.ref C::vs,kw⟩)) (.call (.ref f) ⟨.ref (s.heap.objs.size+1)::vs,kw⟩) (PySem.W.InitBack (s.heap.objs.size+1) R)
  {s with heap:=(s.heap.push c8).push (dP C s.heap.objs.size)}):
 codeAny (model prog w) A (.call (.ref C) ⟨vs,kw⟩) R s:=by
 obtain⟨hh,g,d,t,os⟩:=s
 exact PySem.W.make_core (PySem.W.makes_of X hm) (PySem.W.looks_findIn X hi) (fun self=>PySem.W.bind_fn X self hf) (.inl rfl) h
end
noncomputable def oN(f:Str)(v:V):List (Str×V)->List (Str×V)
 | []=>[(f,v)]
 | (g,x)::r=>if g=f then(g,v)::r else(g,x)::oN f v r
theorem uY(f g:Str)(v:V):∀fs:List (Str×V),(oN f v fs).lookup g=if g=f then some v else fs.lookup g
 | []=>by
   show dL g [(f,v)]=_;by_cases h:g=f
   ·have hb:(g==f)=true:=beq_iff_eq.mpr h;simp only[dL,hb,if_pos h]
   ·have hb:(g==f)=false:=beq_eq_false_iff_ne.mpr h;simp only[dL,hb,if_neg h]
 | (k,x)::r=>by
   have ih:=uY f g v r;rw[show oN f v ((k,x)::r)=(if k=f then(k,v)::r else(k,x)::oN f v r)from rfl];by_cases hk:k=f
   ·rw[if_pos hk];by_cases h:g=k
    ·have hb:(g==k)=true:=beq_iff_eq.mpr h;simp only[dL,hb,if_pos (h.trans hk)]
    ·have hb:(g==k)=false:=beq_eq_false_iff_ne.mpr h;simp only[dL,hb,if_neg (fun e:g=f=>h (e.trans hk.symm))]
   ·rw[if_neg hk];by_cases h:g=k
    ·have hb:(g==k)=true:=beq_iff_eq.mpr h;simp only[dL,hb,if_neg (fun e:g=f=>hk (h.symm.trans e))]
    ·have hb:(g==k)=false:=beq_eq_false_iff_ne.mpr h;simp only[dL,hb]
     exact ih
theorem uI(f:Str)(v:V):∀fs:List (Str×V),f∈(oN f v fs).map (·.1)/\∀g,g∈fs.map (·.1)->g∈(oN f v fs).map (·.1)
 | []=>⟨by simp[oN],fun g h=>by simp at h⟩
 | (k,x)::r=>by
   obtain⟨i1,i2⟩:=uI f v r;rw[show oN f v ((k,x)::r)=(if k=f then(k,v)::r else(k,x)::oN f v r)from rfl];by_cases hk:k=f
   ·rw[if_pos hk];subst hk
    exact⟨by simp,fun g h=>by simpa using h⟩
   ·rw[if_neg hk]
    refine⟨?_,fun g h=>?_⟩
    ·rw[aM]
     exact aZ _ i1
    ·rw[aM]at h|-;rcases bE.mp h with e|e
     ·exact bE.mpr (.inl e)
     ·exact aZ _ (i2 g e)
theorem u6(f:Str)(v:V):∀fs:List (Str×V),(oN f v fs).length<=fs.length+1
 | []=>by simp[oN]
 | (k,x)::r=>by
   have ih:=u6 f v r;rw[show oN f v ((k,x)::r)=(if k=f then(k,v)::r else(k,x)::oN f v r)from rfl];by_cases hk:k=f
   ·rw[if_pos hk,aN,aN];lia
   ·rw[if_neg hk,aN,aN];lia
theorem pE.some_of{v:V}{o:Option Value}(r:pE (some v) o):∃u,o=some u/\RelV v u:=by
 cases o with
 |none=>exact(show False from r).elim
 |some u=>exact⟨u,rfl,r⟩
theorem pE.none_of{o:Option Value}(r:pE none o):o=none:=by
 cases o with
 |none=>rfl
 |some u=>exact(show False from r).elim
theorem aFD{v:V}{u:Value}(r:RelV v u):aP4 u=true:=by
 cases v with
 |non=>cases (show u=Value.none from r);rfl
 |bl b=>cases (show u=Value.bool b from r);rfl
 |int i=>obtain⟨t,e⟩:=(show∃t,u=Value.int i t from r);cases e;rfl
 |str x=>obtain⟨t,e⟩:=(show∃t,u=Value.str x t from r);cases e;rfl
 |byt b=>obtain⟨t,e⟩:=(show∃t,u=Value.bytes b t from r);cases e;rfl
 |flt b=>obtain⟨t,e⟩:=(show∃t,u=Value.float b t from r);cases e;rfl
 |ref a=>cases (show u=Value.ref a from r);rfl
 |ty n=>cases (show u=Value.type n from r);rfl
section
variable {P:Program}{w:World}{H H':Hp}{h h':Heap}{a C dx:Addr}{fs oy:List (Str×V)}
theorem aBs(hok:HOk P w H h)(e:H a=some (.ins C dx fs)):∃mA,aDx h a dx C mA/\(∀f,pE (fs.lookup f) (mA f))/\PySem.Within mA (fs.map (·.1))/\fs.length<=1000/\H dx=some (.own a):=by
 obtain⟨d,z,ne,ob,mA,n,r,q⟩:=(show jP P w H h a (.ins C dx fs)from hok a _ e)
 exact⟨mA,⟨ob,n,ne⟩,r,q,z,d⟩
end
structure Cls(K:aO)(C:Addr):Prop where
 pg:aPa K C Str.empty=true
 hd:aPu K C=true
 po:aPZ K C=true
 sa:b6 K (.ref C) "__setattr__"=some (some (.builtin "object.__setattr__"))
theorem Cls.get{K:aO}{C:Addr}(c:Cls K C)(f:Str):aPa K C f=true:=c.pg
def oU(K:aO)(C:Addr)(f:Str):Prop:=b6 K (.ref C) f=some none
theorem oU.taker{K:aO}{C:Addr}{f:Str}(n:oU K C f):aPF K C f=some none:=by
 unfold aPF;rw[show b6 K (.ref C) f=some none from n];rfl
structure Con(K:aO)(C:Addr)(f:Str)(v:V)(u:Value):Prop where
 at_:b6 K (.ref C) f=some (some u)
 rel:RelV v u
 get:PySem.W.specialIn K u "__get__"=some none
 cp:PySem.W.copiedNames.contains f=false
structure Meth(K:aO)(C:Addr)(m:Str)(f:Addr):Prop where
 at_:b6 K (.ref C) m=some (some (.ref f))
 fn:aO4 K (.ref f)=true
 kp:cG K (.ref f)=true
section
variable {X:Cx}{aa:List (Addr×Obj)}{σ:St}{H:Hp}{s:Shared}{a C dx:Addr}{fs:List (Str×V)}{f:Str}{v:V}{A:Around}{E:Value->Shared->Prop}
variable{Q:Value->Shared->Prop}
theorem xL{b:Bool}(I:Inv X aa σ H s)(e:H a=some (.ins C dx fs))(c:Cls X.K C)(n:oU X.K C f)(l:fs.lookup f=some v)
 (h:∀u s',Inv X aa σ H s'->RelV v u->Q u s'):wpAny (model X.prog X.w) A (getAttr (.ref a) f b) Q E s:=by
 obtain⟨mA,O,r,_,_,_⟩:=aBs I.hok e;obtain⟨u,hu,ru⟩:=pE.some_of (v:=v) (o:=mA f) (by rw[<-l];exact r f)
 exact aKc I.kIn O (c.get f) c.hd n hu (aFD ru) (h u _ (I.tok _) ru)
theorem xY{m:Str}{g:Addr}{pl:Sem Bool}{Q:Value×List Value->Shared->Prop}(I:Inv X aa σ H s)(e:H a=some (.ins C dx fs))(c:Cls X.K C)(k:Meth X.K C m g)(l:fs.lookup m=none)
 (h:Q (.ref g,[.ref a]) s):wpAny (model X.prog X.w) A (getMethod (.ref a) m pl) Q E s:=by
 obtain⟨mA,O,r,_,_,_⟩:=aBs I.hok e;have hn:mA m=none:=pE.none_of (by rw[<-l];exact r m)
 exact aGx I.kIn O (c.get m) k.at_ k.fn hn h
theorem yY{y:V}{u:Value}{Q:Unit->Shared->Prop}(I:Inv X aa σ H s)(e:H a=some (.ins C dx fs))(c:Cls X.K C)(n:oU X.K C f)(hl:fs.length<1000)(ry:RelV y u)
 (h:∀s',Inv X aa σ (upd H a (.ins C dx (oN f y fs))) s'->Q () s'):wpAny (model X.prog X.w) A (setAttr (.ref a) f u) Q E s:=by
 obtain⟨mA,O,r,wi,_,ho⟩:=aBs I.hok e;have hz:(fs.map (·.1)).length<=sizeLine:=by rw[aS,sizeLine_eq];lia
 refine aJ9 I.kIn O c.sa c.po n.taker c.hd wi hz fun h' O' sb=>h _ ?_
 have hd:∃o,h'.get? dx=some o:=let ⟨o,_,_,e',_⟩:=O'.ns;⟨o,e'⟩
 refine I.write (x:=a) (e:=dx) (by rw[e];exact True.intro) (.inr ho) (fun b q hb z=>(sb.2 b hb).trans z) hd ?_
 refine⟨by rw[fP O.ne];exact ho,?_,O.ne,O'.obj,_,O'.ns,fun g=>?_,fun g hg=>?_⟩
 ·have:=u6 f y fs;lia
 ·show pE ((oN f y fs).lookup g) (if g=f then some u else mA g);rw[uY];by_cases q:g=f
  ·rw[if_pos q,if_pos q];exact ry
  ·rw[if_neg q,if_neg q];exact r g
 ·by_cases q:g=f
  ·rw[q];exact(uI f y fs).1
  ·refine(uI f y fs).2 g (wi g fun z=>hg ?_)
   show(if g=f then some u else mA g)=none;rw[if_neg q];exact z
theorem Inv.made(I:Inv X aa σ H s):Inv X aa σ (upd (upd H s.heap.objs.size (.own (s.heap.objs.size+1))) (s.heap.objs.size+1) (.ins C s.heap.objs.size []))
 {s with heap:=(s.heap.push c8).push (dP C s.heap.objs.size)}:=by
 have e1:(s.heap.push c8).get? s.heap.objs.size=some c8:=Heap.get?_push_size s.heap rfl;have e2:((s.heap.push c8).push (dP C s.heap.objs.size)).get? (s.heap.objs.size+1)=some (dP C s.heap.objs.size):=by
  have:=Heap.get?_push_size (s.heap.push c8) (o:=dP C s.heap.objs.size) rfl;rwa[Heap.size_push]at this
 have e3:(s.heap.push c8).Ns s.heap.objs.size (fun _=>none):=⟨c8,#[],_,e1,rfl,(fun e he=>absurd he (by simp)),fun _=>rfl⟩;have I1:=I.laid (a:=s.heap.objs.size) (o:=.own (s.heap.objs.size+1)) (h':=s.heap.push c8) (t':=s.toks) (fun b u q=>Heap.get?_push_of_some _ q) (bF _) ⟨_,e1⟩
 refine I1.laid (a:=s.heap.objs.size+1) (o:=.ins C s.heap.objs.size []) (t':=s.toks) (fun b u q=>Heap.get?_push_of_some _ q) (aQs (Heap.size_push _ _)) ?_
 have ne:s.heap.objs.size≠s.heap.objs.size+1:=bW (d8 _)
 refine⟨by rw[fP ne,i6],dF _,ne,e2,fun _=>none,(Heap.Ns1.of_empty e3).at fun o q=>Heap.get?_push_of_some _ q,fun _=>True.intro,fun y hy=>absurd rfl hy⟩
theorem aJD{prog:Program}{w:World}{env:Env}{e:Expr}{f:Str}{pos:Pos}{s:Shared}(hb:attributeBase e f env (eval e env)=eval e env)
 (h:wpAny (model prog w) A (eval e env) (fun o aj=>wpAny (model prog w) A (getAttr o f true) Q E aj) E s):wpAny (model prog w) A (eval (.Attribute e f pos) env) Q E s:=
 Attribute_any_ h (by rw[arm_eval_Attribute,hb])
end
def tFld(K:aO)(ta:TE)(f:Str):TE:=fun σ H Q=>ta σ H fun x H1=>∃a C dx fs v,x=.ref a/\H1 a=some (.ins C dx fs)/\Cls K C/\oU K C f/\fs.lookup f=some v/\Q v H1
def sFld(K:aO)(ta tv:TE)(f:Str):TS:=fun D σ H=>tv σ H fun y H1=>ta σ H1 fun x H2=>∃a C dx fs,x=.ref a/\H2 a=some (.ins C dx fs)/\Cls K C/\oU K C f/\fs.length<1000/\
 D.nx σ (upd H2 a (.ins C dx (oN f y fs)))
def aKs(X:Cx)(op:Operator)(rd:V->V->Hp->VK->Prop):Prop:=
 ∀(aa:List (Addr×Obj))(s:Shared)(σ:St)(H:Hp)(x y:V)(u v:Value)(Q:VK),Inv X aa σ H s->RelV x u->RelV y v->rd x y H Q->wpAny (model X.prog X.w) X.A (inplaceOp op u v) (EP X aa σ Q) X.xe s
def sFldAug(K:aO)(ta tv:TE)(rd:V->V->Hp->VK->Prop)(f:Str):TS:=fun D σ H=>ta σ H fun x H1=>∃a C dx fs v,x=.ref a/\H1 a=some (.ins C dx fs)/\Cls K C/\oU K C f/\fs.lookup f=some v/\
 tv σ H1 fun y H2=>rd v y H2 fun z H3=>∃ml oy,H3 a=some (.ins C ml oy)/\oy.length<1000/\D.nx σ (upd H3 a (.ins C ml (oN f z oy)))
section
variable {X:Cx}{o e value:Expr}{f:Str}{pos ao aw:Pos}{ta tv:TE}
theorem aM3(he:PE X e ta)(hb:attributeBase e f X.env (eval e X.env)=eval e X.env):PE X (.Attribute e f pos) (tFld X.K ta f):=by
 intro aa s σ H Q I h
 refine aJD hb (thn (he aa s σ H _ I h) fun u s1 zz=>?_)
 obtain⟨x,H1,I1,rx,a,C,dx,fs,v,ex,ea,c,n,l,q⟩:=zz;subst ex;obtain rfl:u=Value.ref a:=rx
 exact xL I1 ea c n l fun u' s2 I2 ru=>⟨v,H1,I2,ru,q⟩
theorem aNc(ha:PE X o ta)(hv:PE X value tv)(hs:swapsWith value (some (.Attribute o f ao)) pos.line X.env=pure false):PS X (.Assign [.Attribute o f ao] value pos) (sFld X.K ta tv f):=by
 intro aa s σ H D I h
 refine plainObj_wpAny_Assign_Attribute (thn (hv aa s σ H _ I h) fun u s1 ⟨y,H1,I1,ry,q⟩=>thn (ha aa s1 σ H1 _ I1 q) fun ov s2 ⟨x,H2,I2,rx,a,C,dx,fs,ex,ea,c,n,l,q2⟩=>?_) hs
 subst ex;obtain rfl:ov=Value.ref a:=rx
 exact yY I2 ea c n l ry fun s3 I3=>⟨σ,_,I3,q2⟩
theorem aAk{op:Operator}{rd:V->V->Hp->VK->Prop}(ha:PE X o ta)(hv:PE X value tv)(yd:aKs X op rd):PS X (.AugAssign (.Attribute o f aw) op value pos) (sFldAug X.K ta tv rd f):=by
 intro aa s σ H D I h
 refine wpAny_AugAssign_AttributeAny (thn (ha aa s σ H _ I h) fun ov s1 zz=>?_)
 obtain⟨x,H1,I1,rx,a,C,dx,fs,v,ex,ea,c,n,l,q⟩:=zz;subst ex;obtain rfl:ov=Value.ref a:=rx
 refine xL I1 ea c n l fun u s2 I2 ru=>thn (hv aa s2 σ H1 _ I2 q) fun w3 s3 ⟨y,H2,I3,ry,q3⟩=>thn (yd aa s3 σ H2 v y u w3 _ I3 ru ry q3) fun w4 s4 zz=>?_
 obtain⟨z,H3,I4,rz,ml,oy,zp,l',q4⟩:=zz
 exact yY I4 zp c n l' rz fun s5 I5=>⟨σ,_,I5,q4⟩
def rAdd:V->V->Hp->VK->Prop:=fun x y H Q=>∃i j,x=.int i/\y=.int j/\Q (.int (i+j)) H
def rSub:V->V->Hp->VK->Prop:=fun x y H Q=>∃i j,x=.int i/\y=.int j/\Q (.int (i - j)) H
theorem aLN:aKs X .Add rAdd:=by
 rintro aa s σ H x y u v Q I rx ry ⟨i,j,rfl,rfl,q⟩;obtain⟨t,rfl⟩:=(show∃t,u=Value.int i t from rx);obtain⟨t',rfl⟩:=(show∃t',v=Value.int j t' from ry)
 exact aQA ⟨.int (i+j),H,I.tok _,⟨_,rfl⟩,q⟩
theorem aIl:aKs X .Sub rSub:=by
 rintro aa s σ H x y u v Q I rx ry ⟨i,j,rfl,rfl,q⟩;obtain⟨t,rfl⟩:=(show∃t,u=Value.int i t from rx);obtain⟨t',rfl⟩:=(show∃t',v=Value.int j t' from ry)
 exact aQB ⟨.int (i - j),H,I.tok _,⟨_,rfl⟩,q⟩
end
section
variable {X:Cx}{aa:List (Addr×Obj)}{σ:St}{H:Hp}{s:Shared}{A:Around}{E:Value->Shared->Prop}{Q:Value->Shared->Prop}{c:Value}{b:Bool}
end
variable{k:Nat}{A:Around}{C:Addr}{us:List Value}{kw:List (Str×Value)}
structure Room(k:Nat)(A:Around):Prop where
 hd:A.handled=none
 dp:A.depth+3*k+5<recursionLimit
 un:A.units+16*k+200<cLine
theorem Room.mono{j:Nat}(r:Room k A)(h:j<=k):Room j A:=⟨r.hd,by have:=r.dp;lia,by have:=r.un;lia⟩
theorem Room.deeper(r:Room (k+1) A)(env:Env):Room k (A.deeper env):=
 ⟨r.hd,by have:=r.dp;show A.depth+1+3*k+5<_;lia,by have:=r.un;show A.units+3+16*k+200<_;lia⟩
theorem aDq:(A.under (.builtin "type.__call__" ⟨.ref C::us,kw⟩)).depth=A.depth+1:=by
 first|rfl|simp[Around.under,Code.weight,Code.isCreation,Code.isGuard,Code.isCaller,Code.frames,Code.isFrame,guardIds]
theorem aDG:(A.under (.builtin "type.__call__" ⟨.ref C::us,kw⟩)).units=A.units+1:=by
 first|rfl|simp[Around.under,Code.cUnits,Code.frames,Code.isFrame]
theorem Room.make(r:Room (k+1) A)(C:Addr)(us:List Value)(kw:List (Str×Value)):Room k (A.under (.builtin "type.__call__" ⟨.ref C::us,kw⟩)):=
 ⟨r.hd,by have:=r.dp;rw[aDq];lia,by have:=r.un;rw[aDG];lia⟩
theorem Room.depth(r:Room k A):A.depth<recursionLimit:=by have:=r.dp;lia
noncomputable def aJs:TA:=fun _ H Q=>Q [] H
noncomputable def aG4(ta:TE)(tr:TA):TA:=fun σ H Q=>ta σ H fun x H1=>tr σ H1 fun xs H2=>Q (x::xs) H2
section
variable {X:Cx}{e:Expr}{es:List Expr}{te:TE}{t:TA}{pos:Pos}
theorem aDi:PA X [] aJs:=fun _ _ _ _ H Q I h=>Calls.spliced_nil ⟨[],H,I,.nil,h⟩
theorem vZ(ha:PE X e te)(hr:PA X es t)(hs:starEach (e::es) X.env=(false,eval e X.env)::starEach es X.env:=by rfl):PA X (e::es) (aG4 te t):=by
 intro pos aa s σ H Q I h;rw[hs];show wpAny _ _ (spliced ((false,eval e X.env)::backTo pos (starEach es X.env))) _ _ s
 refine Calls.spliced_cons (thn (ha aa s σ H _ I h) fun u s1 zz=>?_)
 obtain⟨x,H1,I1,r1,q1⟩:=zz
 exact thn (hr pos aa s1 σ H1 _ I1 q1) fun us s2 ⟨xs,H2,I2,r2,q2⟩=>⟨x::xs,H2,I2,.cons r1 r2,q2⟩
def tTup(t:TA):TE:=fun σ H Q=>t σ H fun xs H1=>xs.length<=sizeLine/\∀p,H1 p=none->Q (.ref p) (upd H1 p (.tup xs))
def tLst(t:TA):TE:=fun σ H Q=>t σ H fun xs H1=>xs.length<=sizeLine/\∀p,H1 p=none->Q (.ref p) (upd H1 p (.lst xs))
theorem aNk{x1}(h:PA X es t):PE X (.Tuple es x1 pos) (tTup t):=by
 intro aa s σ H Q I hq
 refine wpAny_Tuple_spliced (thn (h pos aa s σ H _ I hq) fun us s1 ⟨xs,H1,I1,r,z,q⟩=>⟨by rw[<-r.length];exact z,?_⟩)
 have hf:H1 s1.heap.objs.size=none:=I1.hok.fresh (bF _)
 refine⟨.ref s1.heap.objs.size,upd H1 s1.heap.objs.size (.tup xs),I1.laid (t':=s1.toks) (fun b u e=>Heap.get?_push_of_some _ e) (bF _) ?_,rfl,q _ hf⟩
 exact⟨z,us,r,⟨_,Heap.get?_push_size _ rfl,rfl,_,rfl⟩⟩
theorem aL2(h:PA X es t):PE X (.List es pos) (tLst t):=by
 intro aa s σ H Q I hq
 refine wpAny_List_spliced (thn (h pos aa s σ H _ I hq) fun us s1 ⟨xs,H1,I1,r,z,q⟩=>⟨by rw[<-r.length];exact z,?_⟩)
 have hf:H1 s1.heap.objs.size=none:=I1.hok.fresh (bF _)
 refine⟨.ref s1.heap.objs.size,upd H1 s1.heap.objs.size (.lst xs),I1.laid (t':=s1.toks) (fun b u e=>Heap.get?_push_of_some _ e) (bF _) ?_,rfl,q _ hf⟩
 exact⟨z,us,0,r,Heap.get?_push_size _ rfl⟩
end
abbrev Sp:=List V->Hp->VK->XK->Prop
abbrev CXT:=List Env->Hp->Shared->XK->Value->Shared->Prop
structure Env0(P:Program)(w:World)(K:aO)(mg:Str->Option Value)(base:Heap)(A:Around)(outer:List Env)(s:Shared)(H:Hp):Prop where
 frames:A.frames=some outer
 mod:Mod K mg base
 bs:∀b o,base.get? b=some o->s.heap.get? b=some o/\H b=none
 bsz:base.objs.size<=s.heap.objs.size
 funs:s.heap.FunFrames base outer
 frf:∀b∈frs outer,H b=none
 hok:HOk P w H s.heap
 bare:AllBare s.gens
def CE(outer:List Env)(P:Program)(w:World)(H:Hp)(s:Shared)(Q:VK)(u:Value)(s':Shared):Prop:=
 ∃v H',s'.os=s.os/\AllBare s'.gens/\Un (frs outer) [] H H' s.heap s'.heap/\HOk P w H' s'.heap/\RelV v u/\Q v H'
def CR(CX:CXT)(outer:List Env)(P:Program)(w:World)(H:Hp)(s:Shared)(Q:VK)(E:XK)(r:Result)(s':Shared):Prop:=
 match r with
 | .ok (.ret u)=>CE outer P w H s Q u s'
 | .ok _=>False
 | .error e=>CX outer H s E e s'
structure mQ(P:Program)(w:World)(K:aO)(mg:Str->Option Value)(base:Heap)(CX:CXT)(k:Nat)(f:Addr)(fd:FuncData)(ps:List Str)(sp:Sp):Prop where
 len:∀vs H Q E,sp vs H Q E->vs.length=ps.length
 run:∀(A:Around)(outer:List Env)(s:Shared)(H:Hp)(args:Args)(us:List Value)(vs:List V)(Q:VK)(E:XK),Room k A->Env0 P w K mg base A outer s H->BindsTo s fd args (ps.zip us)->Vals vs us->sp vs H Q E->
  codeAny (model P w) A (.call (.ref f) args) (CR CX outer P w H s Q E) s
theorem Env0.make{P:Program}{w:World}{K:aO}{mg:Str->Option Value}{base:Heap}{A:Around}{outer:List Env}{s:Shared}{H:Hp}(e:Env0 P w K mg base A outer s H)(C:Addr)(us:List Value)(kw:List (Str×Value)):
 Env0 P w K mg base (A.under (.builtin "type.__call__" ⟨.ref C::us,kw⟩)) outer s H:=⟨by first|exact e.frames| (simpa[Around.under,Code.envs,Code.isFrame,pushEnvs]using e.frames),e.mod,e.bs,e.bsz,e.funs,e.frf,e.hok,e.bare⟩
section
variable {X:Cx}{aa:List (Addr×Obj)}{σ:St}{H:Hp}{s s':Shared}
theorem Inv.env0(I:Inv X aa σ H s):Env0 X.prog X.w X.K X.mg X.base X.A X.stack s H:=
 ⟨I.ok.frames,I.ok.mod,I.bs,cB I.ok.bsz I.sz,I.stack,I.stkFree,I.hok,I.bare⟩
theorem Inv.after{Q:VK}{u:Value}(I:Inv X aa σ H s)(h:CE X.stack X.prog X.w H s Q u s'):EP X aa σ Q u s':=by
 obtain⟨v,H',os,bare,un,hok,r,q⟩:=h;obtain⟨hh,g,d,t,os'⟩:=s';obtain rfl:os'=s.os:=os
 exact⟨v,H',I.call (h':=hh) (g':=g) (d':=d) (t':=t) (ch:=[]) un hok bare (fun b z=>absurd z (by simp)),r,q⟩
end
noncomputable def aAi(sp:Sp)(bh:List V)(E:XK)(t:TA):TE:=fun σ H Q=>t σ H fun vs H1=>sp (vs++bh) H1 Q E
def aHq(C:Addr)(m:Str)(sp:Sp)(bh:List V)(E:XK)(ta:TE)(t:TA):TE:=fun σ H Q=>ta σ H fun x H1=>∃a dx fs,x=.ref a/\H1 a=some (.ins C dx fs)/\fs.lookup m=none/\
 t σ H1 fun vs H2=>sp (x::(vs++bh)) H2 Q E
def tMake(C:Addr)(sp:Sp)(bh:List V)(E:XK)(t:TA):TE:=fun σ H Q=>t σ H fun vs H1=>∀x dx,H1 x=none->H1 dx=none->dx≠x->
 sp (.ref x::(vs++bh)) (upd (upd H1 dx (.own x)) x (.ins C dx [])) (fun v H2=>v=.non/\Q (.ref x) H2) E
def Binds(K:aO)(fd:FuncData)(ps:List Str)(ds:List Value):Prop:=
 ∀(s:Shared)(us:List Value),K.In s.heap->(us++ds).length=ps.length->BindsTo s fd ⟨us,[]⟩ (ps.zip (us++ds))
theorem Binds.all{K:aO}{fd:FuncData}{ps:List Str}(h:∀us:List Value,us.length=ps.length->bindArgs fd ⟨us,[]⟩=pure (ps.zip us)):Binds K fd ps []:=fun s us _ hl=>by
 rw[aW]at hl|-
 exact .of_eq (h us hl)
def Passes(CX:CXT)(X:Cx)(E:XK):Prop:=∀(aa:List (Addr×Obj))(σ:St)(H:Hp)(s:Shared)(e:Value)(s':Shared),Inv X aa σ H s->CX X.stack H s E e s'->X.xe e s'
section
variable {X:Cx}{CX:CXT}{k:Nat}{f C:Addr}{fd:FuncData}{ps:List Str}{sp:Sp}{bh:List V}{ds:List Value}{E:XK}{x m:Str}{p pos al:Pos}{e o:Expr}{es:List Expr}{ta:TE}{t:TA}
variable{aa:List (Addr×Obj)}{σ:St}{Q:VK}{vs:List V}{pl:Sem Bool}
theorem aDp{H:Hp}{s:Shared}{us:List Value}(F:mQ X.prog X.w X.K X.mg X.base CX k f fd ps sp)(hr:Room k X.A)(hb:Binds X.K fd ps ds)(hd:Vals bh ds)(hx:Passes CX X E)
 (I:Inv X aa σ H s)(r:Vals vs us)(h:sp (vs++bh) H Q E):wpAny (model X.prog X.w) X.A (call (.ref f) us) (EP X aa σ Q) X.xe s:=by
 have r2:Vals (vs++bh) (us++ds):=r.append hd;have hl:(us++ds).length=ps.length:=by rw[<-r2.length];exact F.len _ _ _ _ h
 refine wpAny_call (codeAny_mono (F.run X.A X.stack s H ⟨us,[]⟩ (us++ds) (vs++bh) Q E hr I.env0 (hb s us I.kIn hl) r2 h) fun r s' hq=>?_)
 cases r with
 |error e=>exact hx aa σ H s e s' I hq
 |ok fl=>
  cases fl with
  |ret u=>exact I.after hq
  |next=>exact False.elim hq
  |brk=>exact False.elim hq
  |cont=>exact False.elim hq
theorem sJ(F:mQ X.prog X.w X.K X.mg X.base CX k f fd ps sp)(hr:Room k X.A)(hg:Gl X x)(hm:X.mg x=some (.ref f))(hk:cG X.K (.ref f)=true)(hb:Binds X.K fd ps ds)(hd:Vals bh ds)(hx:Passes CX X E)
 (ha:PA X (e::es) t)(cc:(x==("__debug__":Str))=false:=by decide)(he:starEach (e::es) X.env=(false,eval e X.env)::starEach es X.env:=by rfl)(av:(backTo pos (starEach es X.env)).any (·.1)=false:=by rfl):
 PE X (.Call (.Name x p) (e::es) [] pos) (aAi sp bh E t):=by
 intro aa s σ H Q I h
 refine wpAny_Call_Name_kw (aBB I hg hm ?_ cc)
 refine aPo (h₀:=X.base) I.ok.mod.kin hk (thn (ha pos aa s σ H _ I h) fun us s1 ⟨vs,H1,I1,r,q⟩=>⟨I1.kIn,?_⟩) he av
 exact aDp F hr hb hd hx I1 r q
theorem aJG(he:PE X o ta)(c:Cls X.K C)(hm:Meth X.K C m f)(F:mQ X.prog X.w X.K X.mg X.base CX k f fd ps sp)(hr:Room k X.A)(hb:Binds X.K fd ps ds)(hd:Vals bh ds)(hx:Passes CX X E)(ha:PA X (e::es) t)
 (bc:starEach (e::es) X.env=(false,eval e X.env)::starEach es X.env:=by rfl)(av:(backTo pos (starEach es X.env)).any (·.1)=false:=by rfl)
 (ht:eval (.Call (.Attribute o m al) (e::es) [] pos) X.env=(do
  let ov<-eval o X.env
  standAt al.atName
  let (f,first)<-holding [ov] (getMethod ov m pl)
  callWith pos f first (backTo pos (starEach (e::es) X.env)) (backToKw pos (keywordEach [] X.env))):=by rfl):
 PE X (.Call (.Attribute o m al) (e::es) [] pos) (aHq C m sp bh E ta t):=by
 intro aa s σ H Q I h
 refine aPI (pl:=pl) (thn (he aa s σ H _ I h) fun u s1 ⟨x,H1,I1,rx,a,dx,fs,ex,ea,l,q⟩=>?_) ht
 subst ex;obtain rfl:u=Value.ref a:=rx
 refine xY I1 ea c hm l ?_
 refine aPo (first:=[.ref a]) (h₀:=X.base) I.ok.mod.kin hm.kp (thn (ha pos aa s1 σ H1 _ I1 q) fun us s2 ⟨vs,H2,I2,r,q2⟩=>⟨I2.kIn,?_⟩) bc av
 exact aDp (us:=.ref a::us) (vs:=.ref a::vs) F hr hb hd hx I2 (.cons rfl r) q2
theorem aIU(he:PE X o ta)(c:Cls X.K C)(hm:Meth X.K C m f)(F:mQ X.prog X.w X.K X.mg X.base CX k f fd ps sp)(hr:Room k X.A)(hb:Binds X.K fd ps ds)(hd:Vals bh ds)(hx:Passes CX X E)
 (ht:eval (.Call (.Attribute o m al) [] [] pos) X.env=(do
  let ov<-eval o X.env
  standAt al.atName
  let (f,first)<-holding [ov] (getMethod ov m pl)
  callWith pos f first (backTo pos (starEach [] X.env)) (backToKw pos (keywordEach [] X.env))):=by rfl):
 PE X (.Call (.Attribute o m al) [] [] pos) (aHq C m sp bh E ta aJs):=by
 intro aa s σ H Q I h
 refine aPI (pl:=pl) (thn (he aa s σ H _ I h) fun u s1 ⟨x,H1,I1,rx,a,dx,fs,ex,ea,l,q⟩=>?_) ht
 subst ex;obtain rfl:u=Value.ref a:=rx
 refine xY I1 ea c hm l ?_
 exact PySem.W.callWith_K0 (first:=[.ref a]) I1.kIn hm.kp (aDp (us:=[.ref a]) (vs:=[.ref a]) F hr hb hd hx I1 (.cons rfl .nil) q)
structure Mk(K:aO)(C f:Addr):Prop where
 makes:aPG K C=true
 init:b6 K (.ref C) "__init__"=some (some (.ref f))
 fn:aO4 K (.ref f)=true
 kp:cG K (.ref C)=true
theorem aHt{H:Hp}{s:Shared}{us:List Value}(M:Mk X.K C f)(F:mQ X.prog X.w X.K X.mg X.base CX k f fd ps sp)(hr:Room (k+1) X.A)(hb:Binds X.K fd ps ds)(hd:Vals bh ds)
 (hx:Passes CX X E)(I:Inv X aa σ H s)(r:Vals vs us)
 (h:∀x dx,H x=none->H dx=none->dx≠x->sp (.ref x::(vs++bh)) (upd (upd H dx (.own x)) x (.ins C dx [])) (fun v H2=>v=.non/\Q (.ref x) H2) E):
 wpAny (model X.prog X.w) X.A (call (.ref C) us) (EP X aa σ Q) X.xe s:=by
 have hq:=h (s.heap.objs.size+1) s.heap.objs.size (I.hok.fresh (aQD _)) (I.hok.fresh (bF _)) (bW (d8 _));have I2:=Inv.made (C:=C) I;have r2:Vals (V.ref (s.heap.objs.size+1)::(vs++bh)) (Value.ref (s.heap.objs.size+1)::(us++ds)):=.cons rfl (r.append hd);have hl:(Value.ref (s.heap.objs.size+1)::us++ds).length=ps.length:=by
  have e:=r2.length;rw[F.len _ _ _ _ hq]at e
  exact e.symm
 refine wpAny_call (aHe (f:=f) I.kIn M.makes M.init (beq_iff_eq.mp M.fn) (codeAny_mono (F.run _ X.stack _ _ ⟨Value.ref (s.heap.objs.size+1)::us,[]⟩ (Value.ref (s.heap.objs.size+1)::(us++ds)) _ _ E (hr.make C us [])
  (I2.env0.make C us []) (hb _ (Value.ref (s.heap.objs.size+1)::us) I2.kIn hl) r2 hq) fun r s' se=>?_))
 cases r with
 |error e=>exact hx aa σ _ _ e s' I2 se
 |ok fl=>
  cases fl with
  |ret u=>
   obtain⟨v,H',I3,rv,ev,q3⟩:=I2.after se;subst ev
   exact⟨rv,⟨V.ref (s.heap.objs.size+1),H',I3,rfl,q3⟩⟩
  |next=>exact False.elim se
  |brk=>exact False.elim se
  |cont=>exact False.elim se
theorem aKS(M:Mk X.K C f)(F:mQ X.prog X.w X.K X.mg X.base CX k f fd ps sp)(hr:Room (k+1) X.A)(hg:Gl X x)(hm:X.mg x=some (.ref C))(hb:Binds X.K fd ps ds)(hd:Vals bh ds)(hx:Passes CX X E)
 (ha:PA X (e::es) t)(cc:(x==("__debug__":Str))=false:=by decide)(he:starEach (e::es) X.env=(false,eval e X.env)::starEach es X.env:=by rfl)(av:(backTo pos (starEach es X.env)).any (·.1)=false:=by rfl):
 PE X (.Call (.Name x p) (e::es) [] pos) (tMake C sp bh E t):=by
 intro aa s σ H Q I h
 refine wpAny_Call_Name_kw (aBB I hg hm ?_ cc)
 refine aPo (h₀:=X.base) I.ok.mod.kin M.kp (thn (ha pos aa s σ H _ I h) fun us s1 ⟨vs,H1,I1,r,q⟩=>⟨I1.kIn,?_⟩) he av
 exact aHt M F hr hb hd hx I1 r q
end
def PK(X:Cx)(kg:List Keyword)(t:TA):Prop:=
 ∀(pos:Pos)(aa:List (Addr×Obj))(s:Shared)(σ:St)(H:Hp)(Q:List V->Hp->Prop),Inv X aa σ H s->t σ H Q->wpAny (model X.prog X.w) X.A (evalAll ((backToKw pos (keywordEach kg X.env)).map (·.2))) (AP X aa σ Q) X.xe s
section
variable {X:Cx}{CX:CXT}{k:Nat}{f C:Addr}{fd:FuncData}{ps ks:List Str}{sp:Sp}{E:XK}{x m:Str}{p pos al xc:Pos}{e o:Expr}{es:List Expr}{kg:List Keyword}{te ta:TE}{t tk:TA}{nm:Option Str}
theorem aMk:PK X [] aJs:=fun _ _ _ _ H Q I h=>wpAny_evalAll_nil ⟨[],H,I,.nil,h⟩
theorem aJm(ha:PE X e te)(hr:PK X kg t):PK X (⟨nm,e,xc⟩::kg) (aG4 te t):=by
 intro pos aa s σ H Q I h;show wpAny _ _ (evalAll ((do let v<-eval e X.env;standAt pos;pure v)::(backToKw pos (keywordEach kg X.env)).map (·.2))) _ _ s
 refine wpAny_evalAll_cons (wpAny_bind (thn (ha aa s σ H _ I h) fun u s1 ⟨x,H1,I1,r1,q1⟩=>wpAny_bind (wpAny_standAt (wpAny_pure ?_))))
 exact thn (hr pos aa s1 σ H1 _ I1 q1) fun us s2 ⟨xs,H2,I2,r2,q2⟩=>⟨x::xs,H2,I2,.cons r1 r2,q2⟩
variable {g:List Value->List Value->List Value}{gV:List V->List V->List V}
end
variable{CX:CXT}{mg:Str->Option Value}{base:Heap}{N ps:List Str}{qual:Str}{scope:Scope}{f:Addr}
structure qB(N P:List Str)(sc:Scope):Prop where
 kind:sc.kind=.function
 co:sc.isCoroutine=false
 gen:sc.isGenerator=false
 nd:N.Nodup
 pre:N.take P.length=P
 par:∀x∈P,sc.names.lookup x=some .local\/sc.names.lookup x=some .cell
 nofree:∀y∈sc.names,y.2≠ .free
theorem aAy{kindOf:Str->Option NameKind}{x:Str}:∀{binds:List (Str×Value)}{m:Str->Option Value},(∀v,(x,v)∉binds)->bindL kindOf binds m x=m x
 | [],_,_=>rfl
 | (n,v)::r,m,h=>by
   unfold bindL;rw[aAy fun w hw=>h w (aZ _ hw)];split
   ·have:x≠n:=by rintro rfl;exact h v bJ
    simp[this]
   ·rfl
theorem aAN{kindOf:Str->Option NameKind}{x:Str}:∀{binds:List (Str×Value)}{m:Str->Option Value},(∀v,(x,v)∉binds)->bindC kindOf binds m x=m x
 | [],_,_=>rfl
 | (n,v)::r,m,h=>by
   unfold bindC;rw[aAN fun w hw=>h w (aZ _ hw)];split
   ·rfl
   ·have:x≠n:=by rintro rfl;exact h v bJ
    simp[this]
theorem aAK{kindOf:Str->Option NameKind}{x:Str}{v:Value}:∀{P:List Str}{vs:List Value}{i:Nat}{m:Str->Option Value},P.Nodup->P[i]?=some x->vs[i]?=some v->kindOf x=some .local->
 bindL kindOf (P.zip vs) m x=some v
 | [],_,_,_,_,h,_,_=>by simp at h
 |_::_,[],_,_,_,_,h,_=>by simp at h
 |p::P,w::vs,0,m,nd,h1,h2,hk=>by
  simp at h1 h2;subst h1;subst h2;show bindL kindOf ((p,w)::P.zip vs) m p=_;unfold bindL;rw[aAy fun v hv=>(bV.mp nd).1 (aOZ hv).1,if_pos hk];simp
 |p::P,w::vs,i+1,m,nd,h1,h2,hk=>by
  show bindL kindOf ((p,w)::P.zip vs) m x=_;unfold bindL
  exact aAK (i:=i) (bV.mp nd).2 (by simpa using h1) (by simpa using h2) hk
theorem aAo{kindOf:Str->Option NameKind}{x:Str}{v:Value}:∀{P:List Str}{vs:List Value}{i:Nat}{m:Str->Option Value},P.Nodup->P[i]?=some x->vs[i]?=some v->kindOf x≠some .local->
 bindC kindOf (P.zip vs) m x=some v
 | [],_,_,_,_,h,_,_=>by simp at h
 |_::_,[],_,_,_,_,h,_=>by simp at h
 |p::P,w::vs,0,m,nd,h1,h2,hk=>by
  simp at h1 h2;subst h1;subst h2;show bindC kindOf ((p,w)::P.zip vs) m p=_;unfold bindC;rw[aAN fun v hv=>(bV.mp nd).1 (aOZ hv).1,if_neg hk];simp
 |p::P,w::vs,i+1,m,nd,h1,h2,hk=>by
  show bindC kindOf ((p,w)::P.zip vs) m x=_;unfold bindC
  exact aAo (i:=i) (bV.mp nd).2 (by simpa using h1) (by simpa using h2) hk
noncomputable def start(N:List Str)(vs:List V):St:=vs.map some++aT (N.length - vs.length) none
def aAT(CX:CXT)(P:Program)(w:World)(K:aO)(mg:Str->Option Value)(base:Heap)(N:List Str)(qual:Str)(scope:Scope)(f:Addr)(cd:Value)(A:Around)(outer:List Env)(s:Shared)(H:Hp)(E:XK):Cx where
 prog:=P
 w:=w
 K:=K
 mg:=mg
 base:=base
 A:=A.deeper (envOfC qual scope s.heap.objs.size f cd)
 N:=N
 s₀:=s
 H₀:=H
 env:=envOfC qual scope s.heap.objs.size f cd
 outer:=outer
 stack:=envOfC qual scope s.heap.objs.size f cd::outer
 ex:=[]
 calm:=true
 fn:=fun _=>true
 pn:=[]
 xe:=fun e s'=>wpAny (model P w) (A.deeper (envOfC qual scope s.heap.objs.size f cd)) (leaving (envOfC qual scope s.heap.objs.size f cd) e) (fun _ qj=>CX outer H s E e qj) (fun e' qj=>CX outer H s E e' qj) s'
theorem aCr{sc:Scope}{n:Nat}{x:Str}(h:sc.names.lookup x=some .cell):∃c,(cellsFrom n sc.names []).lookup x=some c:=by
 have q:=aPD sc.names n [] (.inl h)
 exact cO.mp q
theorem aFk{P:Program}{w:World}{K:aO}{cd:Value}{A:Around}{outer:List Env}{s s1:Shared}{H:Hp}{E:XK}{us:List Value}{vs:List V}
 (S:qB N ps scope)(hd:A.handled=none)(e0:Env0 P w K mg base A outer s H)(hl:vs.length=ps.length)(r:Vals vs us)
 (x:InCallC s s.heap.objs.size (bindL (envOfC qual scope s.heap.objs.size f cd).kindOf (ps.zip us) fun _=>none) (cellsFrom (s.heap.objs.size+1) scope.names []) (bindC (envOfC qual scope s.heap.objs.size f cd).kindOf (ps.zip us) fun _=>none) s1):
 Inv (aAT CX P w K mg base N qual scope f cd A outer s H E) [] (start N vs) H s1:=by
 have av:ps.length<=N.length:=by have:=congrArg aQd S.pre;rw[d9]at this;lia
 obtain⟨h1,tk,rfl,hk⟩:=x.done;have qq:∀b:Addr,b∉(aAT CX P w K mg base N qual scope f cd A outer s H E).ex:=fun b z=>absurd (show b∈([]:List Addr)from z) (by simp)
 refine⟨⟨e0.mod,S.kind,rfl,rfl,bF _,fun y z c h1 h2=>?_,fun y hy=>?_,fun y c _ h=>?_,fun _=>hd,Around.frames_deeper e0.frames,.inr ⟨rfl,rfl⟩,fun b z=>absurd z (qq b),e0.bs,e0.bsz,fun b _ _=>qq b,fun b z=>absurd z (qq b),e0.funs,e0.frf⟩,
  rfl,e0.bare,Un.kept hk,⟨_,x.toInCall.ns,fun i y v h1 h2 h3=>?_⟩,fun y c h=>⟨_,x.cell y c h⟩,e0.hok.fresh (bF _),fun y c h=>?_,fun p hp=>absurd (show p∈([]:List (Addr×Obj))from hp) (by simp),e0.hok.kept hk,?_⟩
 ·exact name_of_addr x.apart (PySem.mem_of_lookup h1) (PySem.mem_of_lookup h2)
 ·have hy:scope.names.lookup y=some .cell\/scope.names.lookup y=some .free:=hy;rcases hy with hy|hy
  ·exact aCr hy
  ·exact absurd rfl (S.nofree _ (PySem.mem_of_lookup hy))
 ·exact aPY (x.above y c (PySem.mem_of_lookup h))
 ·have hi:i<vs.length:=by
   unfold start at h2;by_cases hi:i<vs.length
   ·exact hi
   ·rw[bK (by simpa using hi)]at h2;rw[cN]at h2;split at h2<;>cases h2
  have ha:vs[i]?=some v:=by
   unfold start at h2;rw[aY (by simpa using hi),bH]at h2;cases e:vs[i]?with
   |none=>rw[e]at h2;cases h2
   |some a=>rw[e]at h2;cases h2;rfl
  obtain⟨u,hu,rv⟩:=r.get ha;have hp:ps[i]?=some y:=by
   rw[<-S.pre,d0 (by lia)];exact h1
  have ndP:ps.Nodup:=by rw[<-S.pre];exact S.nd.sublist (List.take_sublist _ _)
  refine⟨u,rv,?_⟩
  rcases S.par y (bC hp)with k|k
  ·exact .inl ⟨k,aAK ndP hp hu k⟩
  ·obtain⟨c,e⟩:=aCr (n:=s.heap.objs.size+1) k
   refine .inr ⟨.inl k,c,e,?_⟩
   have q:=x.cell y c e;rw[aAo ndP hp hu (by show scope.names.lookup y≠_;rw[k];decide)]at q
   exact q
 ·exact e0.hok.fresh (aPY (x.above y c (PySem.mem_of_lookup h)))
 ·unfold start;show _=N.length;rw[bD,aS,eP]
  lia
theorem aLG{P:Program}{w:World}{K:aO}{k:Nat}{name:Str}{params:Arguments}{body:List Stmt}{dV kV doc pm ay ct oc:Value}{an od:Option Addr}
 {eh:Array (Option Value)}{sp:Sp}(lk:K.lookup f=some ⟨oc,od,.func (cK name qual params body scope dV kV doc pm an ay ct),eh⟩)(iu:dM K ay qual=true)(S:qB N ps scope)
 (len:∀vs H Q E,sp vs H Q E->vs.length=ps.length)
 (db:∀(A:Around)(outer:List Env)(s:Shared)(H:Hp)(vs:List V)(Q:VK)(E:XK),Room k (A.deeper (envOfC qual scope s.heap.objs.size f ay))->sp vs H Q E->
  ∃t,PSs (aAT CX P w K mg base N qual scope f ay A outer s H E) body t/\t {nx:=fun _ H'=>Q .non H',rt:=Q} (start N vs) H):
 mQ P w K mg base CX (k+1) f (cK name qual params body scope dV kV doc pm an ay ct) ps sp:=by
 refine⟨len,fun A outer s H args us vs Q E hr e0 hb r fg=>?_⟩
 have hl:=len _ _ _ _ fg;have KX:K.In s.heap:=e0.mod.kin.keeps fun b o e=>(e0.bs b o e).1
 have lim:s.heap.NoLimit:=e0.mod.nolimit.keeps fun b o e=>(e0.bs b o e).1
 have sw:∀y∈ps.zip us,scope.names.lookup y.1=some .local\/(scope.names.lookup y.1=some .cell/\((cellsFrom (s.heap.objs.size+1) scope.names []).lookup y.1).isSome=true):=fun⟨n,v⟩ hy=>by
  rcases S.par n (aOZ hy).1 with q|q
  ·exact .inl q
  ·exact .inr ⟨q,aPD _ _ _ (.inl q)⟩
 refine codeAny_call_function hr.depth (KX _ _ lk) rfl S.co S.gen rfl (PySem.W.codeRec_of KX iu) (hb _ _ _ _ ?_)
 refine wpAny_newFunctionEnv_cells S.kind sw fun env he s1 x=>?_
 subst he
 refine⟨lim.keeps x.toInCall.keep,codeAny_func ?_⟩
 obtain⟨t,ht,hq⟩:=db A outer s H vs Q E (hr.deeper _) fg;have I:Inv (aAT CX P w K mg base N qual scope f ay A outer s H E) [] (start N vs) H s1:=aFk S hr.hd e0 hl r x
 refine wpAny_mono (ht [] s1 (start N vs) H _ I hq) (fun fl s' hs=>?_) fun e s' hs=>hs
 have fin:∀{ah:St}{H':Hp}{v:V}{u:Value},Inv (aAT CX P w K mg base N qual scope f ay A outer s H E) [] ah H' s'->RelV v u->Q v H'->CE outer P w H s Q u s':=
  fun {ah H' v u} J rv q=>⟨v,H',J.os,J.bare,J.base,J.hok,rv,q⟩
 cases fl with
 |ret u=>
  obtain⟨v,ah,H',J,rv,q⟩:=hs
  exact fin J rv q
 |next=>
  obtain⟨ah,H',J,q⟩:=hs
  exact fin (v:=V.non) (u:=Value.none) J rfl q
 |brk=>
  obtain⟨_,_,_,q⟩:=hs
  exact False.elim q
 |cont=>
  obtain⟨_,_,_,q⟩:=hs
  exact False.elim q
section
variable {X:Cx}{x:Str}{p pos:Pos}{e:Expr}{es:List Expr}{t:TA}{id T:String}{r:List V->Hp->VK->Prop}
noncomputable def tCB(r:List V->Hp->VK->Prop)(t:TA):TE:=fun σ H Q=>t σ H fun vs H1=>r vs H1 Q
theorem aCO(hc:nV X (.builtin id) r)(hg:Gl X x)(hm:X.mg x=none)(hv:bootBuiltins x=some (.builtin id))(ha:PA X (e::es) t)(hn:x≠"__name__":=by decide)(cc:(x==("__debug__":Str))=false:=by decide)
 (he:starEach (e::es) X.env=(false,eval e X.env)::starEach es X.env:=by rfl)(av:(backTo pos (starEach es X.env)).any (·.1)=false:=by rfl):PE X (.Call (.Name x p) (e::es) [] pos) (tCB r t):=by
 intro aa s σ H Q I h
 refine wpAny_Call_Name_kw (pQ I hg hm hv ?_ hn cc)
 exact aP5 (thn (ha pos aa s σ H _ I h) fun us s1 ⟨vs,H1,I1,r1,q1⟩=>hc aa s1 σ H1 vs us Q I1 r1 q1) he av
theorem aAF(hc:nV X (.type T) r)(hg:Gl X x)(hm:X.mg x=none)(hv:bootBuiltins x=some (.type T))(ha:PA X (e::es) t)(hn:x≠"__name__":=by decide)(cc:(x==("__debug__":Str))=false:=by decide)
 (he:starEach (e::es) X.env=(false,eval e X.env)::starEach es X.env:=by rfl)(av:(backTo pos (starEach es X.env)).any (·.1)=false:=by rfl):PE X (.Call (.Name x p) (e::es) [] pos) (tCB r t):=by
 intro aa s σ H Q I h
 refine wpAny_Call_Name_kw (pQ I hg hm hv ?_ hn cc)
 exact dD (thn (ha pos aa s σ H _ I h) fun us s1 ⟨vs,H1,I1,r1,q1⟩=>hc aa s1 σ H1 vs us Q I1 r1 q1) he av
end
end L2
namespace HT
open PySem PyProof.Rows
section
open PySem.SeqAt
open PySem.AutoSeq1 (wpAny_loadPart')
open PySem.MeetsSeq PySem.MeetsSeq2 PySem.MeetsSeq3
end
section
variable {prog:Program}{w:World}{A:Around}{E:Value->Shared->Prop}{s:Shared}
noncomputable def sIx(n d:Nat):Option Int->Nat
 |none=>d
 |some v=>if v<0 then(v+(n:Int)).toNat else min v.toNat n
theorem aC7(n d:Nat):sIx n d none=d:=rfl
end
end HT
namespace L2
open PySem PySem.Spec PyProof.Rows
abbrev TO:=St->Hp->(Option Int->Hp->Prop)->Prop
def PO(X:Cx)(e:Option Expr)(t:TO):Prop:=
 ∀(aa:List (Addr×Obj))(s:Shared)(σ:St)(H:Hp)(Q:Option Int->Hp->Prop),Inv X aa σ H s->t σ H Q->
  wpAny (model X.prog X.w) X.A (evalPart e X.env) (fun u s'=>∃o H',Inv X aa σ H' s'/\IsPart u o/\Q o H') X.xe s
noncomputable def tNoPart:TO:=fun _ H Q=>Q none H
noncomputable def tPart(t:TE):TO:=fun σ H Q=>t σ H fun x H1=>∃i,x=.int i/\Q (some i) H1
theorem oX{ns:List Int}:∀{us:List Value},Vals (ns.map V.int) us->IntsAre us ns:=by
 induction ns with
 |nil=>intro us r;rw[bB]at r;cases r;exact .nil
 |cons n ns ih=>
  intro us r;rw[aM]at r;cases r with
  |cons r1 r2=>
   obtain⟨t,e⟩:=r1;subst e
   exact .cons n t (ih r2)
section
variable {X:Cx}{e:Expr}{te:TE}{lo hi:Option Expr}{tl th:TO}{pos p2:Pos}
theorem aJI:PO X none tNoPart:=by
 intro aa s σ H Q I h;rw[evalPart_none]
 exact wpAny_pure ⟨none,H,I,.none,h⟩
theorem aBg(h:PE X e te):PO X (some e) (tPart te):=by
 intro aa s σ H Q I hw;rw[evalPart_some]
 refine thn (h aa s σ H _ I hw) fun u s1 zz=>?_
 obtain⟨x,H1,I1,r1,q1⟩:=zz;obtain⟨i,rfl,q⟩:=q1;obtain⟨t,rfl⟩:=r1
 exact⟨some i,H1,I1,.int i t,q⟩
def SlR(X:Cx)(r:V->Option Int->Option Int->Hp->VK->Prop):Prop:=
 ∀(aa:List (Addr×Obj))(s:Shared)(σ:St)(H:Hp)(x:V)(v vl vu:Value)(lo hi:Option Int)(sl:Addr)(Q:VK),Inv X aa σ H s->RelV x v->s.heap.IsSliceOf sl vl vu .none->IsPart vl lo->IsPart vu hi->r x lo hi H Q->
  ∃T id,typeLookup (.type T) "__getitem__"=pure (some (.builtin id))/\s.TypeIs v T/\wpAny (model X.prog X.w) X.A (getItem v (.ref sl)) (EP X aa σ Q) X.xe s
noncomputable def tSl(r:V->Option Int->Option Int->Hp->VK->Prop)(te:TE)(tl th:TO):TE:=fun σ H Q=>te σ H fun x H1=>tl σ H1 fun l H2=>th σ H2 fun u H3=>r x l u H3 Q
theorem aGM{r:V->Option Int->Option Int->Hp->VK->Prop}(hr:SlR X r)(he:PE X e te)(hl:PO X lo tl)(hu:PO X hi th):PE X (.Subscript e (.Slice lo hi none p2) pos) (tSl r te tl th):=by
 intro aa s σ H Q I h
 refine Subscript_ (thn (he aa s σ H _ I h) fun v s1 zz=>?_)
 obtain⟨x,H1,I1,r1,q1⟩:=zz
 refine wpAny_Slice (thn (hl aa s1 σ H1 _ I1 q1) fun vl s2 ⟨l,H2,I2,pl,q2⟩=>thn (hu aa s2 σ H2 _ I2 q2) fun vu s3 zz=>?_)
 obtain⟨u,H3,I3,pu,q3⟩:=zz;rw[evalPart_none]
 refine wpAny_pure ?_
 have I4:Inv X aa σ H3 {s3 with heap:=s3.heap.push {cls:=.type "slice",data:=.fields #[vl,vu,.none]}}:=I3.kept (t':=s3.toks) fun b ob q=>Heap.get?_push_of_some _ q
 obtain⟨T,id,hT,ht,hg⟩:=hr aa {s3 with heap:=s3.heap.push {cls:=.type "slice",data:=.fields #[vl,vu,.none]}} σ H3 x v vl vu l u s3.heap.objs.size Q I4 r1 (Heap.IsSliceOf.new ..) pl pu q3;show wpAny (model X.prog X.w) X.A (subscriptTail e (.Slice lo hi none p2) v (.ref s3.heap.objs.size)) (EP X aa σ Q) X.xe {s3 with heap:=s3.heap.push {cls:=.type "slice",data:=.fields #[vl,vu,.none]}}
 exact tail_any (ops:=[.ref s3.heap.objs.size,v]) ht hT hg (by with_unfolding_all rfl)
def aFp(xs:List V)(lo hi:Option Int):List V:=(xs.drop (HT.sIx xs.length 0 lo)).take (HT.sIx xs.length xs.length hi - HT.sIx xs.length 0 lo)
theorem aB7(xs:List V)(lo hi:Option Int):(aFp xs lo hi).length<=xs.length:=by
 unfold aFp;rw[d9,aPA]
 lia
end
variable{i:Int}{j:Nat}{α:Type}
noncomputable def ixN(n:Nat)(i:Int):Option Nat:=if 0<=i then(if i<n then some i.toNat else none)else if -(n:Int)<=i then some (i+n).toNat else none
def atI{α:Type}(xs:List α)(i:Int):Option α:=(ixN xs.length i).bind fun j=>xs[j]?
theorem aEW{n:Nat}(h:ixN n i=some j):seqIndex? i n=some j/\j<n/\ -(n:Int)<=i/\i<n:=by
 unfold ixN at h;by_cases h0:0<=i
 ·rw[if_pos h0]at h;by_cases h1:i<n
  ·rw[if_pos h1]at h;have e:i.toNat=j:=cE.inj h
   exact⟨by rw[seqIndex_of h0 h1,e],by lia,by lia,h1⟩
  ·rw[if_neg h1]at h;cases h
 ·rw[if_neg h0]at h;by_cases h1: -(n:Int)<=i
  ·rw[if_pos h1]at h;have e:(i+n).toNat=j:=cE.inj h
   exact⟨by rw[seqIndex_neg (by lia) h1,e],by lia,h1,by lia⟩
  ·rw[if_neg h1]at h;cases h
theorem v7{xs:List α}{v:α}(h:atI xs i=some v):∃j,seqIndex? i xs.length=some j/\xs[j]?=some v/\j<xs.length/\ -(xs.length:Int)<=i/\i<xs.length:=by
 unfold atI at h;cases e:ixN xs.length i with
 |none=>rw[e]at h;cases h
 |some j=>
  rw[e]at h;obtain⟨h1,h2,h3,h4⟩:=aEW e
  exact⟨j,h1,h,h2,h3,h4⟩
theorem aE4{xs:List α}{v:α}(h:xs[j]?=some v):atI xs (j:Int)=some v:=by
 have hj:j<xs.length:=(aQ.mp h).1;have e:ixN xs.length (j:Int)=some j:=by
  unfold ixN;rw[if_pos (by lia),if_pos (by lia)];simp
 unfold atI;rw[e];exact h
def PlainIx(b:Expr):Prop:=∀o i,subscripted b false o i=operate [o,i] (getItem o i)
def IxR(X:Cx)(r:R2):Prop:=
 ∀(value slice:Expr)(aa:List (Addr×Obj))(s:Shared)(σ:St)(H:Hp)(x y:V)(v u:Value)(Q:VK),Inv X aa σ H s->RelV x v->RelV y u->r x y H Q->
  subscripted slice false v u=operate [v,u] (getItem v u)->wpAny (model X.prog X.w) X.A (subscriptTail value slice v u) (EP X aa σ Q) X.xe s
def MtR(X:Cx)(id:String)(r:V->List V->Hp->VK->Prop):Prop:=
 ∀(aa:List (Addr×Obj))(s:Shared)(σ:St)(H:Hp)(x:V)(xs:List V)(v:Value)(us:List Value)(Q:VK),Inv X aa σ H s->RelV x v->Vals xs us->r x xs H Q->
  wpAny (model X.prog X.w) X.A (call (.builtin id) (v::us)) (EP X aa σ Q) X.xe s
section
variable {X:Cx}{a b:Expr}{ta tb:TE}{pos:Pos}
variable{r:R2}{aa:List (Addr×Obj)}{σ:St}{H:Hp}{s:Shared}{p:Addr}{xs:List V}{x:V}{v:Value}
theorem IxR.or{r':R2}(h:IxR X r)(h':IxR X r'):IxR X (fun x y H Q=>r x y H Q\/r' x y H Q):=by
 intro value slice aa s σ H x y v u Q I rx ry q hs;rcases q with q|q
 ·exact h value slice aa s σ H x y v u Q I rx ry q hs
 ·exact h' value slice aa s σ H x y v u Q I rx ry q hs
theorem aN1(hr:IxR X r)(ha:PE X a ta)(hb:PE X b tb)(hs:PlainIx b):PE X (.Subscript a b pos) (tOp r ta tb):=by
 intro aa s σ H Q I h
 exact Subscript_ (aMZ ha hb I h fun v u s2 x y H2 I2 rx ry q=>hr a b aa s2 σ H2 x y v u Q I2 rx ry q (hs _ _))
def aKC(K:aO):R2:=fun x y H Q=>∃p xs i v,x=.ref p/\y=.int i/\SqL K H p xs/\atI xs i=some v/\Q v H
def rIxT(K:aO):R2:=fun x y H Q=>∃p xs i v,x=.ref p/\y=.int i/\SqT K H p xs/\atI xs i=some v/\Q v H
def rIxS:R2:=fun x y H Q=>∃z i c,x=.str z/\y=.int i/\z.length<=sizeLine/\atI z.cps.toList i=some c/\Q (.str ⟨#[c]⟩) H
theorem aKq:IxR X (aKC X.K):=by
 intro value slice aa s σ H x y v u Q I rx ry h hs;obtain⟨p,xs,i,z,rfl,rfl,hq,he,q⟩:=h;cases rx;obtain⟨t,rfl⟩:=ry;obtain⟨its,r,pl,hz⟩:=I.list hq;obtain⟨j,h1,h2,h3,h4,h5⟩:=v7 he;obtain⟨w,ew,ef⟩:=r.get h2;have hl:=r.length;have hn:=line63;have fin:EP X aa σ Q w s:=⟨z,H,I,ef,q⟩;by_cases h0:0<=i
 ·have hj:i.toNat=j:=by
   rw[seqIndex_of h0 h5]at h1
   exact cE.inj h1
  exact item_listR pl.isList h0 (by lia) (by rw[hj];simpa using ew) fin hs
 ·have hj:(i+(its.toArray.size:Int)).toNat=j:=by
   rw[seqIndex_neg (by lia) h4]at h1;rw[bG,<-hl]
   exact cE.inj h1
  exact subscriptTail_builtinR (x:=w) pl.isList.typeIs slot_list_getitem.lookup
   (wpAny_getItem_list_neg (Q:=fun r s'=>r=w/\EP X aa σ Q r s') pl.isList (by lia) (by rw[bG]<;>lia) (by lia) (by rw[hj];simpa using ew) ⟨rfl,fin⟩) hs
theorem aNs:IxR X (rIxT X.K):=by
 intro value slice aa s σ H x y v u Q I rx ry h hs;obtain⟨p,xs,i,z,rfl,rfl,hq,he,q⟩:=h;cases rx;obtain⟨t,rfl⟩:=ry;obtain⟨its,r,pl,hz⟩:=I.tuple hq;obtain⟨j,h1,h2,h3,h4,h5⟩:=v7 he;obtain⟨w,ew,ef⟩:=r.get h2;have hl:=r.length;have hn:=line63;have fin:EP X aa σ Q w s:=⟨z,H,I,ef,q⟩
 exact subscriptTail_builtinR (x:=w) pl.typeIs slot_tuple_getitem.lookup
  (getItem_tuple (j:=j) (Q:=fun r s'=>r=w/\EP X aa σ Q r s') pl (by lia) (by lia) (by rw[bG,<-hl];exact h1) (by simpa using ew) ⟨rfl,fin⟩) hs
theorem aNo:IxR X rIxS:=by
 intro value slice aa s σ H x y v u Q I rx ry h hs;obtain⟨z,i,c,rfl,rfl,hz,he,q⟩:=h;obtain⟨t,rfl⟩:=rx;obtain⟨t',rfl⟩:=ry;obtain⟨j,h1,h2,h3,h4,h5⟩:=v7 he;have hl:z.cps.toList.length=z.length:=by simp[Str.length]
 rw[hl]at h1 h4 h5;have hn:=line63
 exact tail_any (typeIs_str s z t) slot_str_getitem.lookup (getItem_str (c:=c) (by
  have e1:decide (i< -(2^63:Int))=false:=decide_eq_false (by lia);have e2:decide (i>=2^63)=false:=decide_eq_false (by lia);rw[e1,e2,Bool.or_false]) (by rw[h1];simpa using h2) ⟨.str ⟨#[c]⟩,H,I.tok _,⟨_,rfl⟩,q⟩) hs
def rIx(K:aO):R2:=fun x y H Q=>aKC K x y H Q\/rIxT K x y H Q\/rIxS x y H Q
theorem aLZ:IxR X (rIx X.K):=aKq.or (aNs.or aNo)
theorem aDH(its:List Value)(n j:Nat)(u:Value):Obj.mapSeq (·.setIfInBounds j u) {cls:=.type "list",data:=.seq its.toArray n}={cls:=.type "list",data:=.seq (its.set j u).toArray n}:=by
 simp[Obj.mapSeq]
theorem Inv.lst(I:Inv X aa σ H s)(h:H p=some (.lst xs)):
 ∃(its:List Value)(n:Nat),Vals xs its/\s.heap.get? p=some {cls:=.type "list",data:=.seq its.toArray n}/\xs.length<=sizeLine:=by
 obtain⟨z,its,n,r,e⟩:=I.hok p _ h
 exact⟨its,n,r,e,z⟩
theorem Inv.lstUpd{ys:List V}{its its':List Value}{n n':Nat}{f:Obj->Obj}(I:Inv X aa σ H s)(h:H p=some (.lst xs))
 (ho:s.heap.get? p=some {cls:=.type "list",data:=.seq its.toArray n})(hf:f {cls:=.type "list",data:=.seq its.toArray n}={cls:=.type "list",data:=.seq its'.toArray n'})(r:Vals ys its')(hz:ys.length<=sizeLine)(t:Nat):
 Inv X aa σ (upd H p (.lst ys)) {s with heap:=s.heap.update p f,toks:=t}:=by
 have e:(s.heap.update p f).get? p=some {cls:=.type "list",data:=.seq its'.toArray n'}:=by
  rw[Heap.get?_update_self f ho (by rw[hf]<;>rfl),hf]
 refine I.write (x:=p) (e:=p) (by rw[h];trivial) (.inl rfl) (fun b u hb q=>(Heap.get?_update_other _ _ (Ne.symm hb)).trans q) ⟨_,e⟩ ?_
 exact⟨hz,its',n',r,e⟩
def aIS:V->V->V->Hp->(Hp->Prop)->Prop:=fun o i v H Q=>∃p xs k j,o=.ref p/\i=.int k/\H p=some (.lst xs)/\ixN xs.length k=some j/\Q (upd H p (.lst (xs.set j v)))
theorem aBU:aMR X aIS:=by
 intro aa s σ H o i v ov iv u Q I ro ri rv h;obtain⟨p,xs,k,j,rfl,rfl,hp,hj,q⟩:=h;cases ro;obtain⟨t,rfl⟩:=ri;obtain⟨its,n,r,ho,hz⟩:=I.lst hp;obtain⟨h1,h2,h3,h4⟩:=aEW hj;have hl:=r.length;have hn:=line63;have I':Inv X aa σ (upd H p (.lst (xs.set j v))) {s with heap:=s.heap.update p (Obj.mapSeq (·.setIfInBounds j u))}:=
  I.lstUpd hp ho (aDH its n j u) (r.set rv j) (by rw[cM];exact hz) s.toks
 by_cases h0:0<=k
 ·have hk:k.toNat=j:=by
   rw[seqIndex_of h0 h4]at h1
   exact cE.inj h1
  exact PySem.W.ki_setAt ho h0 (by lia) (by rw[bG,<-hl];exact h4) (by rw[hk];exact⟨_,I',q⟩)
 ·have hk:(k+(its.toArray.size:Int)).toNat=j:=by
   rw[seqIndex_neg (by lia) h3]at h1;rw[bG,<-hl]
   exact cE.inj h1
  exact PySem.W.ki_setBack ho (by lia) (by rw[bG,<-hl];exact h3) (by lia) (by rw[hk];exact⟨_,I',q⟩)
theorem aBH(lo hi:Option Int)(n:Nat):(sliceBounds lo hi none n).1=((HT.sIx n 0 lo:Nat):Int)/\(sliceBounds lo hi none n).2.1=((HT.sIx n n hi:Nat):Int)/\(sliceBounds lo hi none n).2.2=1:=by
 refine⟨?_,?_,rfl⟩
 ·cases lo with
  |none=>simp[sliceBounds,HT.sIx]
  |some i=>
   simp only[sliceBounds,HT.sIx,aP6,show(1:Int)>0 by decide,if_true];by_cases h:i<0
   ·simp only[h,if_true]<;>lia
   ·simp only[h,if_false]<;>lia
 ·cases hi with
  |none=>simp[sliceBounds,HT.sIx]
  |some i=>
   simp only[sliceBounds,HT.sIx,aP6,show(1:Int)>0 by decide,if_true];by_cases h:i<0
   ·simp only[h,if_true]<;>lia
   ·simp only[h,if_false]<;>lia
theorem zG(its:List Value)(lo hi:Option Int):slicePick its.toArray lo hi none=((its.drop (HT.sIx its.length 0 lo)).take (HT.sIx its.length its.length hi - HT.sIx its.length 0 lo)).toArray:=by
 obtain⟨h1,h2,h3⟩:=aBH lo hi its.toArray.size;unfold slicePick;rw[h1,h2,h3];simp only[sliceRange_one,pick_run,bG]<;>rfl
def rSlL(K:aO):V->Option Int->Option Int->Hp->VK->Prop:=fun x lo hi H Q=>∃a xs,x=.ref a/\SqL K H a xs/\∀p,H p=none->Q (.ref p) (upd H p (.lst (aFp xs lo hi)))
theorem aK7:SlR X (rSlL X.K):=by
 intro aa s σ H x v vl vu lo hi sl Q I rx hs pl pu h;obtain⟨a,xs,rfl,hx,q⟩:=h;cases rx;obtain⟨its,r,ht,hz⟩:=I.list hx;have ai:=r.length
 refine⟨"list",_,slot_list_getitem.lookup,ht.isList.typeIs,?_⟩
 refine wpAny_getItem_list_slice ht.isList hs pl pu .none (by simp) ?_ (by rw[bG]<;>lia)
 rw[zG,<-ai]
 refine⟨.ref s.heap.objs.size,_,I.laid (t':=s.toks) (o:=.lst (aFp xs lo hi)) (fun b ob q=>Heap.get?_push_of_some _ q) (bF _) ?_,rfl,q _ (I.hok.fresh (bF _))⟩
 exact⟨cB (aB7 xs lo hi) hz,_,0,(r.drop (HT.sIx xs.length 0 lo)).take (HT.sIx xs.length xs.length hi - HT.sIx xs.length 0 lo),Heap.get?_push_size _ rfl⟩
noncomputable def flatV:V->Bool
 | .non=>true
 | .bl _=>true
 | .int _=>true
 | .str _=>true
 |_=>false
noncomputable def eqV:V->V->Bool
 | .non,.non=>true
 | .bl a,.bl b=>a==b
 | .bl a,.int b=>(if a then 1 else 0)==b
 | .int a,.bl b=>a==(if b then 1 else 0)
 | .int a,.int b=>a==b
 | .str a,.str b=>a==b
 |_,_=>false
theorem aLX{A:Around}{y:V}{u:Value}(ry:RelV y u)(rx:RelV x v)(fy:flatV y=true)(fx:flatV x=true):SeqAt.EqAt A s u v (eqV y x):=by
 cases y with
 |non=>
  cases ry;cases x with
  |non=>cases rx;exact SeqAt.EqAt.same _
  |bl b=>cases rx;exact SeqAt.EqAt.none_bool b
  |int b=>obtain⟨t,rfl⟩:=rx;exact SeqAt.EqAt.none_int b t
  |str b=>obtain⟨t,rfl⟩:=rx;exact SeqAt.EqAt.none_str b t
  |_=>exact absurd (show false=true from fx) bY
 |bl a=>
  cases ry;cases x with
  |non=>cases rx;exact SeqAt.EqAt.bool_none a
  |bl b=>cases rx;exact SeqAt.EqAt.bool_bool a b
  |int b=>obtain⟨t,rfl⟩:=rx;exact SeqAt.EqAt.bool_int a b t
  |str b=>obtain⟨t,rfl⟩:=rx;exact SeqAt.EqAt.bool_str a b t
  |_=>exact absurd (show false=true from fx) bY
 |int a=>
  obtain⟨t',rfl⟩:=ry;cases x with
  |non=>cases rx;exact SeqAt.EqAt.int_none a t'
  |bl b=>cases rx;exact SeqAt.EqAt.int_bool a t' b
  |int b=>obtain⟨t,rfl⟩:=rx;exact SeqAt.EqAt.int_int a t' b t
  |str b=>obtain⟨t,rfl⟩:=rx;exact SeqAt.EqAt.int_str a t' b t
  |_=>exact absurd (show false=true from fx) bY
 |str a=>
  obtain⟨t',rfl⟩:=ry;cases x with
  |non=>cases rx;exact SeqAt.EqAt.str_none a t'
  |bl b=>cases rx;exact SeqAt.EqAt.str_bool a t' b
  |int b=>obtain⟨t,rfl⟩:=rx;exact SeqAt.EqAt.str_int a t' b t
  |str b=>obtain⟨t,rfl⟩:=rx;exact SeqAt.EqAt.str_str a t' b t
  |_=>exact absurd (show false=true from fx) bY
 |_=>exact absurd (show false=true from fy) bY
theorem aAW:nV X (.builtin "len") (fun xs H Q=>∃p ys,xs=[.ref p]/\(SqL X.K H p ys\/SqT X.K H p ys)/\Q (.int ys.length) H):=by
 intro aa s σ H xs us Q I r h;obtain⟨p,ys,rfl,hq,q⟩:=h;obtain⟨u,rfl,rx⟩:=vals1 r;cases rx;have hn:=line63;rcases hq with hq|hq
 ·obtain⟨its,r',pl,hz⟩:=I.list hq;have ai:=r'.length
  exact Calls.call_len_list pl.isList (by simp only[bG]<;>lia) ⟨.int ys.length,H,I.tok _,⟨s.toks+1,by rw[bG,ai]⟩,q⟩
 ·obtain⟨its,r',pl,hz⟩:=I.tuple hq;have ai:=r'.length
  exact len_tuple pl (by simp only[bG]<;>lia) ⟨.int ys.length,H,I.tok _,⟨s.toks+1,by rw[bG,ai]⟩,q⟩
theorem aBz:nV X (.type "list") (fun xs H Q=>∃p ys,xs=[.ref p]/\(SqL X.K H p ys\/SqT X.K H p ys)/\∀l,H l=none->Q (.ref l) (upd H l (.lst ys))):=by
 intro aa s σ H xs us Q I r h;obtain⟨p,ys,rfl,hq,q⟩:=h;obtain⟨u,rfl,rx⟩:=vals1 r;cases rx;have fin:∀(its:List Value),Vals ys its->ys.length<=sizeLine->∀(h':Heap)(c':Nat),(∀b o',s.heap.get? b=some o'->h'.get? b=some o')->
  h'.get? s.heap.objs.size=some {cls:=.type "list",dict:=none,data:=.seq its.toArray c',slots:=#[]}->EP X aa σ Q (.ref s.heap.objs.size) {s with heap:=h'}:=fun its r' hz h' c' kp e=>
  ⟨.ref s.heap.objs.size,_,I.laid (t':=s.toks) kp (bF _) (show jP X.prog X.w _ h' _ (.lst ys)from⟨hz,its,c',r',e⟩),rfl,q _ (I.hok.fresh (bF _))⟩
 rcases hq with hq|hq
 ·obtain⟨its,r',pl,hz⟩:=I.list hq;have ai:=r'.length;obtain⟨o,ho,hc,n,hd⟩:=pl.isList
  exact call_list_seq p (.inl rfl) ho hc hd (fun h' c' kp e=>fin its r' hz h' c' kp e) (by simp only[bG]<;>lia)
 ·obtain⟨its,r',pl,hz⟩:=I.tuple hq;have ai:=r'.length;obtain⟨o,ho,hc,n,hd⟩:=pl
  exact call_list_seq p (.inr rfl) ho hc hd (fun h' c' kp e=>fin its r' hz h' c' kp e) (by simp only[bG]<;>lia)
def tyV(K:aO)(T:String)(x:V)(H:Hp):Prop:=match x with
 | .str _=>T="str"
 | .int _=>T="int"
 | .ref p=>(T="list"/\∃xs,SqL K H p xs)\/(T="tuple"/\∃o,K.lookup p=some o/\o.cls=.type "tuple"/\o.dict=none)\/
  (T="dict"/\((∃kvs,H p=some (.dK kvs))\/∃kvs,H p=some (.dT kvs)))\/(T="set"/\∃S n,H p=some (.set S n))
 |_=>False
theorem aL7{T:String}(I:Inv X aa σ H s)(r:RelV x v)(ty:tyV X.K T x H):
 s.TypeIs v T/\∀a,v=.ref a->∃ob,s.heap.get? a=some ob/\ob.dict=none:=by
 cases x with
 |str z=>
  obtain⟨t,rfl⟩:=r;cases (show T="str" from ty)
  exact⟨typeIs_str s z t,fun _ e=>nomatch e⟩
 |int i=>
  obtain⟨t,rfl⟩:=r;cases (show T="int" from ty)
  exact⟨typeIs_int s i t,fun _ e=>nomatch e⟩
 |ref p=>
  cases r;rcases ty with⟨rfl,xs,hq⟩| ⟨rfl,o,hk,hc,hd⟩| ⟨rfl,hk⟩| ⟨rfl,S,n,hk⟩
  ·obtain⟨its,_,pl,_⟩:=I.list hq
   refine⟨pl.isList.typeIs,fun a e=>?_⟩
   cases e;obtain⟨o,n,e,c,hd,_⟩:=pl
   exact⟨o,e,hd⟩
  ·refine⟨⟨o,I.kIn p o hk,hc⟩,fun a e=>?_⟩
   cases e
   exact⟨o,I.kIn _ o hk,hd⟩
  ·have z:∃o,s.heap.get? p=some o/\o.ExactDict:=by
    rcases hk with⟨kvs,hk⟩| ⟨kvs,hk⟩
    ·obtain⟨_,_,_,_,o,_,_,e,ex,_⟩:=I.hok p _ hk
     exact⟨o,e,ex⟩
    ·obtain⟨_,_,_,_,o,_,_,e,ex,_⟩:=I.hok p _ hk
     exact⟨o,e,ex⟩
   obtain⟨o,e,ex⟩:=z
   refine⟨⟨o,e,ex.1⟩,fun a e2=>?_⟩
   cases e2
   exact⟨o,e,ex.2.1⟩
  ·obtain⟨o,_,_,_,e,ex,_⟩:=I.hok p _ hk
   refine⟨⟨o,e,ex.1⟩,fun a e2=>?_⟩
   cases e2
   exact⟨o,e,ex.2.1⟩
 |_=>exact False.elim ty
noncomputable def tBM(K:aO)(T:String)(r:V->List V->Hp->VK->Prop)(to:TE)(t:TA):TE:=fun σ H Q=>to σ H fun x H1=>tyV K T x H1/\t σ H1 fun xs H2=>r x xs H2 Q
variable {o e:Expr}{es:List Expr}{to:TE}{t:TA}{name:Str}{al ak:Pos}{T id:String}{r:V->List V->Hp->VK->Prop}
theorem aLI(pa:PlainAttrs T)(slot:Slot T name id)(hty:typeOf (.builtin id)=pure (.type "method_descriptor"))(hm:MtR X id r)(ho:PE X o to)(ha:PA X (e::es) t)
 (dg:attributeBase o name X.env (eval o X.env)=eval o X.env:=by rfl)
 (iq:((backTo ak (starEach (e::es) X.env)).all (fun x=> !x.1)&&(backToKw ak (keywordEach [] X.env)).all (fun x=>x.1.isSome)
  &&decide ((e::es).length+([]:List Keyword).length+(if([]:List Keyword).isEmpty then 0 else 1)<30))=true:=by rfl)
 (cz:(al.endLine==ak.line)=true:=by rfl)(hs:starEach (e::es) X.env=(false,eval e X.env)::starEach es X.env:=by rfl)(br:(backTo ak (starEach es X.env)).any (·.1)=false:=by rfl):
 PE X (.Call (.Attribute o name al) (e::es) [] ak) (tBM X.K T r to t):=by
 intro aa s σ H Q I h
 refine wpAny_Call_method_late dg iq cz rfl (thn (ho aa s σ H _ I h) fun v s1 zz=>?_)
 obtain⟨x,H1,I1,r1,ty,q1⟩:=zz;obtain⟨h1,h2⟩:=aL7 I1 r1 ty
 refine⟨T,id,pa,slot,hty,h1,h2,?_⟩
 have hA:=ha ak aa s1 σ H1 _ I1 q1;rw[hs]at hA|-
 refine Calls.callWith_builtin (by show(false||(backTo ak (starEach es X.env)).any (·.1))=false;rw[br]<;>rfl) (Calls.evalArgs_plain ?_)
 exact thn hA fun us s2 ⟨vs,H2,I2,r2,q2⟩=>hm aa s2 σ H2 x vs v us Q I2 r1 r2 q2
end
def MtM(X:Cx)(id:String)(r:V->List V->Hp->VK->Prop):Prop:=
 ∀(aa:List (Addr×Obj))(s:Shared)(σ:St)(H:Hp)(x:V)(xs:List V)(v:Value)(us:List Value)(Q:VK),Inv X aa σ H s->RelV x v->Vals xs us->r x xs H Q->
  wpAny (model X.prog X.w) X.A (call (.builtin id) (v::us)) (EP X aa σ Q) X.xe s
theorem Vals.one:∀{x:V}{us:List Value},Vals [x] us->∃u,us=[u]/\RelV x u
 |_,_,.cons r .nil=>⟨_,rfl,r⟩
theorem Vals.two{x y:V}{us:List Value}(h:Vals [x,y] us):∃u v,us=[u,v]/\RelV x u/\RelV y v:=by
 cases h with
 |cons r h=>
  cases h with
  |cons q h=>
   cases h
   exact⟨_,_,rfl,r,q⟩
section
variable {X:Cx}{aa:List (Addr×Obj)}{σ:St}{H:Hp}{s:Shared}{l b:Addr}{xs ys zs:List V}
variable{its:List Value}{t':Nat}
theorem Inv.lset{its':List Value}{n:Nat}{f:Array Value->Array Value}(I:Inv X aa σ H s)(hH:H l=some (.lst xs))
 (e:s.heap.get? l=some {cls:=.type "list",data:=.seq its.toArray n})(hf:f its.toArray=its'.toArray)(hv:Vals ys its')(hz:ys.length<=sizeLine):
 Inv X aa σ (upd H l (.lst ys)) {s with heap:=s.heap.update l (Obj.mapSeq f),toks:=t'}:=by
 have q:=PySem.IsL.update e f;rw[hf]at q
 refine I.write (x:=l) (e:=l) (by rw[hH];exact trivial) (.inl rfl) (fun b' u hb hu=>(Heap.get?_update_other s.heap (Obj.mapSeq f) (Ne.symm hb)).trans hu) ⟨_,q⟩ ?_
 exact⟨hz,its',_,hv,q⟩
theorem Inv.lnew(I:Inv X aa σ H s)(hv:Vals ys its)(hz:ys.length<=sizeLine):
 Inv X aa σ (upd H s.heap.objs.size (.lst ys)) {s with heap:=s.heap.push {cls:=.type "list",data:=.seq its.toArray},toks:=t'}:=
 I.laid (fun _ _ q=>Heap.get?_push_of_some _ q) (bF _) ⟨hz,its,0,hv,Heap.get?_push_size _ rfl⟩
theorem Inv.fresh(I:Inv X aa σ H s):H s.heap.objs.size=none:=I.hok.fresh (bF _)
theorem Inv.lstM(I:Inv X aa σ H s)(hH:H l=some (.lst xs)):xs.length<=sizeLine/\∃(its:List Value)(n:Nat),Vals xs its/\xs.length=its.length/\s.heap.get? l=some {cls:=.type "list",data:=.seq its.toArray n}:=by
 obtain⟨z,its,n,r,e⟩:=I.hok l _ hH
 exact⟨z,its,n,r,r.length,e⟩
end
section
variable {X:Cx}
def rAppend:V->List V->Hp->VK->Prop:=fun x vs H Q=>∃l xs y,x=.ref l/\vs=[y]/\H l=some (.lst xs)/\xs.length<sizeLine/\Q .non (upd H l (.lst (xs++[y])))
theorem aAA:MtM X "list.append" rAppend:=by
 intro aa s σ H x vs v us Q I rx rv h;obtain⟨l,xs,y,rfl,rfl,hH,hz,q⟩:=h;cases rx;obtain⟨u,rfl,ru⟩:=rv.one;obtain⟨z,its,n,r,hl,e⟩:=I.lstM hH
 refine call_meets F.slot_list_append ⟨_,e,rfl⟩ F.entry_list_append (F.args_list_append_2 _ _) (PySem.list_append l its.toArray n u (by rw[bG];lia)) ⟨e,?_⟩
 refine⟨.non,_,I.lset (its':=its++[u]) hH e (by simp) (r.append (.cons ru .nil)) ?_,rfl,q⟩
 rw[bD,List.length_singleton]
 lia
end
section
variable {prog:Program}{w:World}{A:Around}{E:Value->Shared->Prop}{s:Shared}
end
section
variable {X:Cx}
end
end L2
namespace Att
open PySem PySem.W PySem.Calls PyProof.Rows
variable{P:Params}{h:Heap}
theorem vR:∀(ns:List Int)(vs:List Value),WellAll P h vs (ns.map WData.int)->IntsAre vs ns:=by
 intro ns;induction ns with
 |nil=>
  intro vs w;rw[bB]at w;cases w
  exact .nil
 |cons n ns ih=>
  intro vs w;rw[aM]at w;cases w with
  |cons a b=>
   cases a
   exact .cons _ _ (ih _ b)
theorem aGk{l:OpenLaw}{n:Nat}(hn:l.most=some n){args:List WData}{vals:List Value}
 (ik:l.row.toRowW.claim.pre args=true)(ig:WellAll P h vals args):
 ∃a vs ns,vals=[Value.ref a]/\args=[WData.list (ns.map WData.int)]/\h.get? a=some {cls:=.type "list",data:=.seq vs.toArray}/\IntsAre vs ns/\ns.length<=n:=by
 have hsh:WShape.hasAll [] args [.list .int]=true:=(pre_splitW ik).1;have hc:l.pre.holds [] {args:=args}=true:=(pre_splitW ik).2;obtain⟨d,r,rfl,h1,h2⟩:=hasAllW_cons hsh;obtain rfl:=hasAllW_nil h2;obtain⟨xs,rfl,h3⟩:=hasW_list h1;obtain⟨ns,rfl⟩:=items_int h3;have ai:ns.length<=n:=by
  unfold OpenLaw.pre at hc;have h4:(WTm.not (.lt (.lit (.int (n:Int))) (.len (.arg 0)))).holds [] {args:=[.list (ns.map .int)]}=true:=by
   have h4:=(holds_andW hc).1;rw[hn]at h4
   exact h4
  have h5:=condW_of h4 (w_not (w_lt w_lit (w_len_list (w_arg rfl))));rw[aS]at h5
  refine aPb fun q=>?_
  have q':(n:Int)<((ns.length:Nat):Int):=by lia
  first
   | (rw[decide_eq_true q']at h5;exact absurd h5 (by decide))
   | (simp at h5;lia)
 cases ig with
 |cons w1 w2=>
  cases w2;cases w1 with
  |list ho iw=>exact⟨_,_,ns,rfl,rfl,ho,vR ns _ iw,ai⟩
theorem aGj(l:OpenLaw)(args:List WData):l.row.toRowW.claim.post args (.bool true) args=true:=
 postW_of (r:=l.row.toRowW) (X:=(true==true))
  (show WShape.has [] (.bool true) .bool=true by first|rfl|decide|simp[WShape.has,WShape.arms,WShape.armsAll])
  (show(WTm.eq .res (.lit (.bool true))).value [] {args:=args,res:=some (.bool true),after:=args}=some (.bool (true==true))from w_eq_bool (w_res rfl) w_lit) rfl
section
variable {prog:Program}{w:World}{A:Around}{E:Value->Shared->Prop}{s:Shared}{K:Frag}
end
end Att
namespace L2
open PySem PySem.Spec PyProof.Rows
theorem z9:∀{vs:List Value}{ns:List Int},IntsAre vs ns->Vals (ns.map V.int) vs
 |_,_,.nil=>.nil
 |_,_,.cons n t h=>.cons ⟨t,rfl⟩ (z9 h)
def Only(H:Hp):Prop:=∀b,H b=none\/∃o xs,H b=some (.frz o (.lst xs))
theorem aGG{P:Program}{w:World}{K:aO}{mg mb:Str->Option Value}{CX:CXT}{k:Nat}{fa a:Addr}{fd:FuncData}{x:Str}{sp:Sp}{aj:Shared}{vs:List Value}{ns:List Int}
 (KX:K.In aj.heap)(fj:aj.heap.Ns mainGlobals mg)(hb:aj.heap.Ns builtinsNs mb)(hbb:∀x:Str,x≠"__name__"->mb x=bootBuiltins x)(fm:aj.heap.NoLimit)(hg:aj.gens=#[])
 (ha:aj.heap.get? a=some {cls:=.type "list",data:=.seq vs.toArray})(hi:IntsAre vs ns)(hl:ns.length<=sizeLine)(hr:Room k callerA)
 (F:∀base:Heap,K.In base->base.Ns mainGlobals mg->mQ P w K mg base CX k fa fd [x] sp)(uc:∀(s:Shared)(u:Value),BindsTo s fd ⟨[u],[]⟩ [(x,u)])
 (fg:∀H:Hp,Only H->SqL K H a (ns.map V.int)->sp [.ref a] H (fun v _=>v=.bl true) fun _ _ _=>False)
 (hCX:∀H e s',CX [] H aj (fun _ _ _=>False) e s'->False):
 codeAny (model P w) callerA (.call (.ref fa) ⟨[.ref a],[]⟩) (fun r s'=>r=.ok (.ret (.bool true))/\OldK aj.heap s'.heap/\s'.os=aj.os/\AllBare s'.gens) aj:=by
 have rv:=z9 hi;have xb:=hi.length;have core:∀H:Hp,Only H->SqL K H a (ns.map V.int)->HOk P w H aj.heap->(∀b,H b≠none->b=a)->(H a≠none->K.lookup a=none)->
  codeAny (model P w) callerA (.call (.ref fa) ⟨[.ref a],[]⟩) (fun r s'=>r=.ok (.ret (.bool true))/\OldK aj.heap s'.heap/\s'.os=aj.os/\AllBare s'.gens) aj:=by
  intro H hO hS hok hA hK;have base_of:∀{b:Addr}{o:Obj},aj.heap.get? b=some o->H b=none->(aBm aj.heap H).get? b=some o:=fun e n=>aIp e n
  have qq:∀{b:Addr}{o:Obj}{es:Array DictEntry}{ep:Nat},aj.heap.get? b=some o->o.data=.dict es ep->H b=none:=fun {b o es ep} e d=>by
   cases q:H b with
   |none=>rfl
   |some u=>
    have e':b=a:=hA b (by rw[q];simp);subst e';rw[ha]at e;cases e;have d':Data.seq vs.toArray _=Data.dict es ep:=d;cases d'
  have uw:∀{b:Addr}{m:Str->Option Value},aj.heap.Ns b m->(aBm aj.heap H).Ns b m:=fun {b m} ⟨o,es,ep,e,d,r⟩=>⟨o,es,ep,base_of e (qq e d),d,r⟩
  have hKb:K.In (aBm aj.heap H):=fun b o e=>base_of (KX b o e) (by
   cases q:H b with
   |none=>rfl
   |some u=>
    have e':b=a:=hA b (by rw[q];simp);subst e';rw[hK (by rw[q];simp)]at e;cases e)
  have hM:Mod K mg (aBm aj.heap H):=⟨hKb,uw fj,⟨mb,uw hb,hbb⟩,let ⟨mc,h1,h2⟩:=fm;⟨mc,uw h1,h2⟩⟩;have e0:Env0 P w K mg (aBm aj.heap H) callerA [] aj H:=⟨rfl,hM,fun b o e=>aLh e,aQs (aFH _ _),trivial,fun b hb=>absurd (show b∈([]:List Addr)from hb) (by simp),hok,.of_eq hg⟩
  refine codeAny_mono ((F _ hKb (uw fj)).run callerA [] aj H ⟨[.ref a],[]⟩ [.ref a] [.ref a] _ _ hr e0 (uc aj (.ref a)) (.cons rfl .nil) (fg H hO hS)) fun r s' h=>?_
  cases r with
  |error e=>exact(hCX H e s' h).elim
  |ok fl=>
   cases fl with
   |next=>exact False.elim h
   |brk=>exact False.elim h
   |cont=>exact False.elim h
   |ret u=>
    obtain⟨v,H',os,bare,un,ye,r',q⟩:=h;have q':v=.bl true:=q;subst q';obtain rfl:u=Value.bool true:=r'
    refine⟨rfl,OldK.of_keep fun b o e=>?_,os,bare⟩
    cases q:H b with
    |none=>exact un.keep b o e q (by intro z;exact absurd (show b∈([]:List Addr)from z) (by simp)) (by simp)
    |some u=>
     rcases hO b with z| ⟨ob,xs,z⟩
     ·rw[q]at z;cases z
     ·have z2:=un.frzs b ob _ z;obtain⟨e1,_⟩:=hok b _ z;obtain⟨e2,_⟩:=ye b _ z2;rw[e]at e1;cases e1
      exact e2
 cases hk:K.lookup a with
 |some o=>
  have e:=KX a o hk;rw[ha]at e;cases e
  refine core (fun _=>none) (fun _=>.inl rfl) (.inr ⟨_,vs.toArray,_,hk,rfl,rfl,rfl,by rw[bG,xb];exact hl,by simpa using rv⟩) (fun b u z=>by have z':(none:Option HO)=some u:=z;cases z') (fun b z=>absurd rfl z) fun z=>absurd rfl z
 |none=>
  refine core (fun b=>if b=a then some (.frz {cls:=.type "list",data:=.seq vs.toArray} (.lst (ns.map V.int)))else none) (fun b=>?_) (.inl (.inr ⟨{cls:=.type "list",data:=.seq vs.toArray},if_pos rfl⟩)) (fun b u z=>?_) (fun b z=>?_) fun _=>hk
  ·by_cases hb:b=a
   ·exact .inr ⟨_,_,if_pos hb⟩
   ·exact .inl (if_neg hb)
  ·by_cases hb:b=a
   ·have z':=(if_pos hb).symm.trans z;cases z';subst hb
    exact⟨ha,by rw[aS];exact hl,vs,_,rv,ha⟩
   ·have z':=(if_neg hb).symm.trans z;cases z'
  ·by_cases hb:b=a
   ·exact hb
   ·exact absurd (if_neg hb) z
noncomputable abbrev KOf{K:aO}{h:Heap}(_:K.In h):aO:=K
end L2
namespace L2
open PySem PySem.Spec PyProof.Rows
noncomputable abbrev CX0:CXT:=fun _ _ _ _ _ _=>False
structure Fun(K:aO)(x qual:Str)(st:Stmt)(f:Addr)(fd:FuncData):Prop where
 ex:∃(oc:Value)(od:Option Addr)(kV doc pm:Value)(an:Option Addr)(ay ct:Value)(eh:Array (Option Value)),
  fd=cK x qual (jU st) (i8 st) (gH st) .none kV doc pm an ay ct/\K.lookup f=some ⟨oc,od,.func fd,eh⟩/\dM K ay qual=true
 kp:cG K (.ref f)=true
section
variable {P:Program}{w:World}{K:aO}{mg:Str->Option Value}{base:Heap}
variable{x qual:Str}{st:Stmt}{f:Addr}{fd:FuncData}{ps:List Str}
theorem Fun.ok{N:List Str}{k:Nat}{sp:Sp}(F:Fun K x qual st f fd)(S:qB N ps (gH st))(len:∀vs H Q E,sp vs H Q E->vs.length=ps.length)
 (db:∀(ay:Value)(A:Around)(outer:List Env)(s:Shared)(H:Hp)(vs:List V)(Q:VK)(E:XK),Room k (A.deeper (envOfC qual (gH st) s.heap.objs.size f ay))->sp vs H Q E->
  ∃t,PSs (aAT CX0 P w K mg base N qual (gH st) f ay A outer s H E).nox (i8 st) t/\t {nx:=fun _ H'=>Q .non H',rt:=Q} (start N vs) H):mQ P w K mg base CX0 (k+1) f fd ps sp:=by
 obtain⟨oc,od,kV,doc,pm,an,ay,ct,eh,rfl,lk,iu⟩:=F.ex
 refine aLG lk iu S len fun A outer s H vs Q E hr fg=>?_
 obtain⟨t,h,q⟩:=db ay A outer s H vs Q E hr fg
 exact⟨t,h.nox,q⟩
theorem Fun.binds(F:Fun K x qual st f fd)
 (h:∀(kV doc pm:Value)(an:Option Addr)(ay ct:Value)(us:List Value),us.length=ps.length->bindArgs (cK x qual (jU st) (i8 st) (gH st) .none kV doc pm an ay ct) ⟨us,[]⟩=pure (ps.zip us)):Binds K fd ps []:=by
 obtain⟨oc,od,kV,doc,pm,an,ay,ct,eh,rfl,lk,iu⟩:=F.ex
 exact .all (h kV doc pm an ay ct)
theorem aDW{oc:Value}{od an:Option Addr}{eh:Array (Option Value)}{kV doc pm ay ct:Value}(l:K.lookup f=some ⟨oc,od,.func (cK x qual (jU st) (i8 st) (gH st) .none kV doc pm an ay ct),eh⟩)
 (c:dM K ay qual=true)(k:cG K (.ref f)=true):Fun K x qual st f (cK x qual (jU st) (i8 st) (gH st) .none kV doc pm an ay ct):=⟨⟨oc,od,kV,doc,pm,an,ay,ct,eh,rfl,l,c⟩,k⟩
end
section
variable {X:Cx}
end
variable{H H':Hp}
def Same(H H':Hp):Prop:=∀b o,H b=some o->H' b=some o
theorem Same.refl(H:Hp):Same H H:=fun _ _ h=>h
theorem Same.trans{H1 H2:Hp}(a:Same H H1)(b:Same H1 H2):Same H H2:=fun c o h=>b c o (a c o h)
theorem Same.free(e:Same H H'){l:Addr}(h:H' l=aQE):H l=aQE:=by
 cases q:H l with
 |none=>rfl
 |some o=>
  rw[e l o q]at h;cases h
theorem Same.seq{K:aO}{a:Addr}{xs:List V}(e:Same H H')(h:SqL K H a xs):SqL K H' a xs:=by
 rcases h with(h| ⟨o,h⟩)|h
 ·exact .inl (.inl (e _ _ h))
 ·exact .inl (.inr ⟨o,e _ _ h⟩)
 ·exact .inr h
end L2
namespace PySem
section
variable {M:Model}{A:Around}{E:Value->Shared->Prop}
variable {nm q:Str}{C N:Addr}{bs bm:List Value}{hdct:Bool}{sn:List Str}{sub:List Value}{ab:Bool}{col:Option Bool}{dd:Option Addr}{k0 k1 k2 k3 k5:Option Value}{newId:String}
variable {nm' q':Str}{D N':Addr}{bs' bm':List Value}{hdct':Bool}{sn':List Str}{sub':List Value}{ab':Bool}{col':Option Bool}{jk:Option Addr}{k0' k1' k2' k3' k5':Option Value}{wx:String}
end
end PySem
namespace TL
open PySem L2
variable{H:Hp}{Z:Addr->Prop}{ρ:Rho}{a:Addr}{o:HO}
inductive T where
 |non|bl (b:Bool)|int (i:Int)|str (x:Str)|lst (xs:List T)|tup (xs:List T)|cell (c:Nat)|exc (c:String)
noncomputable abbrev TSt:=List (Option T)
inductive Kd where
 |l|o (cls:String) (ns:List Str)|dk (ks:List Key)|dt (ks:List (List Key))|dz (ks:List (List Key))
noncomputable abbrev Cl:=Kd×List T
abbrev Sto:=List Cl
noncomputable abbrev Rho:=List Addr
open Classical in
noncomputable def mask(H:Hp)(Z:Addr->Prop)(ρ:Rho):Hp:=fun a=>if Z a\/a∈ρ then none else H a
theorem lB:mask H Z ρ a=some o↔¬Z a/\a∉ρ/\H a=some o:=by
 unfold mask;constructor
 ·intro h;split at h
  ·cases h
  ·rename_i q
   exact⟨fun z=>q (.inl z),fun z=>q (.inr z),h⟩
 ·rintro⟨h1,h2,h3⟩;rw[if_neg (by
   rintro(z|z)
   ·exact h1 z
   ·exact h2 z)]
  exact h3
theorem l4(h1:¬Z a)(h2:a∉ρ)(h3:H a=some o):mask H Z ρ a=some o:=lB.mpr ⟨h1,h2,h3⟩
theorem oC:Same (mask H Z ρ) H:=fun a o h=>(lB.mp h).2.2
noncomputable def exO(a C:Addr):HO:=.ext fun h=>∃ob,h.get? a=some ob/\ob.cls=.ref C
mutual
def RT(K:aO)(M:Hp)(ρ:Rho):T->V->Prop
 | .non,v=>v=.non
 | .bl b,v=>v=.bl b
 | .int i,v=>v=.int i
 | .str x,v=>v=.str x
 | .lst ts,v=>∃a vs,v=.ref a/\SqL K M a vs/\RTs K M ρ ts vs
 | .tup ts,v=>∃a vs,v=.ref a/\M a=some (.tup vs)/\RTs K M ρ ts vs
 | .cell c,v=>∃a,v=.ref a/\ρ[c]?=some a
 | .exc c,v=>∃a C,v=.ref a/\bX K mainGlobals (Str.ofString c)=some (some (.ref C))/\M a=some (exO a C)
def RTs(K:aO)(M:Hp)(ρ:Rho):List T->List V->Prop
 | [],vs=>vs=[]
 |t::ts,vs=>∃v r,vs=v::r/\RT K M ρ t v/\RTs K M ρ ts r
end
theorem Same.tseq{K:aO}{H H':Hp}{a:Addr}{xs:List V}(e:Same H H')(h:SqT K H a xs):SqT K H' a xs:=by
 rcases h with(h| ⟨o,h⟩)|h
 ·exact .inl (.inl (e _ _ h))
 ·exact .inl (.inr ⟨o,e _ _ h⟩)
 ·exact .inr h
theorem aKn{ρ e:Rho}{c:Nat}{a:Addr}(h:ρ[c]?=some a):(ρ++e)[c]?=some a:=by
 rw[aY (aQ.mp h).1];exact h
section
variable {K:aO}{M M':Hp}{ρ ae:Rho}
mutual
theorem RT.mono(s:Same M M')(p:∀(c:Nat)(a:Addr),ρ[c]?=some a->ae[c]?=some a):∀{t:T}{v:V},RT K M ρ t v->RT K M' ae t v
 | .non,_,h=>by unfold RT at*;exact h
 | .bl _,_,h=>by unfold RT at*;exact h
 | .int _,_,h=>by unfold RT at*;exact h
 | .str _,_,h=>by unfold RT at*;exact h
 | .lst ts,v,h=>by
   unfold RT at*;obtain⟨a,vs,e,q,r⟩:=h
   exact⟨a,vs,e,s.seq q,RTs.mono s p r⟩
 | .tup ts,v,h=>by
   unfold RT at*;obtain⟨a,vs,e,q,r⟩:=h
   exact⟨a,vs,e,s _ _ q,RTs.mono s p r⟩
 | .cell c,v,h=>by
   unfold RT at*;obtain⟨a,e,q⟩:=h
   exact⟨a,e,p c a q⟩
 | .exc c,v,h=>by
   unfold RT at*;obtain⟨a,C,e,q,r⟩:=h
   exact⟨a,C,e,q,s _ _ r⟩
theorem RTs.mono(s:Same M M')(p:∀(c:Nat)(a:Addr),ρ[c]?=some a->ae[c]?=some a):∀{ts:List T}{vs:List V},RTs K M ρ ts vs->RTs K M' ae ts vs
 | [],_,h=>by unfold RTs at*;exact h
 |t::ts,vs,h=>by
  unfold RTs at*;obtain⟨v,r,e,h1,h2⟩:=h
  exact⟨v,r,e,RT.mono s p h1,RTs.mono s p h2⟩
end
variable{t:T}{ts:List T}{v:V}{vs:List V}
theorem RTs.nil:RTs K M ρ [] []:=by unfold RTs;rfl
theorem RTs.cons(h:RT K M ρ t v)(hs:RTs K M ρ ts vs):RTs K M ρ (t::ts) (v::vs):=by
 unfold RTs;exact⟨v,vs,rfl,h,hs⟩
theorem RTs.nil_inv(h:RTs K M ρ [] vs):vs=[]:=by unfold RTs at h;exact h
theorem RTs.cons_inv(h:RTs K M ρ (t::ts) vs):∃v r,vs=v::r/\RT K M ρ t v/\RTs K M ρ ts r:=by unfold RTs at h;exact h
theorem RTs.length:∀{ts:List T}{vs:List V},RTs K M ρ ts vs->vs.length=ts.length
 | [],_,h=>by rw[h.nil_inv];rfl
 |t::ts,vs,h=>by
  obtain⟨v,r,rfl,_,h2⟩:=h.cons_inv;simp[h2.length]
theorem RTs.get:∀{ts:List T}{vs:List V}{i:Nat}{t:T},RTs K M ρ ts vs->ts[i]?=some t->∃v,vs[i]?=some v/\RT K M ρ t v
 | [],_,_,_,_,e=>by simp at e
 |x::ts,vs,0,t,h,e=>by
  obtain⟨v,r,rfl,h1,h2⟩:=h.cons_inv;simp at e;subst e
  exact⟨v,rfl,h1⟩
 |x::ts,vs,i+1,t,h,e=>by
  obtain⟨v,r,rfl,h1,h2⟩:=h.cons_inv;obtain⟨u,q1,q2⟩:=RTs.get (i:=i) h2 (by simpa using e)
  exact⟨u,by simpa using q1,q2⟩
theorem RTs.append:∀{ts us:List T}{vs ws:List V},RTs K M ρ ts vs->RTs K M ρ us ws->RTs K M ρ (ts++us) (vs++ws)
 | [],_,_,_,h,h'=>by rw[h.nil_inv];exact h'
 |t::ts,_,_,_,h,h'=>by
  obtain⟨v,r,rfl,h1,h2⟩:=h.cons_inv
  exact .cons h1 (h2.append h')
theorem RTs.take:∀(n:Nat){ts:List T}{vs:List V},RTs K M ρ ts vs->RTs K M ρ (ts.take n) (vs.take n)
 |0,_,_,_=>by simpa using RTs.nil
 |n+1,[],_,h=>by rw[h.nil_inv];simpa using RTs.nil
 |n+1,t::ts,_,h=>by
  obtain⟨v,r,rfl,h1,h2⟩:=h.cons_inv
  exact .cons h1 (h2.take n)
theorem RTs.drop:∀(n:Nat){ts:List T}{vs:List V},RTs K M ρ ts vs->RTs K M ρ (ts.drop n) (vs.drop n)
 |0,_,_,h=>h
 |n+1,[],_,h=>by rw[h.nil_inv];simpa using RTs.nil
 |n+1,t::ts,_,h=>by
  obtain⟨v,r,rfl,h1,h2⟩:=h.cons_inv
  exact h2.drop n
theorem RTs.set(h0:RT K M ρ t v):∀(n:Nat){ts:List T}{vs:List V},RTs K M ρ ts vs->RTs K M ρ (ts.set n t) (vs.set n v)
 |_,[],_,h=>by rw[h.nil_inv];simpa using RTs.nil
 |0,x::ts,_,h=>by
  obtain⟨u,r,rfl,h1,h2⟩:=h.cons_inv
  exact .cons h0 h2
 |n+1,x::ts,_,h=>by
  obtain⟨u,r,rfl,h1,h2⟩:=h.cons_inv
  exact .cons h1 (h2.set h0 n)
end
variable{H H':Hp}{a:Addr}{K:aO}{ρ ae:Rho}{Z:Addr->Prop}
def Hob(K:aO):Kd->List V->HO->Prop
 | .l,vs,o=>o=.lst vs
 | .o cls ns,vs,o=>ns.length=vs.length/\∃C dx,bX K mainGlobals (Str.ofString cls)=some (some (.ref C))/\o=.ins C dx (ns.zip vs)
 | .dk ks,vs,o=>ks.length=vs.length/\o=.dK (ks.zip vs)
 | .dt ks,vs,o=>ks.length=vs.length/\o=.dT (ks.zip vs)
 | .dz ks,vs,o=>ks.length=vs.length/\∃ob,o=.frz ob (.dT (ks.zip vs))
def NT:Option HO->Prop
 |some (.tup _)=>False
 |none=>False
 |_=>True
theorem NT.same(s:Same H H')(h:NT (H a)):NT (H' a):=by
 cases e:H a with
 |none=>rw[e]at h;exact False.elim h
 |some o=>rw[s a o e,<-e];exact h
theorem NT.some(h:NT (H a)):H a≠none:=fun z=>by rw[z]at h;exact h
theorem Hob.nt{k:Kd}{vs:List V}{o:HO}(h:Hob K k vs o):NT (some o):=by
 cases k with
 |l=>unfold Hob at h;subst h;trivial
 |o c ns=>unfold Hob at h;obtain⟨_,C,dx,_,rfl⟩:=h;trivial
 |dk ks=>unfold Hob at h;obtain⟨_,rfl⟩:=h;trivial
 |dt ks=>unfold Hob at h;obtain⟨_,rfl⟩:=h;trivial
 |dz ks=>unfold Hob at h;obtain⟨_,ob,rfl⟩:=h;trivial
def nfz:Option HO->Prop
 |some (.frz _ _)=>False
 |_=>True
structure Rel(K:aO)(H₀:Hp)(Z:Addr->Prop)(ρ:Rho)(τ:TSt)(C:Sto)(σ:St)(H:Hp):Prop where
 old:Same H₀ H
 frs:∀a∈ρ,H₀ a=none/\¬Z a
 nd:ρ.Nodup
 zd:∀a,Z a->NT (H a)
 loc:∀(i:Nat)(t:T),τ[i]?=some (some t)->∃v,σ[i]?=some (some v)/\RT K (mask H Z ρ) ρ t v
 cel:∀(c:Nat)(a:Addr),ρ[c]?=some a->∃x vs o,C[c]?=some x/\H a=some o/\Hob K x.1 vs o/\RTs K (mask H Z ρ) ρ x.2 vs
 len:ρ.length=C.length
 lnt:τ.length=σ.length
structure Step(H H':Hp)(ρ ae:Rho):Prop where
 kept:∀(a:Addr)(o:HO),H a=some o->a∉ρ->a∉ae/\H' a=some o
 pre:∃e,ae=ρ++e
 fz:∀(a:Addr) ob u,H a=some (.frz ob u)->H' a=some (.frz ob u)
theorem Step.refl:Step H H ρ ρ:=⟨fun a o h n=>⟨n,h⟩,⟨[],by simp⟩,fun _ _ _ h=>h⟩
theorem Step.trans{H1 H2:Hp}{af ar:Rho}(a:Step H H1 ρ af)(b:Step H1 H2 af ar):Step H H2 ρ ar:=by
 obtain⟨e,he⟩:=a.pre;obtain⟨f,hf⟩:=b.pre
 exact⟨fun x o h n=>(b.kept x o (a.kept x o h n).2 (a.kept x o h n).1),⟨e++f,by rw[hf,he,cS]⟩,fun x ob u h=>b.fz x ob u (a.fz x ob u h)⟩
theorem Step.of{e:Rho}(s:Same H H')(h:∀a∈e,H a=none):Step H H' ρ (ρ++e):=
 ⟨fun a o q n=>⟨fun z=>(bM.mp z).elim n (fun z=>by rw[h a z]at q;cases q),s a o q⟩,⟨e,rfl⟩,fun a ob u h=>s a _ h⟩
theorem Step.of0(s:Same H H'):Step H H' ρ ρ:=⟨fun a o q n=>⟨n,s a o q⟩,⟨[],by simp⟩,fun a ob u h=>s a _ h⟩
theorem Step.idx(s:Step H H' ρ ae):∀(c:Nat)(a:Addr),ρ[c]?=some a->ae[c]?=some a:=fun c a h=>by
 obtain⟨e,he⟩:=s.pre;rw[he];exact aKn h
theorem Step.msk(s:Step H H' ρ ae)(Z:Addr->Prop):Same (mask H Z ρ) (mask H' Z ae):=fun a o h=>by
 obtain⟨h1,h2,h3⟩:=lB.mp h
 exact l4 h1 (s.kept a o h3 h2).1 (s.kept a o h3 h2).2
theorem RT.step{t:T}{v:V}(h:RT K (mask H Z ρ) ρ t v)(s:Step H H' ρ ae):RT K (mask H' Z ae) ae t v:=h.mono (s.msk Z) s.idx
theorem RTs.step{t:List T}{v:List V}(h:RTs K (mask H Z ρ) ρ t v)(s:Step H H' ρ ae):RTs K (mask H' Z ae) ae t v:=h.mono (s.msk Z) s.idx
abbrev SStep(Z:Addr->Prop)(H H':Hp)(ρ ae:Rho):Prop:=Step H H' ρ ae
theorem Step.ss(s:Step H H' ρ ae):Step H H' ρ ae:=s
section
variable {K:aO}{H₀ H H':Hp}{Z:Addr->Prop}{ρ ae:Rho}{τ:TSt}{C:Sto}{σ:St}
variable{p:Addr}{kd:Kd}{ob:HO}{c:Nat}
theorem Rel.alloc(R:Rel K H₀ Z ρ τ C σ H){o:HO}(hp:H p=none):Rel K H₀ Z ρ τ C σ (upd H p o)/\Step H (upd H p o) ρ ρ:=by
 have sm:Same H (upd H p o):=fun b u h=>by rw[fP (fun z=>by rw[z,hp]at h;cases h)];exact h
 have st:Step H (upd H p o) ρ ρ:=.of0 sm
 refine⟨⟨R.old.trans sm,R.frs,R.nd,fun a z=>(R.zd a z).same sm,fun i t e=>?_,fun c a e=>?_,R.len,R.lnt⟩,st⟩
 ·obtain⟨v,h1,h2⟩:=R.loc i t e
  exact⟨v,h1,h2.step st⟩
 ·obtain⟨x,vs,ob,h1,h2,h4,h3⟩:=R.cel c a e
  exact⟨x,vs,ob,h1,sm _ _ h2,h4,h3.step st⟩
theorem Rel.fresh_not(R:Rel K H₀ Z ρ τ C σ H)(hp:H p=none):¬Z p/\p∉ρ/\H₀ p=none:=by
 refine⟨fun z=>(R.zd p z).some hp,fun z=>?_,R.old.free hp⟩
 obtain⟨c,hc⟩:=bQ.mp z;obtain⟨_,_,_,_,h,_⟩:=R.cel c p hc;rw[hp]at h;cases h
theorem Rel.alloc_lst(R:Rel K H₀ Z ρ τ C σ H){ts:List T}{vs:List V}(hp:H p=none)(h:RTs K (mask H Z ρ) ρ ts vs):
 RT K (mask (upd H p (.lst vs)) Z ρ) ρ (.lst ts) (.ref p):=by
 obtain⟨h1,h2,_⟩:=R.fresh_not hp;unfold RT
 exact⟨p,vs,rfl,.of (l4 h1 h2 i6),h.step (R.alloc hp).2⟩
theorem Rel.alloc_tup(R:Rel K H₀ Z ρ τ C σ H){ts:List T}{vs:List V}(hp:H p=none)(h:RTs K (mask H Z ρ) ρ ts vs):
 RT K (mask (upd H p (.tup vs)) Z ρ) ρ (.tup ts) (.ref p):=by
 obtain⟨h1,h2,_⟩:=R.fresh_not hp;unfold RT
 exact⟨p,vs,rfl,(l4 h1 h2 i6),h.step (R.alloc hp).2⟩
theorem Rel.alloc_cl(R:Rel K H₀ Z ρ τ C σ H){ts:List T}{vs:List V}(hp:H p=none)(si:Hob K kd vs ob)(h:RTs K (mask H Z ρ) ρ ts vs):
 Rel K H₀ Z (ρ++[p]) τ (C++[(kd,ts)]) σ (upd H p ob)/\Step H (upd H p ob) ρ (ρ++[p])/\RT K (mask (upd H p ob) Z (ρ++[p])) (ρ++[p]) (.cell C.length) (.ref p):=by
 obtain⟨n1,n2,n3⟩:=R.fresh_not hp;have sm:Same H (upd H p ob):=fun b u h=>by rw[fP (fun z=>by rw[z,hp]at h;cases h)];exact h
 have st:Step H (upd H p ob) ρ (ρ++[p]):=.of sm fun a ha=>by rw[bS.mp ha];exact hp
 refine⟨⟨R.old.trans sm,fun a ha=>?_,?_,fun a z=>(R.zd a z).same sm,fun i t e=>?_,fun c a e=>?_,by simp[R.len],R.lnt⟩,st,?_⟩
 ·rcases bM.mp ha with ha|ha
  ·exact R.frs a ha
  ·rw[bS.mp ha];exact⟨n3,n1⟩
 ·refine dO.mpr ⟨R.nd,by simp,fun a ha b hb=>?_⟩
  rw[bS.mp hb];rintro rfl
  exact n2 ha
 ·obtain⟨v,h1,h2⟩:=R.loc i t e
  exact⟨v,h1,h2.step st⟩
 ·by_cases hc:c<ρ.length
  ·rw[aY hc]at e;obtain⟨us,ws,o2,h1,h2,h4,h3⟩:=R.cel c a e
   exact⟨us,ws,o2,by rw[aY (by rw[<-R.len];exact hc)];exact h1,sm _ _ h2,h4,h3.step st⟩
  ·have ou:c=ρ.length:=by
    have:=(aQ.mp e).1;simp at this;lia
   subst ou;rw[bK (bF _)]at e;simp at e;subst e
   exact⟨(kd,ts),vs,ob,by rw[R.len];simp,i6,si,h.step st⟩
 ·unfold RT
  exact⟨p,rfl,by rw[<-R.len];simp⟩
theorem Rel.alloc_cell(R:Rel K H₀ Z ρ τ C σ H){ts:List T}{vs:List V}(hp:H p=none)(h:RTs K (mask H Z ρ) ρ ts vs):
 Rel K H₀ Z (ρ++[p]) τ (C++[(.l,ts)]) σ (upd H p (.lst vs))/\Step H (upd H p (.lst vs)) ρ (ρ++[p])/\RT K (mask (upd H p (.lst vs)) Z (ρ++[p])) (ρ++[p]) (.cell C.length) (.ref p):=R.alloc_cl hp rfl h
theorem Rel.celL(R:Rel K H₀ Z ρ τ C σ H){a:Addr}{ts:List T}(hc:ρ[c]?=some a)(e:C[c]?=some (.l,ts)):∃vs,H a=some (.lst vs)/\RTs K (mask H Z ρ) ρ ts vs:=by
 obtain⟨x,vs,ob,h1,h2,h4,h3⟩:=R.cel c a hc;rw[e]at h1;cases h1;have h4:ob=.lst vs:=h4;subst h4
 exact⟨vs,h2,h3⟩
theorem Rel.put0(R:Rel K H₀ Z ρ τ C σ H){a:Addr}{ts:List T}{vs:List V}(hc:ρ[c]?=some a)(si:Hob K kd vs ob)(h:RTs K (mask H Z ρ) ρ ts vs):
 Rel K H₀ Z ρ τ (C.set c (kd,ts)) σ (upd H a ob)/\mask (upd H a ob) Z ρ=mask H Z ρ:=by
 have am:a∈ρ:=bC hc;have em:mask (upd H a ob) Z ρ=mask H Z ρ:=by
  funext b;unfold mask;split
  ·rfl
  ·rename_i q;rw[fP (by rintro rfl;exact q (.inr am))]
 refine⟨⟨fun b o q=>?_,R.frs,R.nd,fun b z=>?_,fun i t e=>?_,fun d b e=>?_,by simp[R.len],R.lnt⟩,em⟩
 ·rw[fP (by rintro rfl;rw[(R.frs b am).1]at q;cases q)]
  exact R.old b o q
 ·rw[fP (by rintro rfl;exact(R.frs b am).2 z)];exact R.zd b z
 ·rw[em];exact R.loc i t e
 ·rw[em];by_cases hd:d=c
  ·subst hd;rw[hc]at e;cases e;have hl:d<C.length:=by rw[<-R.len];exact(aQ.mp hc).1
   exact⟨(kd,ts),vs,ob,by rw[bN hl],i6,si,h⟩
  ·obtain⟨us,ws,o2,h1,h2,h4,h3⟩:=R.cel d b e
   refine⟨us,ws,o2,by rw[aR (Ne.symm hd)];exact h1,?_,h4,h3⟩
   rw[fP]
   ·exact h2
   ·rintro rfl;obtain⟨l1,e1⟩:=aQ.mp e;obtain⟨l2,e2⟩:=aQ.mp hc
    exact hd ((aPz R.nd).mp (e1.trans e2.symm))
theorem Rel.put(R:Rel K H₀ Z ρ τ C σ H){a:Addr}{ts:List T}{vs:List V}(hc:ρ[c]?=some a)(vj:nfz (H a))(si:Hob K kd vs ob)(h:RTs K (mask H Z ρ) ρ ts vs):
 Rel K H₀ Z ρ τ (C.set c (kd,ts)) σ (upd H a ob)/\SStep Z H (upd H a ob) ρ ρ:=
 have am:a∈ρ:=bC hc
 ⟨(R.put0 hc si h).1,⟨fun b o q n=>⟨n,by rw[fP (by rintro rfl;exact n am)];exact q⟩,⟨[],by simp⟩,fun b ob u h=>by rw[fP (by rintro rfl;rw[h]at vj;exact vj)];exact h⟩⟩
theorem Rel.write(R:Rel K H₀ Z ρ τ C σ H){a:Addr}{ts:List T}{vs:List V}(hc:ρ[c]?=some a)(vj:nfz (H a))(h:RTs K (mask H Z ρ) ρ ts vs):
 Rel K H₀ Z ρ τ (C.set c (.l,ts)) σ (upd H a (.lst vs))/\SStep Z H (upd H a (.lst vs)) ρ ρ:=R.put hc vj rfl h
theorem Rel.set(R:Rel K H₀ Z ρ τ C σ H){i:Nat}{t:T}{v:V}(h:RT K (mask H Z ρ) ρ t v):Rel K H₀ Z ρ (τ.set i (some t)) C (σ.set i (some v)) H:=by
 refine⟨R.old,R.frs,R.nd,R.zd,fun j u e=>?_,R.cel,R.len,by simp[R.lnt]⟩
 by_cases hj:j=i
 ·subst hj;have nu:j<τ.length:=by
   have:=(aQ.mp e).1;simpa using this
  rw[bN nu]at e;cases e
  exact⟨v,by rw[bN (by rw[<-R.lnt];exact nu)],h⟩
 ·rw[aR (Ne.symm hj)]at e;obtain⟨w,h1,h2⟩:=R.loc j u e
  exact⟨w,by rw[aR (Ne.symm hj)];exact h1,h2⟩
theorem Rel.weak(R:Rel K H₀ Z ρ τ C σ H){ag:TSt}(hl:ag.length=τ.length)(h:∀(i:Nat) t,ag[i]?=some (some t)->τ[i]?=some (some t)):Rel K H₀ Z ρ ag C σ H:=
 ⟨R.old,R.frs,R.nd,R.zd,fun i t e=>R.loc i t (h i t e),R.cel,R.len,hl.trans R.lnt⟩
end
noncomputable def lim:Nat:=400000
abbrev FE:=TSt->Sto->Option (T×Sto)
abbrev FN:=TSt->Sto->Option (List T×Sto)
abbrev FB:=TSt->Sto->Option (Bool×Sto)
def trE(K:aO)(f:FE):TE:=fun σ H Q=>∃H₀ Z ρ τ C t C',Rel K H₀ Z ρ τ C σ H/\f τ C=some (t,C')/\
 ∀v H' ae,Rel K H₀ Z ae τ C' σ H'->RT K (mask H' Z ae) ae t v->Step H H' ρ ae->Q v H'
def trA(K:aO)(f:FN):TA:=fun σ H Q=>∃H₀ Z ρ τ C ts C',Rel K H₀ Z ρ τ C σ H/\f τ C=some (ts,C')/\
 ∀vs H' ae,Rel K H₀ Z ae τ C' σ H'->RTs K (mask H' Z ae) ae ts vs->Step H H' ρ ae->Q vs H'
def trN(K:aO)(f:FN):TE:=fun σ H Q=>∃H₀ Z ρ τ C ts C',Rel K H₀ Z ρ τ C σ H/\f τ C=some (ts,C')/\
 ∀p H' ae vs,Rel K H₀ Z ae τ C' σ H'->H' p=none->RTs K (mask H' Z ae) ae ts vs->Step H H' ρ ae->Q (.ref p) (upd H' p (.lst vs))
noncomputable def trT(K:aO)(f:FB):TT:=fun σ H Q=>∃H₀ Z ρ τ C b C',Rel K H₀ Z ρ τ C σ H/\f τ C=some (b,C')/\
 ∀H' ae,Rel K H₀ Z ae τ C' σ H'->Step H H' ρ ae->Q b H'
def trV(K:aO)(σ:St)(ts:List T)(vs:List V)(g:Sto->Option (T×Sto))(H:Hp)(Q:VK):Prop:=∃H₀ Z ρ τ C t C',Rel K H₀ Z ρ τ C σ H/\RTs K (mask H Z ρ) ρ ts vs/\g C=some (t,C')/\
 ∀v H' ae,Rel K H₀ Z ae τ C' σ H'->RT K (mask H' Z ae) ae t v->Step H H' ρ ae->Q v H'
def trW(K:aO)(σ:St)(ts:List T)(vs:List V)(g:Sto->Option (List T))(H:Hp)(Q:VK):Prop:=∃H₀ Z ρ τ C us,Rel K H₀ Z ρ τ C σ H/\RTs K (mask H Z ρ) ρ ts vs/\g C=some us/\
 ∀p H' ae ws,Rel K H₀ Z ae τ C σ H'->H' p=none->RTs K (mask H' Z ae) ae us ws->Step H H' ρ ae->Q (.ref p) (upd H' p (.lst ws))
noncomputable def jF(i:Nat):FE:=fun τ C=>match τ[i]?with
 |some (some t)=>some (t,C)
 |_=>none
noncomputable def fC(t:T):FE:=fun _ C=>some (t,C)
abbrev Y0:FE:=jF 0
abbrev Y1:FE:=jF 1
abbrev Y2:FE:=jF 2
abbrev Y3:FE:=jF 3
abbrev Y4:FE:=jF 4
abbrev Y5:FE:=jF 5
abbrev Y6:FE:=jF 6
abbrev Y7:FE:=jF 7
abbrev Y8:FE:=jF 8
abbrev Y9:FE:=jF 9
abbrev Y10:FE:=jF 10
abbrev Y11:FE:=jF 11
abbrev Y12:FE:=jF 12
abbrev Y13:FE:=jF 13
abbrev Y14:FE:=jF 14
abbrev fI(n:Int):FE:=fC (.int n)
noncomputable def iV(fa fb:FE)(g:T->T->Sto->Option (T×Sto)):FE:=fun τ C=>(fa τ C).bind fun p=>(fb τ p.2).bind fun q=>g p.1 q.1 q.2
noncomputable def fUn(fa:FE)(g:T->Sto->Option (T×Sto)):FE:=fun τ C=>(fa τ C).bind fun p=>g p.1 p.2
noncomputable def xC(fa fb:FE)(g:T->T->Sto->Option (List T)):FN:=fun τ C=>(fa τ C).bind fun p=>(fb τ p.2).bind fun q=>(g p.1 q.1 q.2).map fun us=>(us,q.2)
noncomputable def fH:FN:=fun _ C=>some ([],C)
noncomputable def eX(fa:FE)(fr:FN):FN:=fun τ C=>(fa τ C).bind fun p=>(fr τ p.2).map fun q=>(p.1::q.1,q.2)
noncomputable def mP(fa:FN)(g:List T->Sto->Option (T×Sto)):FE:=fun τ C=>(fa τ C).bind fun p=>g p.1 p.2
noncomputable def vD(fa:FN)(g:List T->Sto->Option (List T)):FN:=fun τ C=>(fa τ C).bind fun p=>(g p.1 p.2).map fun us=>(us,p.2)
noncomputable def fV(f:FN):FE:=fun τ C=>(f τ C).map fun p=>(.lst p.1,p.2)
noncomputable def iU(f:FN):FE:=fun τ C=>(f τ C).map fun p=>(.cell p.2.length,p.2++[(.l,p.1)])
section
variable {K:aO}{σ:St}{H:Hp}{Q:VK}
variable{fa fb:FE}{g:Int->Int->V}{f:Int->Int->T}{C:Sto}{M H₀:Hp}{τ:TSt}{x y:V}
theorem aLo{i:Nat}(h:trE K (jF i) σ H Q):tVar i σ H Q:=by
 obtain⟨H₀,Z,ρ,τ,C,t,C',R,e,k⟩:=h;unfold jF at e;split at e
 ·rename_i u hu;cases e;obtain⟨v,h1,h2⟩:=R.loc i t hu
  exact⟨v,h1,k v H ρ R h2 .refl⟩
 ·cases e
theorem i_C{t:T}{v:V}(ht:∀M ρ,RT K M ρ t v)(h:trE K (fC t) σ H Q):tC v σ H Q:=by
 obtain⟨H₀,Z,ρ,τ,C,t,C',R,e,k⟩:=h;cases e
 exact k v H ρ R (ht _ _) .refl
theorem aEF{g:T->T->Sto->Option (T×Sto)}(h:trE K (iV fa fb g) σ H Q):
 trE K fa σ H fun x H1=>trE K fb σ H1 fun y H2=>∃t1 t2,trV K σ [t1,t2] [x,y] (g t1 t2) H2 Q:=by
 obtain⟨H₀,Z,ρ,τ,C,t,C',R,e,k⟩:=h;unfold iV at e;obtain⟨⟨t1,C1⟩,e1,e⟩:=aK.mp e;obtain⟨⟨t2,C2⟩,e2,e⟩:=aK.mp e
 refine⟨H₀,Z,ρ,τ,C,t1,C1,R,e1,fun x H1 af R1 h1 s1=>?_⟩
 refine⟨H₀,Z,af,τ,C1,t2,C2,R1,e2,fun y H2 ar R2 h2 s2=>?_⟩
 exact⟨t1,t2,H₀,Z,ar,τ,C2,t,C',R2,.cons (h1.step s2) (.cons h2 .nil),e,fun v H3 az R3 h3 s3=>k v H3 az R3 h3 ((s1.trans s2).trans s3)⟩
theorem aNJ{g:T->Sto->Option (T×Sto)}(h:trE K (fUn fa g) σ H Q):
 trE K fa σ H fun x H1=>∃t1,trV K σ [t1] [x] (g t1) H1 Q:=by
 obtain⟨H₀,Z,ρ,τ,C,t,C',R,e,k⟩:=h;unfold fUn at e;obtain⟨⟨t1,C1⟩,e1,e⟩:=aK.mp e
 refine⟨H₀,Z,ρ,τ,C,t1,C1,R,e1,fun x H1 af R1 h1 s1=>?_⟩
 exact⟨t1,H₀,Z,af,τ,C1,t,C',R1,.cons h1 .nil,e,fun v H3 az R3 h3 s3=>k v H3 az R3 h3 (s1.trans s3)⟩
theorem aNM{g:T->T->Sto->Option (List T)}(h:trN K (xC fa fb g) σ H Q):
 trE K fa σ H fun x H1=>trE K fb σ H1 fun y H2=>∃t1 t2,trW K σ [t1,t2] [x,y] (g t1 t2) H2 Q:=by
 obtain⟨H₀,Z,ρ,τ,C,ts,C',R,e,k⟩:=h;unfold xC at e;obtain⟨⟨t1,C1⟩,e1,e⟩:=aK.mp e;obtain⟨⟨t2,C2⟩,e2,e⟩:=aK.mp e;obtain⟨us,e3,e⟩:=aL.mp e;cases e
 refine⟨H₀,Z,ρ,τ,C,t1,C1,R,e1,fun x H1 af R1 h1 s1=>?_⟩
 refine⟨H₀,Z,af,τ,C1,t2,_,R1,e2,fun y H2 ar R2 h2 s2=>?_⟩
 exact⟨t1,t2,H₀,Z,ar,τ,_,_,R2,.cons (h1.step s2) (.cons h2 .nil),e3,fun p H3 az ws R3 n3 h3 s3=>k p H3 az ws R3 n3 h3 ((s1.trans s2).trans s3)⟩
theorem aLE{Q:List V->Hp->Prop}(h:trA K fH σ H Q):aJs σ H Q:=by
 obtain⟨H₀,Z,ρ,τ,C,ts,C',R,e,k⟩:=h;cases e
 exact k [] H ρ R .nil .refl
theorem aMl{fr:FN}{Q:List V->Hp->Prop}(h:trA K (eX fa fr) σ H Q):aG4 (trE K fa) (trA K fr) σ H Q:=by
 obtain⟨H₀,Z,ρ,τ,C,ts,C',R,e,k⟩:=h;unfold eX at e;obtain⟨⟨t1,C1⟩,e1,e⟩:=aK.mp e;obtain⟨⟨t2,C2⟩,e2,e⟩:=aL.mp e;cases e
 refine⟨H₀,Z,ρ,τ,C,t1,C1,R,e1,fun x H1 af R1 h1 s1=>?_⟩
 exact⟨H₀,Z,af,τ,C1,t2,_,R1,e2,fun vs H2 ar R2 h2 s2=>k (x::vs) H2 ar R2 (.cons (h1.step s2) h2) (s1.trans s2)⟩
theorem aAx{fa:FN}{g:List T->Sto->Option (T×Sto)}(h:trE K (mP fa g) σ H Q):
 trA K fa σ H fun vs H1=>∃ts,trV K σ ts vs (g ts) H1 Q:=by
 obtain⟨H₀,Z,ρ,τ,C,t,C',R,e,k⟩:=h;unfold mP at e;obtain⟨⟨ts,C1⟩,e1,e⟩:=aK.mp e
 refine⟨H₀,Z,ρ,τ,C,ts,C1,R,e1,fun x H1 af R1 h1 s1=>?_⟩
 exact⟨ts,H₀,Z,af,τ,C1,t,C',R1,h1,e,fun v H3 az R3 h3 s3=>k v H3 az R3 h3 (s1.trans s3)⟩
theorem aHh{fa:FN}{g:List T->Sto->Option (List T)}(h:trN K (vD fa g) σ H Q):
 trA K fa σ H fun vs H1=>∃ts,trW K σ ts vs (g ts) H1 Q:=by
 obtain⟨H₀,Z,ρ,τ,C,ts,C',R,e,k⟩:=h;unfold vD at e;obtain⟨⟨us,C1⟩,e1,e⟩:=aK.mp e;obtain⟨ws,e2,e⟩:=aL.mp e;cases e
 refine⟨H₀,Z,ρ,τ,C,us,_,R,e1,fun x H1 af R1 h1 s1=>?_⟩
 exact⟨us,H₀,Z,af,τ,_,_,R1,h1,e2,fun p H3 az ws R3 n3 h3 s3=>k p H3 az ws R3 n3 h3 (s1.trans s3)⟩
theorem aHU{f:FN}(h:trE K (fV f) σ H Q):trN K f σ H Q:=by
 obtain⟨H₀,Z,ρ,τ,C,t,C',R,e,k⟩:=h;unfold fV at e;obtain⟨⟨us,C1⟩,e1,e⟩:=aL.mp e;cases e
 exact⟨H₀,Z,ρ,τ,C,us,_,R,e1,fun p H1 af vs R1 n1 h1 s1=>k _ _ af (R1.alloc n1).1 (R1.alloc_lst n1 h1) (s1.trans (R1.alloc n1).2)⟩
theorem aIW{f:FN}(h:trE K (iU f) σ H Q):trN K f σ H Q:=by
 obtain⟨H₀,Z,ρ,τ,C,t,C',R,e,k⟩:=h;unfold iU at e;obtain⟨⟨us,C1⟩,e1,e⟩:=aL.mp e;cases e
 refine⟨H₀,Z,ρ,τ,C,us,_,R,e1,fun p H1 af vs R1 n1 h1 s1=>?_⟩
 obtain⟨q1,q2,q3⟩:=R1.alloc_cell n1 h1
 exact k _ _ _ q1 q3 (s1.trans q2)
noncomputable def lc(C:Sto)(c:Nat):Option (List T):=(C[c]?).bind fun x=>match x.1 with
 | .l=>some x.2
 |_=>none
theorem fY{c:Nat}{ts:List T}:lc C c=some ts↔C[c]?=some (.l,ts):=by
 unfold lc;constructor
 ·intro h;obtain⟨⟨k,us⟩,e,h⟩:=aK.mp h;cases k<;>cases h
  exact e
 ·intro h;rw[h];rfl
def liT(C:Sto):T->Option (List T)
 | .lst ts=>some ts
 | .cell c=>lc C c
 |_=>none
def sqT(C:Sto):T->Option (List T)
 | .lst ts=>some ts
 | .cell c=>lc C c
 | .tup ts=>some ts
 |_=>none
theorem SqL.msk{Z:Addr->Prop}{ρ:Rho}{a:Addr}{vs:List V}(h:SqL K (mask M Z ρ) a vs):SqL K M a vs:=oC.seq h
theorem SqT.msk{Z:Addr->Prop}{ρ:Rho}{a:Addr}{vs:List V}(h:SqT K (mask M Z ρ) a vs):SqT K M a vs:=Same.tseq oC h
theorem Rel.li{Z:Addr->Prop}{ρ:Rho}(R:Rel K H₀ Z ρ τ C σ H){t:T}{v:V}{ts:List T}(h:RT K (mask H Z ρ) ρ t v)(e:liT C t=some ts):
 ∃a vs,v=.ref a/\SqL K H a vs/\RTs K (mask H Z ρ) ρ ts vs:=by
 cases t with
 |lst us=>
  cases e;unfold RT at h;obtain⟨a,vs,e,q,r⟩:=h
  exact⟨a,vs,e,SqL.msk q,r⟩
 |cell c=>
  unfold RT at h;obtain⟨a,e1,q⟩:=h;obtain⟨ws,h2,h3⟩:=R.celL q (fY.mp e)
  exact⟨a,ws,e1,.of h2,h3⟩
 |_=>cases e
theorem Rel.sq{Z:Addr->Prop}{ρ:Rho}(R:Rel K H₀ Z ρ τ C σ H){t:T}{v:V}{ts:List T}(h:RT K (mask H Z ρ) ρ t v)(e:sqT C t=some ts):
 ∃a vs,v=.ref a/\(SqL K H a vs\/SqT K H a vs)/\RTs K (mask H Z ρ) ρ ts vs:=by
 cases t with
 |lst us=>
  obtain⟨a,vs,h1,h2,h3⟩:=R.li h (show liT C (.lst us)=some ts from e)
  exact⟨a,vs,h1,.inl h2,h3⟩
 |cell c=>
  obtain⟨a,vs,h1,h2,h3⟩:=R.li h (show liT C (.cell c)=some ts from e)
  exact⟨a,vs,h1,.inl h2,h3⟩
 |tup us=>
  cases e;unfold RT at h;obtain⟨a,vs,e,q,r⟩:=h
  exact⟨a,vs,e,.inr (SqT.msk (.of q)),r⟩
 |_=>cases e
theorem RT.int_inv{ρ:Rho}{i:Int}{v:V}(h:RT K M ρ (.int i) v):v=.int i:=by unfold RT at h;exact h
theorem RT.bl_inv{ρ:Rho}{b:Bool}{v:V}(h:RT K M ρ (.bl b) v):v=.bl b:=by unfold RT at h;exact h
theorem RT.non_inv{ρ:Rho}{v:V}(h:RT K M ρ .non v):v=.non:=by unfold RT at h;exact h
theorem RT.int{M:Hp}{ρ:Rho}{i:Int}:RT K M ρ (.int i) (.int i):=by unfold RT;rfl
theorem RT.bl{M:Hp}{ρ:Rho}{i:Bool}:RT K M ρ (.bl i) (.bl i):=by unfold RT;rfl
theorem RT.non{M:Hp}{ρ:Rho}:RT K M ρ .non .non:=by unfold RT;rfl
noncomputable def gI(f:Int->Int->T):T->T->Sto->Option (T×Sto)
 | .int i,.int j,C=>some (f i j,C)
 |_,_,_=>none
noncomputable def gIc(c:Int->Int->Bool)(f:Int->Int->T):T->T->Sto->Option (T×Sto)
 | .int i,.int j,C=>if c i j=true then some (f i j,C)else none
 |_,_,_=>none
theorem o_I(yv:∀i j M ρ,RT K M ρ (f i j) (g i j))(h:∃t1 t2,trV K σ [t1,t2] [x,y] (gI f t1 t2) H Q):
 ∃i j,x=.int i/\y=.int j/\Q (g i j) H:=by
 obtain⟨t1,t2,H₀,Z,ρ,τ,C,t,C',R,r,e,k⟩:=h;obtain⟨_,_,z,r1,r⟩:=r.cons_inv;cases z;obtain⟨_,_,z,r2,r⟩:=r.cons_inv;cases z;unfold gI at e;split at e
 ·cases e
  exact⟨_,_,r1.int_inv,r2.int_inv,k _ H ρ R (yv _ _ _ _) .refl⟩
 ·cases e
theorem aIc{c:Int->Int->Bool}(yv:∀i j M ρ,RT K M ρ (f i j) (g i j))(h:∃t1 t2,trV K σ [t1,t2] [x,y] (gIc c f t1 t2) H Q):
 ∃i j,x=.int i/\y=.int j/\c i j=true/\Q (g i j) H:=by
 obtain⟨t1,t2,H₀,Z,ρ,τ,C,t,C',R,r,e,k⟩:=h;obtain⟨_,_,z,r1,r⟩:=r.cons_inv;cases z;obtain⟨_,_,z,r2,r⟩:=r.cons_inv;cases z;unfold gIc at e;split at e
 ·split at e
  ·rename_i hc;cases e
   exact⟨_,_,r1.int_inv,r2.int_inv,hc,k _ H ρ R (yv _ _ _ _) .refl⟩
  ·cases e
 ·cases e
end
inductive Fl where
 |nx|bk|ct|rt (t:T)|ex (c:String)
abbrev FS:=TSt->Sto->Option (Fl×TSt×Sto)
abbrev XW:=String->St->Hp->Prop
def EndF(K:aO)(W:XW)(D:Ends)(Z:Addr->Prop)(ρ:Rho)(fl:Fl)(σ:St)(H:Hp):Prop:=match fl with
 | .nx=>D.nx σ H
 | .bk=>D.bk σ H
 | .ct=>D.ct σ H
 | .rt t=>∀v,RT K (mask H Z ρ) ρ t v->D.rt v H
 | .ex c=>W c σ H
noncomputable def trS(K:aO)(W:XW)(F:FS):TS:=fun D σ H=>∃H₀ Z ρ τ C fl ag C',Rel K H₀ Z ρ τ C σ H/\F τ C=some (fl,ag,C')/\
 ∀ah H' ae,Rel K H₀ Z ae ag C' ah H'->SStep Z H H' ρ ae->EndF K W D Z ae fl ah H'
abbrev FG:=T->Sto->TSt->Option TSt
def trG(K:aO)(g:FG):TG:=fun v σ H Q=>∃H₀ Z ρ τ C t ag,Rel K H₀ Z ρ τ C σ H/\RT K (mask H Z ρ) ρ t v/\g t C τ=some ag/\
 ∀ah,Rel K H₀ Z ρ ag C ah H->Q ah H
noncomputable def i0:FS:=fun τ C=>some (.nx,τ,C)
noncomputable def aBF:FS:=fun _ _=>none
noncomputable def fN(F G:FS):FS:=fun τ C=>(F τ C).bind fun r=>match r with
 | (.nx,aq,C1)=>G aq C1
 |r=>some r
noncomputable def fIf(c:FB)(F G:FS):FS:=fun τ C=>(c τ C).bind fun p=>if p.1=true then F τ p.2 else G τ p.2
def hV(f:FE):FS:=fun τ C=>(f τ C).map fun p=>(.rt p.1,τ,p.2)
noncomputable def mJ(f:FE):FS:=fun τ C=>(f τ C).map fun p=>(.nx,τ,p.2)
noncomputable def fZ(f:FE)(g:FG):FS:=fun τ C=>(f τ C).bind fun p=>(g p.1 p.2 τ).map fun ag=>(.nx,ag,p.2)
noncomputable def gN(i:Nat):FG:=fun t _ τ=>some (τ.set i (some t))
noncomputable def setAll:List Nat->List T->TSt->TSt
 |i::is,t::ts,τ=>setAll is ts (τ.set i (some t))
 |_,_,τ=>τ
def gU(is:List Nat):FG:=fun t C τ=>(sqT C t).bind fun ts=>if ts.length=is.length then some (setAll is ts τ)else none
section
variable {K:aO}{W:XW}{σ:St}{H:Hp}{D:Ends}
variable{F G:FS}{c:FB}{f:FE}{g:FG}{H₀ H1:Hp}{τ:TSt}{C:Sto}{af:Rho}{n:Nat}
theorem aHn(h:trS K W i0 D σ H):aG5 D σ H:=by
 obtain⟨H₀,Z,ρ,τ,C,fl,ag,C',R,e,k⟩:=h;cases e
 exact k σ H ρ R .refl
theorem aJo(h:trS K W aBF D σ H):False:=by
 obtain⟨H₀,Z,ρ,τ,C,fl,ag,C',R,e,k⟩:=h;cases e
theorem aN7(h:trS K W (fN F G) D σ H):tSeq (trS K W F) (trS K W G) D σ H:=by
 obtain⟨H₀,Z,ρ,τ,C,fl,ag,C',R,e,k⟩:=h;unfold fN at e;obtain⟨⟨f1,aq,C1⟩,e1,e⟩:=aK.mp e
 refine⟨H₀,Z,ρ,τ,C,f1,aq,C1,R,e1,fun cv H1 af R1 s1=>?_⟩
 cases f1 with
 |nx=>exact⟨H₀,Z,af,aq,C1,fl,ag,C',R1,e,fun bn H2 ar R2 s2=>k bn H2 ar R2 (s1.trans s2)⟩
 |bk=>cases e;exact k cv H1 af R1 s1
 |ct=>cases e;exact k cv H1 af R1 s1
 |rt t=>cases e;exact k cv H1 af R1 s1
 |ex c=>cases e;exact k cv H1 af R1 s1
theorem aOK(h:trS K W (fIf c F G) D σ H):tIfS (trT K c) (trS K W F) (trS K W G) D σ H:=by
 obtain⟨H₀,Z,ρ,τ,C,fl,ag,C',R,e,k⟩:=h;unfold fIf at e;obtain⟨⟨b,C1⟩,e1,e⟩:=aK.mp e
 refine⟨H₀,Z,ρ,τ,C,b,C1,R,e1,fun H1 af R1 s1=>?_⟩
 cases b with
 |true=>
  rw[if_pos rfl]at e|-
  exact⟨H₀,Z,af,τ,C1,fl,ag,C',R1,e,fun bn H2 ar R2 s2=>k bn H2 ar R2 (s1.ss.trans s2)⟩
 |false=>
  rw[if_neg (by simp)]at e|-
  exact⟨H₀,Z,af,τ,C1,fl,ag,C',R1,e,fun bn H2 ar R2 s2=>k bn H2 ar R2 (s1.ss.trans s2)⟩
theorem aOf(h:trS K W (hV f) D σ H):tRet (trE K f) D σ H:=by
 obtain⟨H₀,Z,ρ,τ,C,fl,ag,C',R,e,k⟩:=h;unfold hV at e;obtain⟨⟨t,C1⟩,e1,e⟩:=aL.mp e;cases e
 exact⟨H₀,Z,ρ,τ,C,t,_,R,e1,fun v H1 af R1 h1 s1=>k σ H1 af R1 s1.ss v h1⟩
theorem aMH(h:trS K W (mJ f) D σ H):aE6 (trE K f) D σ H:=by
 obtain⟨H₀,Z,ρ,τ,C,fl,ag,C',R,e,k⟩:=h;unfold mJ at e;obtain⟨⟨t,C1⟩,e1,e⟩:=aL.mp e;cases e
 exact⟨H₀,Z,ρ,τ,C,t,_,R,e1,fun v H1 af R1 h1 s1=>k σ H1 af R1 s1.ss⟩
theorem aB2(h:trS K W (fZ f g) D σ H):aDg (trE K f) (trG K g) D σ H:=by
 obtain⟨H₀,Z,ρ,τ,C,fl,ag,C',R,e,k⟩:=h;unfold fZ at e;obtain⟨⟨t,C1⟩,e1,e⟩:=aK.mp e;obtain⟨aq,e2,e⟩:=aL.mp e;cases e
 refine⟨H₀,Z,ρ,τ,C,t,_,R,e1,fun v H1 af R1 h1 s1=>?_⟩
 exact⟨H₀,Z,af,τ,_,t,_,R1,h1,e2,fun ah R'=>k ah H1 af R' s1.ss⟩
theorem wJ{i:Nat}{v:V}{Q:St->Hp->Prop}(h:trG K (gN i) v σ H Q):r9 i v σ H Q:=by
 obtain⟨H₀,Z,ρ,τ,C,t,ag,R,r,e,k⟩:=h;cases e
 exact k _ (R.set r)
theorem Rel.setAll{H₀:Hp}{Z:Addr->Prop}{ρ:Rho}{C:Sto}:∀{is:List Nat}{ts:List T}{vs:List V}{τ:TSt}{σ:St},Rel K H₀ Z ρ τ C σ H->RTs K (mask H Z ρ) ρ ts vs->ts.length=is.length->∀{Q:St->Hp->Prop},
 (∀ah,Rel K H₀ Z ρ (TL.setAll is ts τ) C ah H->Q ah H)->(is.foldr (fun i g=>aE2 (r9 i) g) aKE) vs σ H Q
 | [],[],vs,τ,σ,R,r,_,Q,k=>⟨r.nil_inv,k σ R⟩
 |i::is,t::ts,vs,τ,σ,R,r,hl,Q,k=>by
  obtain⟨v,r',rfl,h1,h2⟩:=r.cons_inv
  exact⟨v,r',rfl,Rel.setAll (is:=is) (ts:=ts) (R.set h1) h2 (by simpa using hl) k⟩
 | [],t::ts,_,_,_,_,_,hl,_,_=>by simp at hl
 |i::is,[],_,_,_,_,_,hl,_,_=>by simp at hl
open Classical in
def kK(P:Sto->Prop)(g:FG)(F:FS):List T->FS
 | [],τ,C=>some (.nx,τ,C)
 |t::ts,τ,C=>(g t C τ).bind fun aq=>(F aq C).bind fun r=>match r with
  | (.nx,ap,C2)=>if P C2 then kK P g F ts ap C2 else none
  | (.ct,ap,C2)=>if P C2 then kK P g F ts ap C2 else none
  | (.bk,ap,C2)=>some (.nx,ap,C2)
  | (.rt v,ap,C2)=>some (.rt v,ap,C2)
  | (.ex c,ap,C2)=>some (.ex c,ap,C2)
def stays(t:T)(ts:List T)(C:Sto):Prop:=match t with
 | .cell c=>lc C c=some ts
 |_=>True
def nK(f:FE)(g:FG)(F:FS):FS:=fun τ C=>(f τ C).bind fun p=>(liT p.2 p.1).bind fun ts=>kK (stays p.1 ts) g F ts τ p.2
theorem Rel.same{H₀:Hp}{Z:Addr->Prop}{ρ:Rho}{τ:TSt}{C:Sto}{H':Hp}(R:Rel K H₀ Z ρ τ C σ H)(s:Same H H'):Rel K H₀ Z ρ τ C σ H'/\Step H H' ρ ρ:=by
 have st:Step H H' ρ ρ:=.of0 s
 refine⟨⟨R.old.trans s,R.frs,R.nd,fun a z=>(R.zd a z).same s,fun i t e=>?_,fun c a e=>?_,R.len,R.lnt⟩,st⟩
 ·obtain⟨v,h1,h2⟩:=R.loc i t e
  exact⟨v,h1,h2.step st⟩
 ·obtain⟨ts,vs,ob,h1,h2,h4,h3⟩:=R.cel c a e
  exact⟨ts,vs,ob,h1,s _ _ h2,h4,h3.step st⟩
structure Wlk(K:aO)(J:It)(Z:Addr->Prop)(H1:Hp)(af:Rho)(ts:List T)(P:Sto->Prop):Prop where
 go:∀(i:Nat)(t:T)(H₀:Hp)(Z':Addr->Prop)(ae:Rho)(τ:TSt)(C:Sto)(σ:St)(H:Hp),ts[i]?=some t->Rel K H₀ Z' ae τ C σ H->Same (mask H1 Z af) (mask H Z' ae)->
  (∀(c:Nat)(a:Addr),af[c]?=some a->ae[c]?=some a)->(P C\/Same H1 H)->(∀a ob u,H1 a=some (.frz ob u)->H a=some (.frz ob u))->J.go i H/\∀x H',J.yld i H x H'->Same H H'/\RT K (mask H' Z' ae) ae t x
 stop:∀(H₀:Hp)(Z':Addr->Prop)(ae:Rho)(τ:TSt)(C:Sto)(σ:St)(H:Hp),Rel K H₀ Z' ae τ C σ H->Same (mask H1 Z af) (mask H Z' ae)->
  (∀(c:Nat)(a:Addr),af[c]?=some a->ae[c]?=some a)->(P C\/Same H1 H)->(∀a ob u,H1 a=some (.frz ob u)->H a=some (.frz ob u))->J.stop ts.length H
theorem v9{J:It}{Z:Addr->Prop}{ρ:Rho}{ag:TSt}{C':Sto}{P:Sto->Prop}{ts:List T}{fl:Fl}{cv:St}
 (R:Rel K H₀ Z ρ τ C cv H1)(hP:P C)(e:kK P g F ts τ C=some (fl,ag,C'))(w:Wlk K J Z H1 ρ ts P)
 (k:∀ah H' ae,Rel K H₀ Z ae ag C' ah H'->SStep Z H1 H' ρ ae->EndF K W D Z ae fl ah H'):
 ∃V:Nat->Nat->St->Hp->Prop,(∃m,V 0 m cv H1)/\∀i m σ H,V i m σ H->
  (J.stop i H/\D.nx σ H)\/(J.go i H/\∃N:St->Hp->Prop,(∀ah H',N ah H'->∃m',m'<m/\V (i+1) m' ah H')/\∀x H',J.yld i H x H'->trG K g x σ H' fun bn H2=>trS K W F {D with nx:=N,ct:=N,bk:=D.nx} bn H2):=by
 refine⟨fun i m σ H=>∃ae aq C1 rest,m=rest.length/\ts.drop i=rest/\i<=ts.length/\Rel K H₀ Z ae aq C1 σ H/\SStep Z H1 H ρ ae/\P C1/\kK P g F rest aq C1=some (fl,ag,C'),
  ⟨ts.length,ρ,τ,C,ts,rfl,rfl,dF _,R,.refl,hP,e⟩,?_⟩
 rintro i m σ H ⟨ae,aq,C1,rest,rfl,hd,hi,R1,s1,mj,e1⟩;cases rest with
 |nil=>
  have du:i=ts.length:=by
   have:ts.length<=i:=by simpa using hd
   lia
  subst du;cases e1
  exact .inl ⟨w.stop _ _ _ _ _ _ _ R1 (s1.msk _) s1.idx (.inl mj) s1.fz,k σ H ae R1 s1⟩
 |cons t rest=>
  have ht:ts[i]?=some t:=by
   have:=congrArg (fun l=>l[0]?) hd;simpa using this
  have bf:i<ts.length:=(aQ.mp ht).1;have jg:ts.drop (i+1)=rest:=by
   have:=congrArg aQJ hd;simpa using this
  obtain⟨g1,g2⟩:=w.go i t _ _ ae aq C1 σ H ht R1 (s1.msk _) s1.idx (.inl mj) s1.fz;unfold kK at e1;obtain⟨ap,eg,e1⟩:=aK.mp e1;obtain⟨⟨f3,dy,C3⟩,eF,e1⟩:=aK.mp e1
  refine .inr ⟨g1,fun ah H'=>∃az dy C3,Rel K H₀ Z az dy C3 ah H'/\SStep Z H1 H' ρ az/\P C3/\kK P g F rest dy C3=some (fl,ag,C'),?_,?_⟩
  ·rintro ah H' ⟨az,dy,C3,R3,s3,ug,e3⟩
   exact⟨rest.length,by simp,az,dy,C3,rest,rfl,jg,bf,R3,s3,ug,e3⟩
  ·intro x H' y;obtain⟨sm,rx⟩:=g2 x H' y;obtain⟨ur,ax⟩:=R1.same sm
   refine⟨H₀,Z,ae,aq,C1,t,ap,ur,rx,eg,fun bn R2=>?_⟩
   refine⟨H₀,Z,ae,ap,C1,f3,dy,C3,R2,eF,fun ce H3 az R3 s3=>?_⟩
   have qi:=(s1.trans ax.ss).trans s3;cases f3 with
   |nx=>
    dsimp only at e1;split at e1
    ·rename_i ug
     exact⟨az,dy,C3,R3,qi,ug,e1⟩
    ·cases e1
   |ct=>
    dsimp only at e1;split at e1
    ·rename_i ug
     exact⟨az,dy,C3,R3,qi,ug,e1⟩
    ·cases e1
   |bk=>
    cases e1
    exact k ce H3 az R3 qi
   |rt v=>
    cases e1
    exact k ce H3 az R3 qi
   |ex c=>
    cases e1
    exact k ce H3 az R3 qi
theorem pF{t:T}{ts:List T}(e:liT C t=some ts):stays t ts C:=by
 cases t with
 |cell c=>exact e
 |_=>trivial
theorem aBY{Z:Addr->Prop}{σ:St}{t:T}{ts:List T}{a:Addr}(R1:Rel K H₀ Z af τ C σ H1)(h1:RT K (mask H1 Z af) af t (.ref a))(e2:liT C t=some ts):
 Wlk K (Itl K a) Z H1 af ts (stays t ts):=by
 have there:∀{H₀:Hp}{Z':Addr->Prop}{ae:Rho}{ag:TSt}{C':Sto}{σ:St}{H:Hp},Rel K H₀ Z' ae ag C' σ H->Same (mask H1 Z af) (mask H Z' ae)->(∀(c:Nat)(a:Addr),af[c]?=some a->ae[c]?=some a)->(stays t ts C'\/Same H1 H)->
  ∃ws,SqL K H a ws/\RTs K (mask H Z' ae) ae ts ws:=by
  intro H₀ Z' ae ag C' σ H R' sm ix ax;rcases ax with ax|ax
  ·have h2:=h1.mono sm ix;have e3:liT C' t=some ts:=by
    cases t with
    |cell c=>exact ax
    |lst us=>exact e2
    |_=>cases e2
   obtain⟨a',ws,gy,q',r'⟩:=R'.li h2 e3;cases gy
   exact⟨ws,q',r'⟩
  ·obtain⟨a',ws,gy,q',r'⟩:=R1.li h1 e2;cases gy
   exact⟨ws,ax.seq q',r'.mono sm ix⟩
 refine⟨fun i t' H₀ Z' ae ag C' σ H ht R' sm ix ax _=>?_,fun H₀ Z' ae ag C' σ H R' sm ix ax _=>?_⟩
 ·obtain⟨ws,q',r'⟩:=there R' sm ix ax;obtain⟨x,hx,rx⟩:=r'.get ht
  refine⟨⟨ws,x,q',hx⟩,fun y H' ⟨hy,z⟩=>?_⟩
  subst hy;have:=z ws q';rw[hx]at this;cases this
  exact⟨.refl _,rx⟩
 ·obtain⟨ws,q',r'⟩:=there R' sm ix ax
  exact⟨ws,q',by rw[r'.length];exact bF _⟩
noncomputable def vT(lo:Int)(n:Nat):List T:=(bI n).map fun(i:Nat)=>T.int (lo+(i:Int))
theorem uA{Z:Addr->Prop}{lo:Int}:Wlk K (Itr lo n) Z H1 af (vT lo n) (fun _=>True):=by
 refine⟨fun i t' H₀ Z' ae ag C' σ H ht R' sm ix ax _=>?_,fun H₀ Z' ae ag C' σ H R' sm ix ax _=>?_⟩
 ·unfold vT at ht;have hi:i<n:=by
   have:=(aQ.mp ht).1;simpa using this
  rw[bH,cQ hi]at ht;cases ht
  refine⟨hi,fun x H' ⟨h1,h2⟩=>?_⟩
  subst h1;rw[h2];exact⟨.refl _,.int⟩
 ·show n<=_;simp[vT]
theorem aN6(h:trS K W (nK f g F) D σ H):aIZ (aIA K (trE K f)) (trG K g) (trS K W F) D σ H:=by
 obtain⟨H₀,Z,ρ,τ,C,fl,ag,C',R,e,k⟩:=h;unfold nK at e;obtain⟨⟨t,C1⟩,e1,e⟩:=aK.mp e;obtain⟨ts,e2,e⟩:=aK.mp e
 refine⟨H₀,Z,ρ,τ,C,t,C1,R,e1,fun v H1 af R1 h1 s1=>?_⟩
 obtain⟨a,vs,ev,q,r⟩:=R1.li h1 e2;subst ev
 exact⟨a,rfl,⟨vs,q⟩,v9 R1 (pF e2) e (aBY R1 h1 e2) fun ah H' ae R' s'=>k ah H' ae R' (s1.ss.trans s')⟩
def fForR(lo:Int)(n:Nat)(g:FG)(F:FS):FS:=kK (fun _=>True) g F (vT lo n)
def mE(f:FE)(g:FG)(F:FS):FS:=fun τ C=>(f τ C).bind fun p=>match p.1 with
 | .int j=>if -(2^62)<=j/\j<2^62 then fForR 0 j.toNat g F τ p.2 else none
 |_=>none
def p5(f1 f2:FE)(g:FG)(F:FS):FS:=fun τ C=>(f1 τ C).bind fun p=>(f2 τ p.2).bind fun q=>match p.1,q.1 with
 | .int i,.int j=>if -(2^62)<=i/\i<2^62/\ -(2^62)<=j/\j<2^62 then fForR i (j - i).toNat g F τ q.2 else none
 |_,_=>none
theorem aKW(h:trS K W (mE f g F) D σ H):aIZ (aHV (trA K (eX f fH))) (trG K g) (trS K W F) D σ H:=by
 obtain⟨H₀,Z,ρ,τ,C,fl,ag,C',R,e,k⟩:=h;unfold mE at e;obtain⟨⟨t,C1⟩,e1,e⟩:=aK.mp e
 refine⟨H₀,Z,ρ,τ,C,[t],C1,R,by simp[eX,fH,e1],fun vs H1 af R1 h1 s1=>?_⟩
 obtain⟨v,r,rfl,q1,q2⟩:=h1.cons_inv;rw[q2.nil_inv];dsimp only at e;split at e
 ·split at e
  ·rename_i hj
   exact⟨_,by rw[q1.int_inv],hj.1,hj.2,v9 (P:=fun _=>True) R1 trivial e uA fun ah H' ae R' s'=>k ah H' ae R' (s1.ss.trans s')⟩
  ·cases e
 ·cases e
theorem aJV{f1 f2:FE}(h:trS K W (p5 f1 f2 g F) D σ H):aIZ (iRng2 (trA K (eX f1 (eX f2 fH)))) (trG K g) (trS K W F) D σ H:=by
 obtain⟨H₀,Z,ρ,τ,C,fl,ag,C',R,e,k⟩:=h;unfold p5 at e;obtain⟨⟨t,C1⟩,e1,e⟩:=aK.mp e;obtain⟨⟨u,C2⟩,e2,e⟩:=aK.mp e
 refine⟨H₀,Z,ρ,τ,C,[t,u],C2,R,by simp[eX,fH,e1,e2],fun vs H1 af R1 h1 s1=>?_⟩
 obtain⟨v,r,rfl,q1,q2⟩:=h1.cons_inv;obtain⟨v',r',rfl,q3,q4⟩:=q2.cons_inv;rw[q4.nil_inv];dsimp only at e;split at e
 ·split at e
  ·rename_i hj
   exact⟨_,_,by rw[q1.int_inv,q3.int_inv],hj,v9 (P:=fun _=>True) R1 trivial e uA fun ah H' ae R' s'=>k ah H' ae R' (s1.ss.trans s')⟩
  ·cases e
 ·cases e
def lD(c:FB)(F:FS):Nat->FS
 |0,_,_=>none
 |n+1,τ,C=>(c τ C).bind fun p=>if p.1=true then(F τ p.2).bind fun r=>match r with
  | (.nx,ap,C2)=>lD c F n ap C2
  | (.ct,ap,C2)=>lD c F n ap C2
  | (.bk,ap,C2)=>some (.nx,ap,C2)
  | (.rt v,ap,C2)=>some (.rt v,ap,C2)
  | (.ex v,ap,C2)=>some (.ex v,ap,C2)
  else some (.nx,τ,p.2)
theorem aKp(h:trS K W (lD c F n) D σ H):tWhile (trT K c) (trS K W F) D σ H:=by
 obtain⟨H₀,Z,ρ,τ,C,fl,ag,C',R,e,k⟩:=h
 refine⟨fun m cv H1=>∃af aq C1,Rel K H₀ Z af aq C1 cv H1/\SStep Z H H1 ρ af/\lD c F m aq C1=some (fl,ag,C'),⟨n,ρ,τ,C,R,.refl,e⟩,?_⟩
 rintro m cv H1 ⟨af,aq,C1,R1,s1,e1⟩;cases m with
 |zero=>cases e1
 |succ m=>
  unfold lD at e1;obtain⟨⟨b,C2⟩,e2,e1⟩:=aK.mp e1
  refine⟨H₀,Z,af,aq,C1,b,C2,R1,e2,fun H2 ar R2 s2=>?_⟩
  cases b with
  |false=>
   rw[if_neg (by simp)]at e1|-;cases e1
   exact k cv H2 ar R2 (s1.trans s2.ss)
  |true=>
   rw[if_pos rfl]at e1|-;obtain⟨⟨f3,dy,C3⟩,e3,e1⟩:=aK.mp e1
   refine⟨fun ah H'=>∃az dy C3,Rel K H₀ Z az dy C3 ah H'/\SStep Z H H' ρ az/\lD c F m dy C3=some (fl,ag,C'),fun ah H' z=>⟨m,d8 _,z⟩,?_⟩
   refine⟨H₀,Z,ar,aq,C2,f3,dy,C3,R2,e3,fun wd H4 jm R4 s4=>?_⟩
   cases f3 with
   |nx=>exact⟨jm,dy,C3,R4,(s1.trans s2.ss).trans s4,e1⟩
   |ct=>exact⟨jm,dy,C3,R4,(s1.trans s2.ss).trans s4,e1⟩
   |bk=>cases e1;exact k wd H4 jm R4 ((s1.trans s2.ss).trans s4)
   |rt v=>cases e1;exact k wd H4 jm R4 ((s1.trans s2.ss).trans s4)
   |ex c=>cases e1;exact k wd H4 jm R4 ((s1.trans s2.ss).trans s4)
end
section
variable {K:aO}{σ:St}{H:Hp}{Q:VK}
variable{M:Hp}{x y:V}{f fa fb fo:FE}{xs:List V}{c d:FB}{D:Ends}
theorem aGv{ρ:Rho}{ts:List T}{vs:List V}{i:Int}{t:T}(h:RTs K M ρ ts vs)(e:atI ts i=some t):∃v,atI vs i=some v/\RT K M ρ t v:=by
 unfold atI at e|-;rw[h.length];cases q:ixN ts.length i with
 |none=>rw[q]at e;cases e
 |some j=>
  rw[q]at e
  exact h.get e
def gIx(t1 t2:T)(C:Sto):Option (T×Sto):=match t2 with
 | .int i=>(sqT C t1).bind fun ts=>(atI ts i).map fun t=>(t,C)
 |_=>none
theorem aOM(h:∃t1 t2,trV K σ [t1,t2] [x,y] (gIx t1 t2) H Q):rIx K x y H Q:=by
 obtain⟨t1,t2,H₀,Z,ρ,τ,C,t,C',R,r,e,k⟩:=h;obtain⟨_,_,z,r1,r⟩:=r.cons_inv;cases z;obtain⟨_,_,z,r2,r⟩:=r.cons_inv;cases z;unfold gIx at e;split at e
 ·obtain⟨ts,e1,e⟩:=aK.mp e;obtain⟨u,e2,e⟩:=aL.mp e;cases e;obtain⟨a,vs,ev,q,rr⟩:=R.sq r1 e1;obtain⟨v,h1,h2⟩:=aGv rr e2;have fin:=k v H ρ R h2 .refl;rcases q with q|q
  ·exact .inl ⟨a,vs,_,v,ev,r2.int_inv,q,h1,fin⟩
  ·exact .inr (.inl ⟨a,vs,_,v,ev,r2.int_inv,q,h1,fin⟩)
 ·cases e
abbrev FO:=TSt->Sto->Option (Option Int×Sto)
noncomputable def nQ:FO:=fun _ C=>some (none,C)
noncomputable def tR(f:FE):FO:=fun τ C=>(f τ C).bind fun p=>match p.1 with
 | .int i=>some (some i,p.2)
 |_=>none
noncomputable def trO(K:aO)(f:FO):TO:=fun σ H Q=>∃H₀ Z ρ τ C o C',Rel K H₀ Z ρ τ C σ H/\f τ C=some (o,C')/\
 ∀H' ae,Rel K H₀ Z ae τ C' σ H'->Step H H' ρ ae->Q o H'
theorem aGJ{Q:Option Int->Hp->Prop}(h:trO K nQ σ H Q):tNoPart σ H Q:=by
 obtain⟨H₀,Z,ρ,τ,C,o,C',R,e,k⟩:=h;cases e
 exact k H ρ R .refl
theorem aL1{Q:Option Int->Hp->Prop}(h:trO K (tR f) σ H Q):tPart (trE K f) σ H Q:=by
 obtain⟨H₀,Z,ρ,τ,C,o,C',R,e,k⟩:=h;unfold tR at e;obtain⟨⟨t,C1⟩,e1,e⟩:=aK.mp e;dsimp only at e;split at e
 ·cases e
  exact⟨H₀,Z,ρ,τ,C,_,_,R,e1,fun v H1 af R1 h1 s1=>⟨_,h1.int_inv,k H1 af R1 s1⟩⟩
 ·cases e
def aDv(xs:List T)(lo hi:Option Int):List T:=(xs.drop (HT.sIx xs.length 0 lo)).take (HT.sIx xs.length xs.length hi - HT.sIx xs.length 0 lo)
theorem RTs.cut{ρ:Rho}{ts:List T}{vs:List V}(h:RTs K M ρ ts vs)(lo hi:Option Int):RTs K M ρ (aDv ts lo hi) (aFp vs lo hi):=by
 unfold aDv aFp;rw[h.length]
 exact(h.drop _).take _
def fSl(f:FE)(lo hi:FO):FN:=fun τ C=>(f τ C).bind fun p=>(lo τ p.2).bind fun q=>(hi τ q.2).bind fun r=>(liT r.2 p.1).map fun ts=>(aDv ts q.1 r.1,r.2)
theorem aOL{lo hi:FO}(h:trN K (fSl f lo hi) σ H Q):tSl (rSlL K) (trE K f) (trO K lo) (trO K hi) σ H Q:=by
 obtain⟨H₀,Z,ρ,τ,C,ts,C',R,e,k⟩:=h;unfold fSl at e;obtain⟨⟨t,C1⟩,e1,e⟩:=aK.mp e;obtain⟨⟨l,C2⟩,e2,e⟩:=aK.mp e;obtain⟨⟨u,C3⟩,e3,e⟩:=aK.mp e;obtain⟨us,e4,e⟩:=aL.mp e;cases e
 refine⟨H₀,Z,ρ,τ,C,t,C1,R,e1,fun v H1 af R1 h1 s1=>?_⟩
 refine⟨H₀,Z,af,τ,C1,l,C2,R1,e2,fun H2 ar R2 s2=>?_⟩
 refine⟨H₀,Z,ar,τ,C2,u,_,R2,e3,fun H3 az R3 s3=>?_⟩
 obtain⟨a,vs,ev,q,r⟩:=R3.li ((h1.step s2).step s3) e4
 exact⟨a,vs,ev,q,fun p hp=>k p H3 az _ R3 hp (r.cut l u) ((s1.trans s2).trans s3)⟩
def rCatL(K:aO):R2:=fun x y H Q=>∃l b xs zs,x=.ref l/\y=.ref b/\SqL K H l xs/\SqL K H b zs/\xs.length+zs.length<=lim/\∀p,H p=none->Q (.ref p) (upd H p (.lst (xs++zs)))
def aFj(t1 t2:T)(C:Sto):Option (List T):=(liT C t1).bind fun ts=>(liT C t2).bind fun us=>if ts.length+us.length<=lim then some (ts++us)else none
theorem aNS(h:∃t1 t2,trW K σ [t1,t2] [x,y] (aFj t1 t2) H Q):rCatL K x y H Q:=by
 obtain⟨t1,t2,H₀,Z,ρ,τ,C,us,R,r,e,k⟩:=h;obtain⟨_,_,z,r1,r⟩:=r.cons_inv;cases z;obtain⟨_,_,z,r2,r⟩:=r.cons_inv;cases z;unfold aFj at e;obtain⟨ts,e1,e⟩:=aK.mp e;obtain⟨ws,e2,e⟩:=aK.mp e;split at e
 ·rename_i hl;cases e;obtain⟨a,vs,ea,qa,ra⟩:=R.li r1 e1;obtain⟨b,zs,eb,qb,rb⟩:=R.li r2 e2
  exact⟨a,b,vs,zs,ea,eb,qa,qb,by rw[ra.length,rb.length];exact hl,fun p hp=>k p H ρ _ R hp (ra.append rb) .refl⟩
 ·cases e
def gJ(fa:FN):FN:=vD fa fun ts _=>if ts.length<=lim then some ts else none
theorem aLP{fa:FN}(hz:lim<=sizeLine)(h:trN K (gJ fa) σ H Q):tLst (trA K fa) σ H Q:=by
 obtain⟨H₀,Z,ρ,τ,C,ts,C',R,e,k⟩:=aHh h
 refine⟨H₀,Z,ρ,τ,C,ts,C',R,e,fun vs H1 af R1 h1 s1=>?_⟩
 obtain⟨us,i',Z',ae,ag,C1,ws,R',r,e,k⟩:=k vs H1 af R1 h1 s1;split at e
 ·rename_i hl;cases e
  exact⟨by rw[r.length];exact cB hl hz,fun p hp=>k p H1 ae _ R' hp r .refl⟩
 ·cases e
def aEw(ts:List T)(C:Sto):Option (List T):=match ts with
 | [t]=>sqT C t
 |_=>none
theorem aNe(h:∃ts,trW K σ ts xs (aEw ts) H Q):∃p ys,xs=[.ref p]/\(SqL K H p ys\/SqT K H p ys)/\∀l,H l=none->Q (.ref l) (upd H l (.lst ys)):=by
 obtain⟨ts,H₀,Z,ρ,τ,C,us,R,r,e,k⟩:=h;unfold aEw at e;split at e
 ·obtain⟨v,_,rfl,r1,r⟩:=r.cons_inv;rw[r.nil_inv];obtain⟨a,vs,ea,qa,ra⟩:=R.sq r1 e
  exact⟨a,vs,by rw[ea],qa,fun p hp=>k p H ρ _ R hp ra .refl⟩
 ·cases e
def aF8(ts:List T)(C:Sto):Option (T×Sto):=match ts with
 | [t]=>(sqT C t).map fun us=>(.int us.length,C)
 |_=>none
theorem aNT(h:∃ts,trV K σ ts xs (aF8 ts) H Q):∃p ys,xs=[.ref p]/\(SqL K H p ys\/SqT K H p ys)/\Q (.int ys.length) H:=by
 obtain⟨ts,H₀,Z,ρ,τ,C,t,C',R,r,e,k⟩:=h;unfold aF8 at e;split at e
 ·obtain⟨v,_,rfl,r1,r⟩:=r.cons_inv;rw[r.nil_inv];obtain⟨us,e1,e⟩:=aL.mp e;cases e;obtain⟨a,vs,ea,qa,ra⟩:=R.sq r1 e1
  exact⟨a,vs,by rw[ea],qa,k _ H ρ R (by rw[ra.length];exact .int) .refl⟩
 ·cases e
noncomputable def ints?:List T->Option (List Int)
 | []=>some []
 | .int i::ts=>(ints? ts).map (i:: ·)
 |_::_=>none
noncomputable def bls?:List T->Option (List Bool)
 | []=>some []
 | .bl i::ts=>(bls? ts).map (i:: ·)
 |_::_=>none
theorem aAc{ρ:Rho}:∀{ts:List T}{vs:List V}{ns:List Int},RTs K M ρ ts vs->ints? ts=some ns->vs=ns.map V.int:=by
 intro ts;induction ts with
 |nil=>intro _ _ r e;cases e;rw[r.nil_inv];rfl
 |cons t ts ih=>
  intro _ _ r e;cases t with
  |int i=>
   obtain⟨v,vs,rfl,r1,r⟩:=r.cons_inv;obtain⟨ns,e1,rfl⟩:=aL.mp e;rw[aM,r1.int_inv,ih r e1]
  |_=>cases e
theorem aHb{ρ:Rho}:∀{ts:List T}{vs:List V}{ns:List Bool},RTs K M ρ ts vs->bls? ts=some ns->vs=ns.map V.bl:=by
 intro ts;induction ts with
 |nil=>intro _ _ r e;cases e;rw[r.nil_inv];rfl
 |cons t ts ih=>
  intro _ _ r e;cases t with
  |bl i=>
   obtain⟨v,vs,rfl,r1,r⟩:=r.cons_inv;obtain⟨ns,e1,rfl⟩:=aL.mp e;rw[aM,r1.bl_inv,ih r e1]
  |_=>cases e
theorem p8(ns:List Int):ints? (ns.map T.int)=some ns:=by
 induction ns with
 |nil=>rfl
 |cons n ns ih=>simp[ints?,ih]
theorem aHw(ns:List Bool):bls? (ns.map T.bl)=some ns:=by
 induction ns with
 |nil=>rfl
 |cons n ns ih=>simp[bls?,ih]
def wO(c:List Int->Bool)(f:List Int->Int)(ts:List T)(C:Sto):Option (T×Sto):=match ts with
 | [t]=>(liT C t).bind fun us=>(ints? us).bind fun ns=>if c ns=true then some (.int (f ns),C)else none
 |_=>none
def aCW(K:aO)(c:List Int->Bool)(f:List Int->Int):List V->Hp->VK->Prop:=fun xs H Q=>∃p ns,xs=[.ref p]/\SqL K H p (ns.map V.int)/\c ns=true/\Q (.int (f ns)) H
theorem aDU{c:List Int->Bool}{f:List Int->Int}(h:∃ts,trV K σ ts xs (wO c f ts) H Q):aCW K c f xs H Q:=by
 obtain⟨ts,H₀,Z,ρ,τ,C,t,C',R,r,e,k⟩:=h;unfold wO at e;split at e
 ·obtain⟨v,_,rfl,r1,r⟩:=r.cons_inv;rw[r.nil_inv];obtain⟨us,e1,e⟩:=aK.mp e;obtain⟨ns,e2,e⟩:=aK.mp e;split at e
  ·rename_i hc;cases e;obtain⟨a,vs,ea,qa,ra⟩:=R.li r1 e1;have:=aAc ra e2;subst this
   exact⟨a,ns,by rw[ea],qa,hc,k _ H ρ R .int .refl⟩
  ·cases e
 ·cases e
def aI3(f:List Bool->Bool)(ts:List T)(C:Sto):Option (T×Sto):=match ts with
 | [t]=>(liT C t).bind fun us=>(bls? us).map fun ns=>(.bl (f ns),C)
 |_=>none
def rBls(K:aO)(f:List Bool->Bool):List V->Hp->VK->Prop:=fun xs H Q=>∃p ns,xs=[.ref p]/\SqL K H p (ns.map V.bl)/\Q (.bl (f ns)) H
theorem aOB{f:List Bool->Bool}(h:∃ts,trV K σ ts xs (aI3 f ts) H Q):rBls K f xs H Q:=by
 obtain⟨ts,H₀,Z,ρ,τ,C,t,C',R,r,e,k⟩:=h;unfold aI3 at e;split at e
 ·obtain⟨v,_,rfl,r1,r⟩:=r.cons_inv;rw[r.nil_inv];obtain⟨us,e1,e⟩:=aK.mp e;obtain⟨ns,e2,e⟩:=aL.mp e;cases e;obtain⟨a,vs,ea,qa,ra⟩:=R.li r1 e1;have:=aHb ra e2;subst this
  exact⟨a,ns,by rw[ea],qa,k _ H ρ R .bl .refl⟩
 ·cases e
noncomputable def gI2(f:Int->Int->Int)(ts:List T)(C:Sto):Option (T×Sto):=match ts with
 | [.int i,.int j]=>some (.int (f i j),C)
 |_=>none
theorem aOt{f:Int->Int->Int}(h:∃ts,trV K σ ts xs (gI2 f ts) H Q):∃i j,xs=[.int i,.int j]/\Q (.int (f i j)) H:=by
 obtain⟨ts,H₀,Z,ρ,τ,C,t,C',R,r,e,k⟩:=h;unfold gI2 at e;split at e
 ·obtain⟨v,_,rfl,r1,r⟩:=r.cons_inv;obtain⟨w,_,rfl,r2,r⟩:=r.cons_inv;rw[r.nil_inv,r1.int_inv,r2.int_inv];cases e
  exact⟨_,_,rfl,k _ H ρ R .int .refl⟩
 ·cases e
def aMt(C:Sto):T->Option Bool
 | .non=>some false
 | .bl b=>some b
 | .int i=>some (i !=0)
 | .lst ts=>some (!ts.isEmpty)
 | .tup ts=>some (!ts.isEmpty)
 | .cell c=>(lc C c).map fun ts=> !ts.isEmpty
 | .str _=>none
 | .exc _=>none
def nB(f:FE):FB:=fun τ C=>(f τ C).bind fun p=>(aMt p.2 p.1).map fun b=>(b,p.2)
theorem rJ{ρ:Rho}{ts:List T}{vs:List V}(h:RTs K M ρ ts vs):vs.isEmpty=ts.isEmpty:=by
 cases ts with
 |nil=>rw[h.nil_inv];rfl
 |cons t ts=>obtain⟨v,r,rfl,_⟩:=h.cons_inv;rfl
theorem aOg{Q:Bool->Hp->Prop}(h:trT K (nB f) σ H Q):trE K f σ H fun x H1=>∃k,aNa K x H1 k/\Q k H1:=by
 obtain⟨H₀,Z,ρ,τ,C,b,C',R,e,k⟩:=h;unfold nB at e;obtain⟨⟨t,C1⟩,e1,e⟩:=aK.mp e;obtain⟨b',e2,e⟩:=aL.mp e;cases e
 refine⟨H₀,Z,ρ,τ,C,t,_,R,e1,fun v H1 af R1 h1 s1=>⟨b,?_,k H1 af R1 s1⟩⟩
 dsimp only at e2 R1;cases t with
 |non=>rw[h1.non_inv];cases e2;rfl
 |bl c=>rw[h1.bl_inv];cases e2;rfl
 |int i=>rw[h1.int_inv];cases e2;rfl
 |str x=>cases e2
 |exc x=>cases e2
 |lst ts=>
  obtain⟨a,vs,ea,qa,ra⟩:=R1.li h1 rfl;rw[ea];cases e2
  exact .inl ⟨vs,qa,by rw[rJ ra]⟩
 |tup ts=>
  unfold RT at h1;obtain⟨a,vs,ea,qa,ra⟩:=h1;rw[ea];cases e2
  exact .inr (.inl ⟨vs,SqT.msk (.of qa),by rw[rJ ra]⟩)
 |cell c=>
  obtain⟨ts,e3,e2⟩:=aL.mp e2;obtain⟨a,vs,ea,qa,ra⟩:=R1.li h1 e3;rw[ea];cases e2
  exact .inl ⟨vs,qa,by rw[rJ ra]⟩
noncomputable def iH(f:FE):FB:=fun τ C=>(f τ C).bind fun p=>match p.1 with
 | .bl b=>some (b,p.2)
 |_=>none
theorem aIk{te:TE}{Q:Bool->Hp->Prop}(hi:∀σ H Q,trE K f σ H Q->te σ H Q)(h:trT K (iH f) σ H Q):tTest te σ H Q:=by
 obtain⟨H₀,Z,ρ,τ,C,b,C',R,e,k⟩:=h;unfold iH at e;obtain⟨⟨t,C1⟩,e1,e⟩:=aK.mp e;dsimp only at e;split at e
 ·cases e
  exact hi _ _ _ ⟨H₀,Z,ρ,τ,C,_,_,R,e1,fun v H1 af R1 h1 s1=>⟨_,h1.bl_inv,k H1 af R1 s1⟩⟩
 ·cases e
noncomputable def qY(c d:FB):FB:=fun τ C=>(c τ C).bind fun p=>if p.1=true then d τ p.2 else some (false,p.2)
noncomputable def oK(c d:FB):FB:=fun τ C=>(c τ C).bind fun p=>if p.1=true then some (true,p.2)else d τ p.2
noncomputable def lN(c:FB):FB:=fun τ C=>(c τ C).map fun p=>(!p.1,p.2)
theorem aNK{Q:Bool->Hp->Prop}(h:trT K (qY c d) σ H Q):tAnd (trT K c) (trT K d) σ H Q:=by
 obtain⟨H₀,Z,ρ,τ,C,b,C',R,e,k⟩:=h;unfold qY at e;obtain⟨⟨b1,C1⟩,e1,e⟩:=aK.mp e
 refine⟨H₀,Z,ρ,τ,C,b1,C1,R,e1,fun H1 af R1 s1=>?_⟩
 cases b1 with
 |true=>
  rw[if_pos rfl]at e|-
  exact⟨H₀,Z,af,τ,C1,b,C',R1,e,fun H2 ar R2 s2=>k H2 ar R2 (s1.trans s2)⟩
 |false=>
  rw[if_neg (by simp)]at e|-;cases e
  exact k H1 af R1 s1
theorem aOe{Q:Bool->Hp->Prop}(h:trT K (oK c d) σ H Q):tOr (trT K c) (trT K d) σ H Q:=by
 obtain⟨H₀,Z,ρ,τ,C,b,C',R,e,k⟩:=h;unfold oK at e;obtain⟨⟨b1,C1⟩,e1,e⟩:=aK.mp e
 refine⟨H₀,Z,ρ,τ,C,b1,C1,R,e1,fun H1 af R1 s1=>?_⟩
 cases b1 with
 |false=>
  rw[if_neg (by simp)]at e|-
  exact⟨H₀,Z,af,τ,C1,b,C',R1,e,fun H2 ar R2 s2=>k H2 ar R2 (s1.trans s2)⟩
 |true=>
  rw[if_pos rfl]at e|-;cases e
  exact k H1 af R1 s1
theorem aMy{Q:Bool->Hp->Prop}(h:trT K (lN c) σ H Q):tNot (trT K c) σ H Q:=by
 obtain⟨H₀,Z,ρ,τ,C,b,C',R,e,k⟩:=h;unfold lN at e;obtain⟨⟨b1,C1⟩,e1,e⟩:=aL.mp e;cases e
 exact⟨H₀,Z,ρ,τ,C,b1,_,R,e1,fun H1 af R1 s1=>k H1 af R1 s1⟩
noncomputable def yJ(fa fb:FE):FE:=fun τ C=>(fa τ C).bind fun p=>match p.1 with
 | .bl true=>fb τ p.2
 | .bl false=>some (.bl false,p.2)
 |_=>none
noncomputable def aAm(fa:FE):FE:=fun τ C=>(fa τ C).bind fun p=>match p.1 with
 | .bl b=>some (.bl (!b),p.2)
 |_=>none
theorem aLV(h:trE K (yJ fa fb) σ H Q):tAndV (trE K fa) (trE K fb) σ H Q:=by
 obtain⟨H₀,Z,ρ,τ,C,t,C',R,e,k⟩:=h;unfold yJ at e;obtain⟨⟨t1,C1⟩,e1,e⟩:=aK.mp e
 refine⟨H₀,Z,ρ,τ,C,t1,C1,R,e1,fun v H1 af R1 h1 s1=>?_⟩
 dsimp only at e;split at e
 ·refine⟨true,h1.bl_inv,?_⟩
  rw[if_pos rfl]
  exact⟨H₀,Z,af,τ,C1,t,C',R1,e,fun v H2 ar R2 h2 s2=>k v H2 ar R2 h2 (s1.trans s2)⟩
 ·refine⟨false,h1.bl_inv,?_⟩
  rw[if_neg (by simp)];cases e
  exact k _ H1 af R1 .bl s1
 ·cases e
theorem aMi(h:trE K (aAm fa) σ H Q):tNotV (trE K fa) σ H Q:=by
 obtain⟨H₀,Z,ρ,τ,C,t,C',R,e,k⟩:=h;unfold aAm at e;obtain⟨⟨t1,C1⟩,e1,e⟩:=aK.mp e
 refine⟨H₀,Z,ρ,τ,C,t1,C1,R,e1,fun v H1 af R1 h1 s1=>?_⟩
 dsimp only at e;split at e
 ·cases e
  exact⟨_,h1.bl_inv,k _ H1 af R1 .bl s1⟩
 ·cases e
noncomputable def aF0(c:FB)(fa fb:FE):FE:=fun τ C=>(c τ C).bind fun p=>if p.1=true then fa τ p.2 else fb τ p.2
theorem aOb(h:trE K (aF0 c fa fb) σ H Q):tIf (trT K c) (trE K fa) (trE K fb) σ H Q:=by
 obtain⟨H₀,Z,ρ,τ,C,t,C',R,e,k⟩:=h;unfold aF0 at e;obtain⟨⟨b1,C1⟩,e1,e⟩:=aK.mp e
 refine⟨H₀,Z,ρ,τ,C,b1,C1,R,e1,fun H1 af R1 s1=>?_⟩
 cases b1 with
 |false=>
  rw[if_neg (by simp)]at e|-
  exact⟨H₀,Z,af,τ,C1,t,C',R1,e,fun v H2 ar R2 h2 s2=>k v H2 ar R2 h2 (s1.trans s2)⟩
 |true=>
  rw[if_pos rfl]at e|-
  exact⟨H₀,Z,af,τ,C1,t,C',R1,e,fun v H2 ar R2 h2 s2=>k v H2 ar R2 h2 (s1.trans s2)⟩
noncomputable def uS(fa fb fc:FE)(p q:Int->Int->Bool):FE:=fun τ C=>(fa τ C).bind fun x=>(fb τ x.2).bind fun y=>match x.1,y.1 with
 | .int i,.int j=>if p i j=true then(fc τ y.2).bind fun z=>match z.1 with
  | .int l=>some (.bl (q j l),z.2)
  |_=>none
   else some (.bl false,y.2)
 |_,_=>none
theorem aJU{fc:FE}{p q:Int->Int->Bool}(h:trE K (uS fa fb fc p q) σ H Q):
 tChain (fun x y H Q=>∃i j,x=.int i/\y=.int j/\Q (.bl (p i j)) H) (fun x y H Q=>∃i j,x=.int i/\y=.int j/\Q (.bl (q i j)) H) (trE K fa) (trE K fb) (trE K fc) σ H Q:=by
 obtain⟨H₀,Z,ρ,τ,C,t,C',R,e,k⟩:=h;unfold uS at e;obtain⟨⟨t1,C1⟩,e1,e⟩:=aK.mp e;obtain⟨⟨t2,C2⟩,e2,e⟩:=aK.mp e
 refine⟨H₀,Z,ρ,τ,C,t1,C1,R,e1,fun x H1 af R1 h1 s1=>?_⟩
 refine⟨H₀,Z,af,τ,C1,t2,C2,R1,e2,fun y H2 ar R2 h2 s2=>?_⟩
 dsimp only at e;split at e
 ·refine⟨_,_,h1.int_inv,h2.int_inv,_,rfl,?_⟩
  split at e
  ·rename_i hp;rw[if_pos hp];obtain⟨⟨t3,C3⟩,e3,e⟩:=aK.mp e
   refine⟨H₀,Z,ar,τ,C2,t3,C3,R2,e3,fun z H3 az R3 h3 s3=>?_⟩
   dsimp only at e;split at e
   ·cases e
    exact⟨_,_,h2.int_inv,h3.int_inv,k _ H3 az R3 .bl ((s1.trans s2).trans s3)⟩
   ·cases e
  ·rename_i hp;rw[if_neg hp];cases e
   exact k _ H2 ar R2 .bl (s1.trans s2)
 ·cases e
def qZ(fe fo fi:FE):FS:=fun τ C=>(fe τ C).bind fun p=>(fo τ p.2).bind fun q=>(fi τ q.2).bind fun r=>match q.1,r.1 with
 | .cell c,.int i=>(lc r.2 c).bind fun ts=>(ixN ts.length i).map fun j=>(.nx,τ,r.2.set c (.l,ts.set j p.1))
 |_,_=>none
theorem aNd{fe fi:FE}(h:trS K W (qZ fe fo fi) D σ H):aDg (trE K fe) (gSub (trE K fo) (trE K fi) aIS) D σ H:=by
 obtain⟨H₀,Z,ρ,τ,C,fl,ag,C',R,e,k⟩:=h;unfold qZ at e;obtain⟨⟨t1,C1⟩,e1,e⟩:=aK.mp e;obtain⟨⟨t2,C2⟩,e2,e⟩:=aK.mp e;obtain⟨⟨t3,C3⟩,e3,e⟩:=aK.mp e
 refine⟨H₀,Z,ρ,τ,C,t1,C1,R,e1,fun x H1 af R1 h1 s1=>?_⟩
 refine⟨H₀,Z,af,τ,C1,t2,C2,R1,e2,fun y H2 ar R2 h2 s2=>?_⟩
 refine⟨H₀,Z,ar,τ,C2,t3,C3,R2,e3,fun z H3 az R3 h3 s3=>?_⟩
 dsimp only at e;split at e
 ·obtain⟨ts,e4,e⟩:=aK.mp e;obtain⟨j,e5,e⟩:=aL.mp e;cases e;have h2':=h2.step s3;unfold RT at h2';obtain⟨a,ea,qa⟩:=h2';obtain⟨vs,c2,c3⟩:=R3.celL qa (fY.mp e4);obtain⟨w1,w2⟩:=R3.write qa (by rw[c2];trivial) (c3.set ((h1.step s2).step s3) j)
  exact⟨a,vs,_,j,ea,h3.int_inv,c2,by rw[c3.length];exact e5,k σ _ az w1 (((s1.trans s2).trans s3).ss.trans w2)⟩
 ·cases e
def aFZ(fo:FE)(fa:FN)(g:List T->List T->Option (List T)):FS:=fun τ C=>(fo τ C).bind fun p=>(fa τ p.2).bind fun q=>match p.1 with
 | .cell c=>(lc p.2 c).bind fun _=>(lc q.2 c).bind fun ts=>(g ts q.1).map fun us=>(.nx,τ,q.2.set c (.l,us))
 |_=>none
def aL8(g:List V->List V->Option (List V)):V->List V->Hp->VK->Prop:=fun x vs H Q=>∃l xs ys,x=.ref l/\H l=some (.lst xs)/\g xs vs=some ys/\Q .non (upd H l (.lst ys))
theorem aLx{fa:FN}{g:List T->List T->Option (List T)}{gv:List V->List V->Option (List V)}
 (hg:∀M ρ ts us ws vs xs,RTs K M ρ ts vs->RTs K M ρ us xs->g ts us=some ws->∃ys,gv vs xs=some ys/\RTs K M ρ ws ys)
 (h:trS K W (aFZ fo fa g) D σ H):aE6 (tBM K "list" (aL8 gv) (trE K fo) (trA K fa)) D σ H:=by
 obtain⟨H₀,Z,ρ,τ,C,fl,ag,C',R,e,k⟩:=h;unfold aFZ at e;obtain⟨⟨t1,C1⟩,e1,e⟩:=aK.mp e;obtain⟨⟨t2,C2⟩,e2,e⟩:=aK.mp e
 refine⟨H₀,Z,ρ,τ,C,t1,C1,R,e1,fun x H1 af R1 h1 s1=>?_⟩
 dsimp only at e;split at e
 ·obtain⟨_,e3,e⟩:=aK.mp e;obtain⟨ts,e4,e⟩:=aK.mp e;obtain⟨us,e5,e⟩:=aL.mp e;cases e
  refine⟨?_,H₀,Z,af,τ,C1,t2,C2,R1,e2,fun xs H2 ar R2 h2 s2=>?_⟩
  ·have gw:=h1;unfold RT at gw;obtain⟨a,ea,qa⟩:=gw;obtain⟨vs,c2,c3⟩:=R1.celL qa (fY.mp e3);rw[ea]
   exact .inl ⟨rfl,vs,.of c2⟩
  ·have gw:=h1.step s2;unfold RT at gw;obtain⟨a,ea,qa⟩:=gw;obtain⟨vs,c2,c3⟩:=R2.celL qa (fY.mp e4);obtain⟨ys,y1,y2⟩:=hg _ _ _ _ _ _ _ c3 h2 e5;obtain⟨w1,w2⟩:=R2.write qa (by rw[c2];trivial) y2
   exact⟨a,vs,ys,ea,c2,y1,k σ _ ar w1 ((s1.trans s2).ss.trans w2)⟩
 ·cases e
end
mutual
def CF:T->Bool
 | .cell _=>false
 | .lst ts=>CFs ts
 | .tup ts=>CFs ts
 |_=>true
def CFs:List T->Bool
 | []=>true
 |t::ts=>CF t&&CFs ts
end
theorem aBC{ts:List T}:CFs ts=true↔∀t∈ts,CF t=true:=by
 induction ts with
 |nil=>simp[CFs]
 |cons t ts ih=>simp[CFs,ih]
section
variable {K:aO}{σ:St}{H:Hp}{Q:VK}
mutual
theorem RT.cf{M:Hp}{ρ ae:Rho}:∀{t:T}{v:V},CF t=true->RT K M ρ t v->RT K M ae t v
 | .non,_,_,h=>by unfold RT at*;exact h
 | .bl _,_,_,h=>by unfold RT at*;exact h
 | .int _,_,_,h=>by unfold RT at*;exact h
 | .str _,_,_,h=>by unfold RT at*;exact h
 | .exc _,_,_,h=>by unfold RT at*;exact h
 | .lst ts,v,c,h=>by
   unfold RT at*;obtain⟨a,vs,e,q,r⟩:=h
   exact⟨a,vs,e,q,RTs.cf (by unfold CF at c;exact c) r⟩
 | .tup ts,v,c,h=>by
   unfold RT at*;obtain⟨a,vs,e,q,r⟩:=h
   exact⟨a,vs,e,q,RTs.cf (by unfold CF at c;exact c) r⟩
 | .cell c,_,h,_=>by unfold CF at h;cases h
theorem RTs.cf{M:Hp}{ρ ae:Rho}:∀{ts:List T}{vs:List V},CFs ts=true->RTs K M ρ ts vs->RTs K M ae ts vs
 | [],_,_,h=>by unfold RTs at*;exact h
 |t::ts,vs,c,h=>by
  unfold CFs at c;rw[aPc]at c;unfold RTs at*;obtain⟨v,r,e,h1,h2⟩:=h
  exact⟨v,r,e,RT.cf c.1 h1,RTs.cf c.2 h2⟩
end
variable{H₀ M M':Hp}{τ:TSt}{C:Sto}{neg:Bool}{x y:V}{n m k:Nat}{F:List T->Option (List T)}{E:XK}{α:Type}{D:Addr}{is:List Nat}{g:FG}{tc:FB}{fe f:FE}
noncomputable def mapO(f:T->Option T):List T->Option (List T)
 | []=>some []
 |t::ts=>(f t).bind fun u=>(mapO f ts).map (u:: ·)
def dr:Nat->Sto->T->Option T
 |0,_,t=>if CF t=true then some t else none
 |n+1,C,.cell c=>(lc C c).bind fun ts=>(mapO (dr n C) ts).map T.lst
 |n+1,C,.lst ts=>if CFs ts=true then some (.lst ts)else(mapO (dr n C) ts).map T.lst
 |n+1,C,.tup ts=>if CFs ts=true then some (.tup ts)else(mapO (dr n C) ts).map T.tup
 |_+1,_,t=>if CF t=true then some t else none
theorem qA{Z:Addr->Prop}{ρ:Rho}:Same (mask H Z ρ) (mask H Z []):=fun a o h=>by
 obtain⟨h1,h2,h3⟩:=lB.mp h
 exact l4 h1 (by simp) h3
theorem RTs.mapO{M M':Hp}{ρ ae:Rho}{f:T->Option T}(hf:∀t v t',RT K M ρ t v->f t=some t'->RT K M' ae t' v):∀{ts:List T}{vs:List V}{us:List T},RTs K M ρ ts vs->TL.mapO f ts=some us->RTs K M' ae us vs
 | [],_,_,h,e=>by cases e;rw[h.nil_inv];exact .nil
 |t::ts,_,us,h,e=>by
  obtain⟨v,r,rfl,h1,h2⟩:=h.cons_inv;unfold TL.mapO at e;obtain⟨u,e1,e⟩:=aK.mp e;obtain⟨us,e2,rfl⟩:=aL.mp e
  exact .cons (hf t v u h1 e1) (RTs.mapO hf h2 e2)
theorem Rel.dr{Z:Addr->Prop}{ρ:Rho}(R:Rel K H₀ Z ρ τ C σ H):∀(n:Nat)(t:T)(v:V)(t':T),RT K (mask H Z ρ) ρ t v->TL.dr n C t=some t'->RT K (mask H Z []) [] t' v:=by
 intro n;induction n with
 |zero=>
  intro t v t' h e;unfold TL.dr at e;split at e
  ·rename_i hc;cases e
   exact(h.cf hc).mono qA (fun c a z=>z)
  ·cases e
 |succ n ih=>
  intro t v t' h e;by_cases hc:∃c,t=.cell c
  ·obtain⟨c,rfl⟩:=hc;unfold TL.dr at e;obtain⟨ts,e1,e⟩:=aK.mp e;obtain⟨us,e2,rfl⟩:=aL.mp e;unfold RT at h;obtain⟨a,ea,qa⟩:=h;obtain⟨vs,c2,c3⟩:=R.celL qa (fY.mp e1);unfold RT
   exact⟨a,vs,ea,.of (l4 (R.frs a (bC qa)).2 (by simp) c2),c3.mapO ih e2⟩
  ·have fin:CF t=true->t=t'->RT K (mask H Z []) [] t' v:=fun hc z=>by
    subst z
    exact(h.cf hc).mono qA (fun c a z=>z)
   have jj:∀{p:Bool}{u:T},(if p=true then some u else none)=some t'->p=true/\u=t':=fun {p u} z=>by
    cases p with
    |true=>exact⟨rfl,cE.inj z⟩
    |false=>cases z
   cases t with
   |cell c=>exact absurd ⟨c,rfl⟩ hc
   |lst ts=>
    unfold TL.dr at e;split at e
    ·rename_i hc
     exact fin (by unfold CF;exact hc) (cE.inj e)
    ·obtain⟨us,e2,rfl⟩:=aL.mp e;unfold RT at h;obtain⟨a,vs,ea,qa,ra⟩:=h;unfold RT
     exact⟨a,vs,ea,qA.seq qa,ra.mapO ih e2⟩
   |tup ts=>
    unfold TL.dr at e;split at e
    ·rename_i hc
     exact fin (by unfold CF;exact hc) (cE.inj e)
    ·obtain⟨us,e2,rfl⟩:=aL.mp e;unfold RT at h;obtain⟨a,vs,ea,qa,ra⟩:=h;unfold RT
     exact⟨a,vs,ea,qA _ _ qa,ra.mapO ih e2⟩
   |non=>exact fin (jj e).1 (jj e).2
   |bl _=>exact fin (jj e).1 (jj e).2
   |int _=>exact fin (jj e).1 (jj e).2
   |str _=>exact fin (jj e).1 (jj e).2
   |exc _=>exact fin (jj e).1 (jj e).2
noncomputable def eqF:T->T->Option Bool
 | .bl a,.bl b=>some (a==b)
 | .int a,.int b=>some (a==b)
 | .str a,.str b=>some (a==b)
 |_,_=>none
noncomputable def eqL(e:T->T->Option Bool):List T->List T->Option Bool
 | [],[]=>some true
 |x::xs,y::ys=>(e x y).bind fun a=>(eqL e xs ys).map fun b=>a&&b
 |_,_=>none
def eqT:Nat->T->T->Option Bool
 |n+1,.lst xs,.lst ys=>if xs.length=ys.length then eqL (eqT n) xs ys else some false
 |_,a,b=>eqF a b
def aLM(K:aO)(neg:Bool):R2:=fun x y H Q=>∃t1 t2 b,RT K H [] t1 x/\RT K H [] t2 y/\eqT 5 t1 t2=some b/\Q (.bl (if neg then !b else b)) H
def gEq(neg:Bool)(t1 t2:T)(C:Sto):Option (T×Sto):=(dr 3 C t1).bind fun u1=>(dr 3 C t2).bind fun u2=>(eqT 5 u1 u2).map fun b=>(.bl (if neg then !b else b),C)
theorem aL6(h:∃t1 t2,trV K σ [t1,t2] [x,y] (gEq neg t1 t2) H Q):aLM K neg x y H Q:=by
 obtain⟨t1,t2,H₀,Z,ρ,τ,C,t,C',R,r,e,k⟩:=h;obtain⟨_,_,z,r1,r⟩:=r.cons_inv;cases z;obtain⟨_,_,z,r2,r⟩:=r.cons_inv;cases z;unfold gEq at e;obtain⟨u1,e1,e⟩:=aK.mp e;obtain⟨u2,e2,e⟩:=aK.mp e;obtain⟨b,e3,e⟩:=aL.mp e;cases e
 exact⟨u1,u2,b,(R.dr _ _ _ _ r1 e1).mono oC (fun c a z=>z),(R.dr _ _ _ _ r2 e2).mono oC (fun c a z=>z),e3,k _ H ρ R .bl .refl⟩
noncomputable def inL(e:T->Option Bool):List T->Option Bool
 | []=>some false
 |x::xs=>(e x).bind fun a=>(inL e xs).map fun b=>a||b
def aMO(K:aO)(neg:Bool):R2:=fun x y H Q=>∃t p vs ts b,RT K H [] t x/\y=.ref p/\SqL K H p vs/\RTs K H [] ts vs/\inL (fun u=>eqT 5 u t) ts=some b/\Q (.bl (if neg then !b else b)) H
def gIn(neg:Bool)(t1 t2:T)(C:Sto):Option (T×Sto):=(dr 3 C t1).bind fun u1=>(liT C t2).bind fun ts=>(mapO (dr 3 C) ts).bind fun us=>(inL (fun u=>eqT 5 u u1) us).map fun b=>(.bl (if neg then !b else b),C)
theorem aOo(h:∃t1 t2,trV K σ [t1,t2] [x,y] (gIn neg t1 t2) H Q):aMO K neg x y H Q:=by
 obtain⟨t1,t2,H₀,Z,ρ,τ,C,t,C',R,r,e,k⟩:=h;obtain⟨_,_,z,r1,r⟩:=r.cons_inv;cases z;obtain⟨_,_,z,r2,r⟩:=r.cons_inv;cases z;unfold gIn at e;obtain⟨u1,e1,e⟩:=aK.mp e;obtain⟨ts,e2,e⟩:=aK.mp e;obtain⟨us,e4,e⟩:=aK.mp e;obtain⟨b,e3,e⟩:=aL.mp e;cases e;obtain⟨a,vs,ea,qa,ra⟩:=R.li r2 e2
 exact⟨u1,a,vs,us,b,(R.dr _ _ _ _ r1 e1).mono oC (fun c a z=>z),ea,qa,ra.mapO (fun t v t' h e=>(R.dr _ _ _ _ h e).mono oC (fun c a z=>z)) e4,e3,k _ H ρ R .bl .refl⟩
def spT(K:aO)(n:Nat)(F:List T->Option T):Sp:=fun vs H Q _=>∃Z ts t,ts.length=n/\(∀a,Z a->NT (H a))/\RTs K (mask H Z []) [] ts vs/\F ts=some t/\
 ∀v H',Same H H'->RT K (mask H' Z []) [] t v->Q v H'
def spN(K:aO)(n:Nat)(F:List T->Option (List T)):Sp:=fun vs H Q _=>∃Z ts us,ts.length=n/\(∀a,Z a->NT (H a))/\RTs K (mask H Z []) [] ts vs/\F ts=some us/\
 ∀p H' ws,Same H H'->H' p=none->RTs K (mask H' Z []) [] us ws->Q (.ref p) (upd H' p (.lst ws))
theorem gO{F:List T->Option T}:∀vs H Q E,spT K n F vs H Q E->vs.length=n:=fun vs H Q E zz=>by obtain⟨Z,ts,t,h,_,r,_⟩:=zz;rw[r.length,h]
theorem aKK:∀vs H Q E,spN K n F vs H Q E->vs.length=n:=fun vs H Q E zz=>by obtain⟨Z,ts,t,h,_,r,_⟩:=zz;rw[r.length,h]
noncomputable def sca:T->Bool
 | .non=>true
 | .bl _=>true
 | .int _=>true
 | .str _=>true
 |_=>false
theorem RT.sca{ρ ae:Rho}{t:T}{v:V}(hs:TL.sca t=true)(h:RT K M ρ t v):RT K M' ae t v:=by
 cases t with
 |non=>unfold RT at*;exact h
 |bl _=>unfold RT at*;exact h
 |int _=>unfold RT at*;exact h
 |str _=>unfold RT at*;exact h
 |_=>cases hs
theorem RTs.sca{ρ ae:Rho}:∀{ts:List T}{vs:List V},ts.all TL.sca=true->RTs K M ρ ts vs->RTs K M' ae ts vs
 | [],_,_,h=>by rw[h.nil_inv];exact .nil
 |t::ts,_,hs,h=>by
  obtain⟨v,r,rfl,h1,h2⟩:=h.cons_inv;rw[aQn,aPc]at hs
  exact .cons (h1.sca hs.1) (h2.sca hs.2)
def iX(n:Nat)(F:List T->Option T)(ts:List T)(C:Sto):Option (T×Sto):=if ts.length=n then
 if CFs ts=true then(F ts).map fun t=>(t,C)
 else(mapO (dr 3 C) ts).bind fun us=>(F us).bind fun t=>if sca t=true then some (t,C)else none
 else none
def aDm(n:Nat)(F:List T->Option (List T))(ts:List T)(C:Sto):Option (List T):=if ts.length=n then
 if CFs ts=true then F ts
 else(mapO (dr 3 C) ts).bind fun us=>(F us).bind fun t=>if t.all sca=true then some t else none
 else none
theorem sM{Z:Addr->Prop}{ρ:Rho}:mask H (fun a=>Z a\/a∈ρ) []=mask H Z ρ:=by
 funext a;unfold mask;by_cases h:Z a\/a∈ρ
 ·rw[if_pos (.inl h),if_pos h]
 ·rw[if_neg (by rintro(z|z);·exact h z
                ·cases z),if_neg h]
theorem yL{f:T->Option T}:∀{ts us:List T},mapO f ts=some us->us.length=ts.length
 | [],_,e=>by cases e;rfl
 |t::ts,us,e=>by
  unfold mapO at e;obtain⟨u,e1,e⟩:=aK.mp e;obtain⟨us,e2,rfl⟩:=aL.mp e;simp[yL e2]
theorem Rel.cel_some{Z:Addr->Prop}{ρ:Rho}(R:Rel K H₀ Z ρ τ C σ H){a:Addr}(ha:a∈ρ):NT (H a):=by
 obtain⟨c,hc⟩:=bQ.mp ha;obtain⟨_,_,_,_,h,hb,_⟩:=R.cel c a hc;rw[h];exact hb.nt
theorem aGO{F:List T->Option T}{vs:List V}(h:∃ts,trV K σ ts vs (iX n F ts) H Q):spT K n F vs H Q E:=by
 obtain⟨ts,H₀,Z,ρ,τ,C,t,C',R,r,e,k⟩:=h;unfold iX at e;split at e
 ·rename_i hn;split at e
  ·rename_i hc;obtain⟨u,e1,e⟩:=aL.mp e;cases e
   refine⟨fun a=>Z a\/a∈ρ,ts,_,hn,fun a z=>?_,by rw[sM];exact r.cf hc,e1,fun v H' sm rv=>?_⟩
   ·rcases z with z|z
    ·exact R.zd a z
    ·exact R.cel_some z
   ·obtain⟨R',st⟩:=R.same sm;rw[sM]at rv
    exact k v H' ρ R' (rv.mono (.refl _) (fun c a z=>by cases z)) st
  ·obtain⟨us,e1,e⟩:=aK.mp e;obtain⟨u,e2,e⟩:=aK.mp e;split at e
   ·rename_i hs;cases e
    refine⟨Z,us,_,(yL e1).trans hn,R.zd,r.mapO (fun t v t' h e=>R.dr _ _ _ _ h e) e1,e2,fun v H' sm rv=>?_⟩
    obtain⟨R',st⟩:=R.same sm
    exact k v H' ρ R' (rv.sca hs) st
   ·cases e
 ·cases e
theorem aJT{vs:List V}(h:∃ts,trW K σ ts vs (aDm n F ts) H Q):spN K n F vs H Q E:=by
 obtain⟨ts,H₀,Z,ρ,τ,C,us,R,r,e,k⟩:=h;unfold aDm at e;split at e
 ·rename_i hn;split at e
  ·rename_i hc
   refine⟨fun a=>Z a\/a∈ρ,ts,_,hn,fun a z=>?_,by rw[sM];exact r.cf hc,e,fun p H' ws sm hp rv=>?_⟩
   ·rcases z with z|z
    ·exact R.zd a z
    ·exact R.cel_some z
   ·obtain⟨R',st⟩:=R.same sm;rw[sM]at rv
    exact k p H' ρ ws R' hp (rv.mono (.refl _) (fun c a z=>by cases z)) st
  ·obtain⟨ws,e1,e⟩:=aK.mp e;obtain⟨u,e2,e⟩:=aK.mp e;split at e
   ·rename_i hs;cases e
    refine⟨Z,ws,_,(yL e1).trans hn,R.zd,r.mapO (fun t v t' h e=>R.dr _ _ _ _ h e) e1,e2,fun p H' ws sm hp rv=>?_⟩
    obtain⟨R',st⟩:=R.same sm
    exact k p H' ρ ws R' hp (rv.sca hs) st
   ·cases e
 ·cases e
noncomputable def st0(m:Nat)(ts:List T):TSt:=ts.map some++aT (m - ts.length) none
theorem Rel.start{Z:Addr->Prop}{ts:List T}{vs:List V}(hz:∀a,Z a->NT (H a))(h:RTs K (mask H Z []) [] ts vs):
 Rel K H Z [] (st0 m ts) [] (vs.map some++aT (m - vs.length) none) H:=by
 refine⟨.refl _,(fun a ha=>nomatch ha),aQk,hz,fun i t e=>?_,(fun c a e=>nomatch e),rfl,by simp[st0,h.length]⟩
 unfold st0 at e;have hi:i<ts.length:=by
  by_cases hi:i<ts.length
  ·exact hi
  ·rw[bK (by simpa using hi),cN]at e;split at e<;>cases e
 rw[aY (by simpa using hi),bH]at e;cases q:ts[i]?with
 |none=>rw[q]at e;cases e
 |some u=>
  rw[q]at e;cases e;obtain⟨v,h1,h2⟩:=h.get q
  refine⟨v,?_,h2⟩
  rw[aY (by simpa[h.length]using hi),bH,h1];rfl
def EndT(t:T):Fl×TSt×Sto->Prop
 | (.rt r,_,C)=>dr 3 C r=some t
 | (.nx,_,_)=>t=.non
 |_=>False
def EndN(us:List T):Fl×TSt×Sto->Prop
 | (.rt (.cell c),_,C)=>lc C c=some us/\CFs us=true
 |_=>False
theorem iB{G:List T->Option T}{F:FS}{vs:List V}(hG:∀ts t,ts.length=n->G ts=some t->∃r,F (st0 m ts) []=some r/\EndT t r)(h:spT K n G vs H Q E):
 trS K W F {nx:=fun _ H'=>Q .non H',rt:=Q} (vs.map some++aT (m - vs.length) none) H:=by
 obtain⟨Z,ts,t,hn,hz,r,e,k⟩:=h;obtain⟨⟨fl,ag,C'⟩,e1,e2⟩:=hG ts t hn e
 refine⟨H,Z,[],st0 m ts,[],fl,ag,C',Rel.start hz r,e1,fun ah H' ae R' _=>?_⟩
 cases fl with
 |nx=>
  have:t=.non:=e2;subst this
  exact k .non H' R'.old .non
 |bk=>exact False.elim e2
 |ct=>exact False.elim e2
 |rt u=>exact fun v hv=>k v H' R'.old (R'.dr _ _ _ _ hv e2)
 |ex c=>exact False.elim e2
theorem aMS{G:List T->Option (List T)}{F:FS}{vs:List V}(hG:∀ts t,ts.length=n->G ts=some t->∃r,F (st0 m ts) []=some r/\EndN t r)(h:spN K n G vs H Q E):
 trS K W F {nx:=fun _ H'=>Q .non H',rt:=Q} (vs.map some++aT (m - vs.length) none) H:=by
 obtain⟨Z,ts,us,hn,hz,r,e,k⟩:=h;obtain⟨⟨fl,ag,C'⟩,e1,e2⟩:=hG ts us hn e
 refine⟨H,Z,[],st0 m ts,[],fl,ag,C',Rel.start hz r,e1,fun ah H' ae R' _=>?_⟩
 cases fl with
 |nx=>exact False.elim e2
 |bk=>exact False.elim e2
 |ct=>exact False.elim e2
 |ex c=>exact False.elim e2
 |rt u=>
  cases u with
  |cell c=>
   obtain⟨e2,e3⟩:=e2;intro v hv;unfold RT at hv;obtain⟨a,ea,qa⟩:=hv;obtain⟨ws,c2,c3⟩:=R'.celL qa (fY.mp e2);subst ea;have am:=bC qa;have hn:(fun b=>if b=a then none else H' b) a=none:=if_pos rfl;have hu:upd (fun b=>if b=a then none else H' b) a (.lst ws)=H':=by
    funext b;unfold upd;by_cases hb:b=a
    ·subst hb;rw[if_pos rfl,c2]
    ·rw[if_neg hb];exact if_neg hb
   have q:=k a (fun b=>if b=a then none else H' b) ws (fun b o z=>?_) hn ((c3.cf e3).mono (fun b o z=>?_) (fun c a z=>z))
   ·rw[hu]at q;exact q
   ·have hb:b≠a:=by
     rintro rfl;rw[(R'.frs b am).1]at z;cases z
    show(if b=a then none else H' b)=some o;rw[if_neg hb]
    exact R'.old b o z
   ·obtain⟨h1,h2,h3⟩:=lB.mp z
    refine l4 h1 (by simp) ?_
    show(if b=a then none else H' b)=some o;rw[if_neg (by rintro rfl;exact h2 am)]
    exact h3
  |_=>exact False.elim e2
def aAS(wi:TI)(sc:St->St)(g:TG)(tc:TT)(te:TE):TE:=fun σ H Q=>wi σ H fun J H1=>∀D,H1 D=none->∃W:Nat->Nat->St->Hp->Prop,(∃m,W 0 m (sc σ) (upd H1 D (.lst [])))/\∀i m gd H,W i m gd H->
 (J.stop i H/\Q (.ref D) H)\/(J.go i H/\∀x H',J.yld i H x H'->g x gd H' fun bn H2=>tc bn H2 fun b H3=>
  if b=true then te bn H3 fun y H4=>∃ys m',H4 D=some (.lst ys)/\ys.length<lim/\m'<m/\W (i+1) m' bn (upd H4 D (.lst (ys++[y])))else∃m',m'<m/\W (i+1) m' bn H3)
open Classical in
noncomputable def kp{α:Type}(C D:Sto)(x:Option α):Option α:=if C<+:D then x else none
theorem aLm{D:Sto}{x:Option α}(h:C<+:D):kp C D x=x:=if_pos h
theorem aEn{x:Option α}:kp C C x=x:=aLm (List.prefix_refl _)
theorem aEi{D:Sto}{x:Option α}{y:α}(h:kp C D x=some y):C<+:D/\x=some y:=by
 unfold kp at h;split at h
 ·exact⟨by assumption,h⟩
 ·cases h
def jX(g:FG)(tc:FB)(fe:FE)(τ:TSt):List T->Sto->Option (List T×Sto)
 | [],C=>some ([],C)
 |t::ts,C=>(g t C τ).bind fun aq=>(tc aq C).bind fun b=>if b.1=true then(fe aq b.2).bind fun y=>kp C y.2 ((jX g tc fe τ ts y.2).map fun r=>(y.1::r.1,r.2))else kp C b.2 (jX g tc fe τ ts b.2)
noncomputable def scT(k:Nat)(is:List Nat)(τ:TSt):TSt:=aT k none++is.map fun i=>(τ[i]?).getD none
noncomputable def scV(k:Nat)(is:List Nat)(σ:St):St:=aT k none++is.map fun i=>(σ[i]?).getD none
def Own(k:Nat)(g:FG):Prop:=∀t C τ aq,g t C τ=some aq->aq.length=τ.length/\∀j,k<=j->aq[j]?=τ[j]?
theorem Rel.writeZ{Z:Addr->Prop}{ρ:Rho}{o:HO}(R:Rel K H₀ Z ρ τ C σ H)(hz:Z D)(h0:H₀ D=none)(ho:NT (some o)):Rel K H₀ Z ρ τ C σ (upd H D o)/\mask (upd H D o) Z ρ=mask H Z ρ:=by
 have em:mask (upd H D o) Z ρ=mask H Z ρ:=by
  funext b;unfold mask;split
  ·rfl
  ·rename_i q;rw[fP (by rintro rfl;exact q (.inl hz))]
 refine⟨⟨fun b u q=>?_,R.frs,R.nd,fun b z=>?_,fun i t e=>?_,fun d b e=>?_,R.len,R.lnt⟩,em⟩
 ·rw[fP (by rintro rfl;rw[h0]at q;cases q)]
  exact R.old b u q
 ·by_cases hb:b=D
  ·subst hb;rw[i6];exact ho
  ·rw[fP hb];exact R.zd b z
 ·rw[em];exact R.loc i t e
 ·rw[em];obtain⟨us,ws,ob,h1,h2,h4,h3⟩:=R.cel d b e
  refine⟨us,ws,ob,h1,?_,h4,h3⟩
  rw[fP]
  ·exact h2
  ·rintro rfl
   exact(R.frs b (bC e)).2 hz
theorem aCw{aq:TSt}(hl:aq.length=(scT k is τ).length)(h:∀j,k<=j->aq[j]?=(scT k is τ)[j]?):∀(i:Nat) t,(scT k is τ)[i]?=some (some t)->aq[i]?=some (some t):=fun i t e=>by
 by_cases hi:i<k
 ·unfold scT at e;rw[aY (by simpa using hi),cN,if_pos hi]at e;cases e
 ·rw[h i (by lia)];exact e
theorem tP{J:It}{Z:Addr->Prop}{ρ:Rho}{C':Sto}{P:Sto->Prop}{ts ys:List T}{H1:Hp}
 (R:Rel K H₀ Z ρ τ C σ H1)(hg:Own k g)(w:Wlk K J Z H1 ρ ts P)(hP:P C)(hPm:∀C C2:Sto,C<+:C2->P C->P C2)(hl:ts.length<lim)(e:jX g tc fe (scT k is τ) ts C=some (ys,C'))(hD:H1 D=none)
 (q:∀p H' ae vs,Rel K H₀ Z ae τ C' σ H'->H' p=none->RTs K (mask H' Z ae) ae ys vs->Step H1 H' ρ ae->Q (.ref p) (upd H' p (.lst vs))):
 ∃W:Nat->Nat->St->Hp->Prop,(∃m,W 0 m (scV k is σ) (upd H1 D (.lst [])))/\∀i m gd H,W i m gd H->
  (J.stop i H/\Q (.ref D) H)\/(J.go i H/\∀x H',J.yld i H x H'->trG K g x gd H' fun bn H2=>trT K tc bn H2 fun b H3=>
   if b=true then trE K fe bn H3 fun y H4=>∃ys m',H4 D=some (.lst ys)/\ys.length<lim/\m'<m/\W (i+1) m' bn (upd H4 D (.lst (ys++[y])))else∃m',m'<m/\W (i+1) m' bn H3):=by
 obtain⟨nz,nr,n0⟩:=R.fresh_not hD;have hZD:∀a,Z a->a≠D:=fun a z h=>by subst h;exact nz z
 refine⟨fun i m gd H=>∃ae C1 done rest vs,m=rest.length/\ts.drop i=rest/\i<=ts.length/\done.length<=i/\Rel K H₀ (fun a=>Z a\/a=D) ae (scT k is τ) C1 gd H/\H D=some (.lst vs)/\
  RTs K (mask H (fun a=>Z a\/a=D) ae) ae done vs/\Step H1 H ρ ae/\P C1/\∃yr,jX g tc fe (scT k is τ) rest C1=some (yr,C')/\ys=done++yr,?_,?_⟩
 ·refine⟨ts.length,ρ,C,[],ts,[],rfl,rfl,dF _,bF _,?_,i6,.nil,?_,hP,ys,e,rfl⟩
  ·have sm:Same (mask H1 Z ρ) (mask (upd H1 D (.lst [])) (fun a=>Z a\/a=D) ρ):=fun a o z=>by
    obtain⟨h1,h2,h3⟩:=lB.mp z;have ne:a≠D:=fun z=>by rw[z,hD]at h3;cases h3
    exact l4 (by rintro(z|z);·exact h1 z
                 ·exact ne z) h2 (by rw[fP ne];exact h3)
   refine⟨fun b o z=>?_,fun a ha=>⟨(R.frs a ha).1,?_⟩,R.nd,fun a z=>?_,fun i t z=>?_,fun c a z=>?_,R.len,by simp[scT,scV]⟩
   ·rw[fP (by rintro rfl;rw[n0]at z;cases z)]
    exact R.old b o z
   ·rintro(z|z)
    ·exact(R.frs a ha).2 z
    ·subst z;exact nr ha
   ·by_cases ha:a=D
    ·subst ha;rw[i6];trivial
    ·rw[fP ha];rcases z with z|z
     ·exact R.zd a z
     ·exact absurd z ha
   ·unfold scT at z;by_cases hi:i<k
    ·rw[aY (by simpa using hi),cN,if_pos hi]at z;cases z
    ·rw[bK (by simpa using aPb hi),bH]at z;obtain⟨j,hj,z⟩:=aL.mp z;have nu:τ[j]?=some (some t):=by
      cases q:τ[j]?with
      |none=>rw[q]at z;cases z
      |some u=>rw[q]at z;exact congrArg some z
     obtain⟨v,h1,h2⟩:=R.loc j t nu
     refine⟨v,?_,h2.mono sm (fun c a z=>z)⟩
     unfold scV;rw[bK (by simpa using aPb hi),bH];simp only[eP]at hj|-;rw[hj];simp[h1]
   ·obtain⟨us,vs,ob,h1,h2,h4,h3⟩:=R.cel c a z
    refine⟨us,vs,ob,h1,?_,h4,h3.mono sm (fun c a z=>z)⟩
    rw[fP (by rintro rfl;rw[hD]at h2;cases h2)]
    exact h2
  ·exact .of0 fun b o z=>by
    rw[fP (by rintro rfl;rw[hD]at z;cases z)]
    exact z
 ·rintro i m gd H ⟨ae,C1,done,rest,vs,rfl,hd,hi,hdl,R1,zh,rd,gf,mj,yr,e1,xl⟩;have ix:∀(c:Nat)(a:Addr),ρ[c]?=some a->ae[c]?=some a:=gf.idx;have smm:Same (mask H1 Z ρ) (mask H (fun a=>Z a\/a=D) ae):=fun a o z=>by
   obtain⟨h1,h2,h3⟩:=lB.mp z;have ne:a≠D:=fun z=>by rw[z,hD]at h3;cases h3
   refine l4 (by rintro(z|z);·exact h1 z
                 ·exact ne z) (gf.kept a o h3 h2).1 (gf.kept a o h3 h2).2
  cases rest with
  |nil=>
   have du:i=ts.length:=by
    have:ts.length<=i:=by simpa using hd
    lia
   subst du;cases e1
   refine .inl ⟨w.stop _ _ _ _ _ _ _ R1 smm ix (.inl mj) gf.fz,?_⟩
   have hm:mask (fun b=>if b=D then none else H b) Z ae=mask H (fun a=>Z a\/a=D) ae:=by
    funext a;unfold mask;by_cases ha:a=D
    ·subst ha;rw[if_pos (show(Z a\/a=a)\/a∈ae from .inl (.inr rfl))];split
     ·rfl
     ·exact if_pos rfl
    ·by_cases hz:Z a\/a∈ae
     ·rw[if_pos hz,if_pos (by rcases hz with z|z;·exact .inl (.inl z)
                              ·exact .inr z)]
     ·rw[if_neg hz,if_neg (by rintro((z|z)|z);·exact hz (.inl z)
                              ·exact ha z
                              ·exact hz (.inr z))]
      exact if_neg ha
   have hu:upd (fun b=>if b=D then none else H b) D (.lst vs)=H:=by
    funext b;unfold upd;by_cases hb:b=D
    ·subst hb;rw[if_pos rfl,zh]
    ·rw[if_neg hb];exact if_neg hb
   have st:Step H1 (fun b=>if b=D then none else H b) ρ ae:=⟨fun b o z n=>⟨(gf.kept b o z n).1,by
    show(if b=D then none else H b)=some o;rw[if_neg (by rintro rfl;rw[hD]at z;cases z)]
    exact(gf.kept b o z n).2⟩,gf.pre,fun b ob u z=>by
    show(if b=D then none else H b)=_;rw[if_neg (by rintro rfl;rw[hD]at z;cases z)]
    exact gf.fz b ob u z⟩
   have R2:Rel K H₀ Z ae τ C' σ (fun b=>if b=D then none else H b):=by
    refine⟨fun b o z=>by
     show(if b=D then none else H b)=some o;rw[if_neg (by rintro rfl;rw[n0]at z;cases z)]
     exact R1.old b o z,fun a ha=>⟨(R1.frs a ha).1,fun z=>(R1.frs a ha).2 (.inl z)⟩,R1.nd,fun a z=>(by
     show NT (if a=D then none else H a);rw[if_neg (hZD a z)];exact R1.zd a (.inl z)),fun j t z=>?_,fun c a z=>?_,R1.len,R.lnt⟩
    ·obtain⟨v,h1,h2⟩:=R.loc j t z
     exact⟨v,h1,h2.step st⟩
    ·obtain⟨us,ws,ob,h1,h2,h4,h3⟩:=R1.cel c a z
     refine⟨us,ws,ob,h1,?_,h4,by rw[hm];exact h3⟩
     show(if a=D then none else H a)=_;rw[if_neg (fun z'=>(R1.frs a (bC z)).2 (.inr z'))]
     exact h2
   have fin:=q D (fun b=>if b=D then none else H b) ae vs R2 (if_pos rfl) (by rw[hm,xl,aW];exact rd) st;rw[hu]at fin
   exact fin
  |cons t rest=>
   have ht:ts[i]?=some t:=by
    have:=congrArg (fun l=>l[0]?) hd;simpa using this
   have bf:i<ts.length:=(aQ.mp ht).1;have jg:ts.drop (i+1)=rest:=by
    have:=congrArg aQJ hd;simpa using this
   obtain⟨g1,g2⟩:=w.go i t _ _ ae _ C1 gd H ht R1 smm ix (.inl mj) gf.fz
   refine .inr ⟨g1,fun x H' hy=>?_⟩
   obtain⟨smy,rx⟩:=g2 x H' hy;obtain⟨ur,ax⟩:=R1.same smy;unfold jX at e1;obtain⟨aq,eg,e1⟩:=aK.mp e1;obtain⟨⟨b,C2⟩,et,e1⟩:=aK.mp e1;obtain⟨o1,o2⟩:=hg _ _ _ _ eg
   refine⟨_,_,ae,_,C1,t,aq,ur,rx,eg,fun bn R2=>?_⟩
   refine⟨_,_,ae,aq,C1,b,C2,R2,et,fun H3 az R3 s3=>?_⟩
   have uv:=ax.trans s3;have nD:D∉ae:=fun z=>(R1.frs D z).2 (.inr rfl)
   cases b with
   |false=>
    rw[if_neg (by simp)]at e1;obtain⟨yc,e1⟩:=aEi e1;dsimp only;rw[if_neg (by simp)]
    exact⟨rest.length,by simp,az,C2,done,rest,vs,rfl,jg,bf,Nat.le_succ_of_le hdl,R3.weak (by rw[o1]) (aCw o1 o2),(uv.kept _ _ zh nD).2,rd.step uv,gf.trans uv,hPm _ _ yc mj,yr,e1,xl⟩
   |true=>
    rw[if_pos rfl]at e1;dsimp only;rw[if_pos rfl];obtain⟨⟨ty,C3⟩,ee,e1⟩:=aK.mp e1;obtain⟨yc,e1⟩:=aEi e1;obtain⟨⟨yr',C4⟩,e3,e2⟩:=aL.mp e1;cases e2
    refine⟨_,_,az,aq,C2,ty,C3,R3,ee,fun y H4 jm R4 hy4 s4=>?_⟩
    have nj:=uv.trans s4;have rd4:=rd.step nj;obtain⟨R5,em⟩:=R4.writeZ (D:=D) (o:=.lst (vs++[y])) (.inr rfl) n0 trivial
    refine⟨vs,rest.length,(nj.kept _ _ zh nD).2,by rw[rd.length];lia,by simp,jm,C3,done++[ty],rest,vs++[y],rfl,jg,bf,by simp;lia,R5.weak (by rw[o1]) (aCw o1 o2),i6,?_,?_,hPm _ _ yc mj,yr',e3,by rw[xl];simp⟩
    ·rw[em]
     exact rd4.append (.cons hy4 .nil)
    ·exact⟨fun b o z n=>⟨((gf.trans nj).kept b o z n).1,by
      rw[fP (by rintro rfl;rw[hD]at z;cases z)]
      exact((gf.trans nj).kept b o z n).2⟩,(gf.trans nj).pre,fun b ob u z=>by
      rw[fP (by rintro rfl;rw[hD]at z;cases z)]
      exact(gf.trans nj).fz b ob u z⟩
theorem aNl{C2:Sto}{c:Nat}{ts:List T}(h:C<+:C2)(e:lc C c=some ts):lc C2 c=some ts:=by
 obtain⟨D,rfl⟩:=h;rw[fY]at e|-;rw[aY (aQ.mp e).1];exact e
theorem tY{t:T}{ts:List T}(C C2:Sto)(h:C<+:C2)(e:stays t ts C):stays t ts C2:=by
 unfold stays at*;split
 ·exact aNl h e
 ·trivial
def jR(f:FE)(k:Nat)(is:List Nat)(g:FG)(tc:FB)(fe:FE):FN:=fun τ C=>(f τ C).bind fun p=>(liT p.2 p.1).bind fun ts=>if ts.length<lim then jX g tc fe (scT k is τ) ts p.2 else none
theorem aGF(hg:Own k g)(h:trN K (jR f k is g tc fe) σ H Q):aAS (aIA K (trE K f)) (scV k is) (trG K g) (trT K tc) (trE K fe) σ H Q:=by
 obtain⟨H₀,Z,ρ,τ,C,ys,C',R,e,q⟩:=h;unfold jR at e;obtain⟨⟨t,C1⟩,e1,e⟩:=aK.mp e;obtain⟨ts,e2,e⟩:=aK.mp e;split at e
 ·rename_i hl
  refine⟨H₀,Z,ρ,τ,C,t,C1,R,e1,fun v H1 af R1 h1 s1=>?_⟩
  obtain⟨a,vs,ev,qa,r⟩:=R1.li h1 e2;subst ev
  exact⟨a,rfl,⟨vs,qa⟩,fun D hD=>tP R1 hg (aBY R1 h1 e2) (pF e2) tY hl e hD fun p H' ae vs R' hp rv s'=>q p H' ae vs R' hp rv (s1.trans s')⟩
 ·cases e
def kA(f:FE)(k:Nat)(is:List Nat)(g:FG)(tc:FB)(fe:FE):FN:=fun τ C=>(f τ C).bind fun p=>match p.1 with
 | .int j=>if j<400000/\ -(2^62)<=j then jX g tc fe (scT k is τ) (vT 0 j.toNat) p.2 else none
 |_=>none
theorem xF(hg:Own k g)(h:trN K (kA f k is g tc fe) σ H Q):aAS (aHV (trA K (eX f fH))) (scV k is) (trG K g) (trT K tc) (trE K fe) σ H Q:=by
 obtain⟨H₀,Z,ρ,τ,C,ys,C',R,e,q⟩:=h;unfold kA at e;obtain⟨⟨t,C1⟩,e1,e⟩:=aK.mp e;dsimp only at e;split at e
 ·split at e
  ·rename_i hj
   refine⟨H₀,Z,ρ,τ,C,_,C1,R,by simp[eX,fH,e1];rfl,fun vs H1 af R1 h1 s1=>?_⟩
   obtain⟨v,r,rfl,q1,q2⟩:=h1.cons_inv;rw[q2.nil_inv]
   refine⟨_,by rw[q1.int_inv],hj.2,by lia,fun D hD=>tP (P:=fun _=>True) R1 hg uA trivial (fun _ _ _ _=>trivial) (by simp[vT,lim];lia) e hD fun p H' ae vs R' hp rv s'=>q p H' ae vs R' hp rv (s1.trans s')⟩
  ·cases e
 ·cases e
theorem iZ{i:Nat}(h:i<k):Own k (gN i):=fun t C τ aq e=>by
 cases e
 refine⟨by simp,fun j hj=>?_⟩
 rw[aR (by lia)]
theorem wK{k:Nat}:∀(is:List Nat)(ts:List T)(τ:TSt),(∀i∈is,i<k)->(setAll is ts τ).length=τ.length/\∀j,k<=j->(setAll is ts τ)[j]?=τ[j]?
 | [],_,_,_=>by simp[setAll]
 |i::is,[],_,_=>by simp[setAll]
 |i::is,t::ts,τ,h=>by
  obtain⟨h1,h2⟩:=wK (k:=k) is ts (τ.set i (some t)) (fun j hj=>h j (aZ _ hj));have hi:=h i bJ
  refine⟨by simp[setAll,h1],fun j hj=>?_⟩
  show(setAll is ts (τ.set i (some t)))[j]?=_;rw[h2 j hj,aR (by lia)]
theorem aEb(h:∀i∈is,i<k):Own k (gU is):=fun t C τ aq e=>by
 unfold gU at e;obtain⟨ts,e1,e⟩:=aK.mp e;split at e
 ·cases e
  exact wK is ts τ h
 ·cases e
end
section
variable {K:aO}{σ:St}{H:Hp}
variable{Q:VK}{fa:FN}{fb:FE}{r:List V->Hp->VK->Prop}
theorem iK{f:FE}{Q':VK}(h:trE K f σ H Q)(hq:∀v H',Q v H'->Q' v H'):trE K f σ H Q':=by
 obtain⟨H₀,Z,ρ,τ,C,t,C',R,e,k⟩:=h
 exact⟨H₀,Z,ρ,τ,C,t,C',R,e,fun v H' ae a b c=>hq _ _ (k v H' ae a b c)⟩
theorem n9{f:FN}{Q Q':List V->Hp->Prop}(h:trA K f σ H Q)(hq:∀v H',Q v H'->Q' v H'):trA K f σ H Q':=by
 obtain⟨H₀,Z,ρ,τ,C,t,C',R,e,k⟩:=h
 exact⟨H₀,Z,ρ,τ,C,t,C',R,e,fun v H' ae a b c=>hq _ _ (k v H' ae a b c)⟩
theorem vJ{fa:FE}{g:T->T->Sto->Option (T×Sto)}{r:R2}(ho:∀σ H Q x y,(∃t1 t2,trV K σ [t1,t2] [x,y] (g t1 t2) H Q)->r x y H Q)(h:trE K (iV fa fb g) σ H Q):tOp r (trE K fa) (trE K fb) σ H Q:=
 iK (aEF h) fun _ _ q=>iK q fun _ _ q=>ho _ _ _ _ _ q
theorem aN5{fa:FE}{g:T->T->Sto->Option (List T)}{r:R2}(ho:∀σ H Q x y,(∃t1 t2,trW K σ [t1,t2] [x,y] (g t1 t2) H Q)->r x y H Q)(h:trN K (xC fa fb g) σ H Q):tOp r (trE K fa) (trE K fb) σ H Q:=
 iK (aNM h) fun _ _ q=>iK q fun _ _ q=>ho _ _ _ _ _ q
theorem aNX{g:List T->Sto->Option (T×Sto)}(ho:∀σ H Q xs,(∃ts,trV K σ ts xs (g ts) H Q)->r xs H Q)(h:trE K (mP fa g) σ H Q):tCB r (trA K fa) σ H Q:=
 n9 (aAx h) fun _ _ q=>ho _ _ _ _ q
theorem aN9{g:List T->Sto->Option (List T)}(ho:∀σ H Q xs,(∃ts,trW K σ ts xs (g ts) H Q)->r xs H Q)(h:trN K (vD fa g) σ H Q):tCB r (trA K fa) σ H Q:=
 n9 (aHh h) fun _ _ q=>ho _ _ _ _ q
theorem aNh{n:Nat}{F:List T->Option T}{E:XK}(h:trE K (mP fa (iX n F)) σ H Q):aAi (spT K n F) [] E (trA K fa) σ H Q:=
 n9 (aAx h) fun vs _ q=>by rw[aW];exact aGO q
noncomputable def gDm(ts:List T)(C:Sto):Option (T×Sto):=match ts with
 | [.int i,.int j]=>if 0<j/\j<1073741824 then some (.tup [.int (i/j),.int (i%j)],C)else none
 |_=>none
noncomputable def aEL(ts:List T)(C:Sto):Option (T×Sto):=match ts with
 | [.int i]=>some (.int i,C)
 | [.bl k]=>some (.int (if k then 1 else 0),C)
 |_=>none
theorem aMe{xs:List V}(h:∃ts,trV K σ ts xs (aEL ts) H Q):(∃i,xs=[.int i]/\Q (.int i) H)\/∃k,xs=[.bl k]/\Q (.int (if k then 1 else 0)) H:=by
 obtain⟨ts,H₀,Z,ρ,τ,C,t,C',R,r,e,k⟩:=h;unfold aEL at e;split at e
 ·obtain⟨v,_,rfl,r1,r⟩:=r.cons_inv;rw[r.nil_inv,r1.int_inv];cases e
  exact .inl ⟨_,rfl,k _ H ρ R .int .refl⟩
 ·obtain⟨v,_,rfl,r1,r⟩:=r.cons_inv;rw[r.nil_inv,r1.bl_inv];cases e
  exact .inr ⟨_,rfl,k _ H ρ R .int .refl⟩
 ·cases e
noncomputable def aG8(t:T)(C:Sto):Option (T×Sto):=match t with
 | .int i=>some (.int (-i),C)
 |_=>none
theorem aOz{x:V}(h:∃t,trV K σ [t] [x] (aG8 t) H Q):∃i,x=.int i/\Q (.int (-i)) H:=by
 obtain⟨t0,H₀,Z,ρ,τ,C,t,C',R,r,e,k⟩:=h;obtain⟨_,_,z,r1,r⟩:=r.cons_inv;cases z;unfold aG8 at e;split at e
 ·cases e
  exact⟨_,r1.int_inv,k _ H ρ R .int .refl⟩
 ·cases e
end
noncomputable def j7(i j:Int):Bool:= !(decide (Builtin.Int.intBits i>shortFactorBits)&&decide (Builtin.Int.intBits j>shortFactorBits)&&Builtin.Int.intTooBig (Builtin.Int.intBits i+Builtin.Int.intBits j))
noncomputable def insAt{α:Type}(xs:List α)(i:Int)(y:α):List α:=xs.take (if i<0 then(i+(xs.length:Int)).toNat else min i.toNat xs.length)++y::xs.drop (if i<0 then(i+(xs.length:Int)).toNat else min i.toNat xs.length)
def aB6(xs vs:List T):Option (List T):=match vs with
 | [y]=>if xs.length<lim then some (xs++[y])else none
 |_=>none
def aCR(xs vs:List T):Option (List T):=match vs with
 | [.int i,y]=>if xs.length<lim/\ -(2^63)<=i/\i<2^63 then some (insAt xs i y)else none
 |_=>none
noncomputable def t9:List Int->Int
 | []=>0
 |n::ns=>ns.foldl (fun a b=>if b>a then b else a) n
noncomputable def uJ:List Int->Int
 | []=>0
 |n::ns=>ns.foldl (fun a b=>if b<a then b else a) n
abbrev j0(a b:FE):FE:=iV a b (gI fun i j=>.int (i+j))
abbrev pD(a b:FE):FE:=iV a b (gI fun i j=>.int (i - j))
abbrev oB(a b:FE):FE:=iV a b (gIc j7 fun i j=>.int (i*j))
abbrev j4(a b:FE):FE:=iV a b (gIc (fun _ j=>decide (0<j)) fun i j=>.int (i%j))
abbrev qR(a b:FE):FE:=iV a b (gIc (fun _ j=>decide (0<j/\j<1073741824)) fun i j=>.int (i/j))
abbrev fPow(a b:FE):FE:=iV a b (gIc (fun i j=>decide (0<=j/\j<=1000000/\i.natAbs<2^64)) fun i j=>.int (i^j.toNat))
abbrev aMF(a:FE):FE:=fUn a aG8
abbrev fLt(a b:FE):FE:=iV a b (gI fun i j=>.bl (decide (i<j)))
abbrev fLe(a b:FE):FE:=iV a b (gI fun i j=>.bl (decide (i<=j)))
abbrev fGt(a b:FE):FE:=iV a b (gI fun i j=>.bl (decide (j<i)))
abbrev fEq(a b:FE):FE:=iV a b (gEq false)
abbrev fNe(a b:FE):FE:=iV a b (gEq true)
abbrev fIn(a b:FE):FE:=iV a b (gIn false)
abbrev aKV(a b:FE):FE:=iV a b (gIn true)
abbrev fLeLt(a b c:FE):FE:=uS a b c (fun i j=>decide (i<=j)) (fun i j=>decide (i<j))
abbrev fIx(a b:FE):FE:=iV a b gIx
abbrev aJe(a b:FE):FN:=xC a b aFj
abbrev pC(a:FN):FE:=mP a aF8
abbrev aCy(a:FN):FN:=vD a aEw
abbrev aH3(a:FN):FE:=mP a (wO (fun _=>true) aQL)
abbrev fMaxL(a:FN):FE:=mP a (wO (fun ns=> !ns.isEmpty) t9)
abbrev aGI(a:FN):FE:=mP a (wO (fun ns=> !ns.isEmpty) uJ)
abbrev aNp(a:FN):FE:=mP a (aI3 fun bs=>bs.all id)
abbrev fMax2(a:FN):FE:=mP a (gI2 fun i j=>if j>i then j else i)
abbrev yH(a:FN):FE:=mP a (gI2 fun i j=>if j<i then j else i)
abbrev tQ(a:FN):FE:=mP a aEL
abbrev f7(n:Nat)(F:List T->Option T)(a:FN):FE:=mP a (iX n F)
noncomputable def aMK(c:String):T->Option Bool
 | .non=>some (c=="NoneType")
 | .bl _=>some (c=="bool"||c=="int")
 | .int _=>some (c=="int")
 | .str _=>some (c=="str")
 | .lst _=>some (c=="list")
 | .cell _=>none
 | .tup _=>some (c=="tuple")
 | .exc _=>none
def vK(c:String)(a:FE):FE:=fUn a fun t C=>(aMK c t).map fun b=>(.bl b,C)
abbrev qQ(o:FE)(a:FN):FS:=aFZ o a aB6
abbrev aJY(o:FE)(a:FN):FS:=aFZ o a aCR
noncomputable def hW:FB:=fun _ C=>some (true,C)
def jL(B:FS)(m:Nat)(ts:List T):Option T:=match B (st0 m ts) []with
 |some (.rt r,_,C)=>dr 3 C r
 |some (.nx,_,_)=>some .non
 |_=>none
theorem gS{B:FS}{m n:Nat}:∀ts t,ts.length=n->jL B m ts=some t->∃r,B (st0 m ts) []=some r/\EndT t r:=fun ts t _ e=>by
 unfold jL at e;split at e
 ·rename_i h;exact⟨_,h,e⟩
 ·rename_i h;cases e;exact⟨_,h,rfl⟩
 ·cases e
end TL
namespace L2
open PySem PySem.Spec PyProof.Rows
variable{X:Cx}{e:Expr}{t':TT}
theorem PE.imp{t t':TE}(h:PE X e t)(hi:∀σ H Q,t' σ H Q->t σ H Q):PE X e t':=fun aa s σ H Q I q=>h aa s σ H Q I (hi σ H Q q)
theorem PT.imp{t:TT}(h:PT X e t)(hi:∀σ H Q,t' σ H Q->t σ H Q):PT X e t':=fun aa s σ H Q I q=>h aa s σ H Q I (hi σ H Q q)
theorem PW.imp{t:TT}(h:PW X e t)(hi:∀σ H Q,t' σ H Q->t σ H Q):PW X e t':=fun wh aa s σ H Q I q=>h wh aa s σ H Q I (hi σ H Q q)
theorem PA.imp{e:List Expr}{t t':TA}(h:PA X e t)(hi:∀σ H Q,t' σ H Q->t σ H Q):PA X e t':=fun pos aa s σ H Q I q=>h pos aa s σ H Q I (hi σ H Q q)
theorem PS.imp{e:Stmt}{t t':TS}(h:PS X e t)(hi:∀D σ H,t' D σ H->t D σ H):PS X e t':=fun aa s σ H D I q=>h aa s σ H D I (hi D σ H q)
theorem PSs.imp{e:List Stmt}{t t':TS}(h:PSs X e t)(hi:∀D σ H,t' D σ H->t D σ H):PSs X e t':=fun aa s σ H D I q=>h aa s σ H D I (hi D σ H q)
theorem PG.imp{t t':TG}(h:PG X e t)(hi:∀v σ H Q,t' v σ H Q->t v σ H Q):PG X e t':=fun aa s σ H v u Q I r q=>h aa s σ H v u Q I r (hi v σ H Q q)
theorem PO.imp{e:Option Expr}{t t':TO}(h:PO X e t)(hi:∀σ H Q,t' σ H Q->t σ H Q):PO X e t':=fun aa s σ H Q I q=>h aa s σ H Q I (hi σ H Q q)
end L2
namespace TL
open PySem PySem.Spec PyProof.Rows L2
theorem lF:lim<=sizeLine:=by unfold lim;rw[sizeLine_eq];decide
section
variable {X:Cx}
theorem aKl:OpR X (binaryOp .Add) (rCatL X.K):=by
 intro aa s σ H x y v u Q I rx ry h;obtain⟨l,b,xs,zs,rfl,rfl,hH,hB,hz,q⟩:=h;cases rx;cases ry;obtain⟨its,r,p,hl⟩:=I.list hH;obtain⟨gp,r2,p2,ly⟩:=I.list hB;obtain⟨⟨cls,dd,data,sl⟩,ho,hc,n,hd⟩:=id p.isList;obtain⟨⟨cls2,dd2,data2,sl2⟩,ho2,hc2,n2,hd2⟩:=id p2.isList;simp only at hc hd hc2 hd2;subst hc hd hc2 hd2;have e1:=r.length;have e2:=r2.length;have fm:=lF;have ea:its.toArray++gp.toArray=(its++gp).toArray:=by simp
 refine concat_meets ⟨_,ho,rfl⟩ ⟨_,ho2,rfl⟩ noFill_list_add seq_list_add PySem.F.slot_list_add PySem.F.entry_list_add (PySem.F.args_list_add_2 _ _)
  (list_addW l b its.toArray gp.toArray n n2 dd dd2 sl sl2 (by rw[bG,bG];lia)) ⟨ho,ho2,?_⟩
 rw[ea]
 exact⟨.ref _,_,I.lnew (t':=s.toks) (r.append r2) (by rw[bD];lia),rfl,q _ I.fresh⟩
def aHo(xs vs:List V):Option (List V):=match vs with
 | [y]=>if xs.length<lim then some (xs++[y])else none
 |_=>none
theorem aNI{K:aO}:∀M ρ ts us ws vs xs,RTs K M ρ ts vs->RTs K M ρ us xs->aB6 ts us=some ws->∃ys,aHo vs xs=some ys/\RTs K M ρ ws ys:=by
 intro M ρ ts us ws vs xs h1 h2 e;unfold aB6 at e;split at e
 ·obtain⟨v,_,rfl,r1,r2⟩:=h2.cons_inv;rw[r2.nil_inv];split at e
  ·rename_i hl;cases e
   refine⟨vs++[v],?_,h1.append (.cons r1 .nil)⟩
   show(if vs.length<lim then some (vs++[v])else none)=_;rw[if_pos (by rw[h1.length];exact hl)]
  ·cases e
 ·cases e
theorem aNw:MtR X "list.append" (aL8 aHo):=by
 intro aa s σ H x vs v us Q I rx rv h;obtain⟨l,xs,ys,ex,hH,e,q⟩:=h;unfold aHo at e;split at e
 ·split at e
  ·rename_i hl;cases e
   exact aAA aa s σ H x _ v us Q I rx rv ⟨l,xs,_,ex,rfl,hH,bO hl lF,q⟩
  ·cases e
 ·cases e
def aHl(xs vs:List V):Option (List V):=match vs with
 | [.int i,y]=>if xs.length<lim/\ -(2^63)<=i/\i<2^63 then some (insAt xs i y)else none
 |_=>none
theorem aLW{K:aO}:∀M ρ ts us ws vs xs,RTs K M ρ ts vs->RTs K M ρ us xs->aCR ts us=some ws->∃ys,aHl vs xs=some ys/\RTs K M ρ ws ys:=by
 intro M ρ ts us ws vs xs h1 h2 e;unfold aCR at e;split at e
 ·obtain⟨v,_,rfl,r1,r2⟩:=h2.cons_inv;obtain⟨v',_,rfl,r2,r3⟩:=r2.cons_inv;rw[r3.nil_inv,r1.int_inv];split at e
  ·rename_i hl;cases e
   refine⟨insAt vs _ v',by
    show(if vs.length<lim/\_ then some (insAt vs _ v')else none)=_;rw[if_pos (by rw[h1.length];exact hl)],?_⟩
   unfold insAt;rw[h1.length]
   exact(h1.take _).append (.cons r2 (h1.drop _))
  ·cases e
 ·cases e
theorem aFo{α:Type}(xs:List α)(i:Int)(y:α):(insAt xs i y).length=xs.length+1:=by
 unfold insAt;rw[bD,aN,d9,aPA]
 lia
theorem Vals.insAt{xs:List V}{us:List Value}{y:V}{u:Value}(h:Vals xs us)(r:RelV y u)(i:Int):Vals (TL.insAt xs i y) (aPL us i u):=by
 unfold TL.insAt aPL;rw[h.length]
 exact(L2.Vals.take _ h).append (.cons r (L2.Vals.drop _ h))
theorem aNu:MtR X "list.insert" (aL8 aHl):=by
 intro aa s σ H x vs v us Q I rx rv h;obtain⟨l,xs,ys,ex,hH,e,q⟩:=h;subst ex;cases rx;unfold aHl at e;split at e
 ·split at e
  ·rename_i hl;cases e;obtain⟨u1,u2,rfl,r1,r2⟩:=rv.two;obtain⟨t,rfl⟩:=r1;obtain⟨z,its,n,r,ly,eo⟩:=I.lstM hH;have fm:=lF
   refine call_meets PySem.F.slot_list_insert ⟨_,eo,rfl⟩ PySem.F.entry_list_insert (PySem.F.args_list_insert_3 _ _ _) (PySem.AutoSeq1.list_insert_list_int_val_1 l its.toArray n _ t u2 (by rw[fitsIndex_both hl.2.1 hl.2.2];exact bY) (by rw[bG];lia)) ⟨eo,?_⟩
   refine⟨.non,_,I.lset (its':=aPL its _ u2) hH eo ?_ (Vals.insAt r r2 _) ?_,rfl,q⟩
   ·show(its.toArray.extract 0 _).push u2++its.toArray.extract _=_;rw[PySem.W.kl_ins_eq,bG];rfl
   ·rw[aFo];lia
  ·cases e
 ·cases e
theorem aGn(hc:X.calm=true):nV X (.builtin "sum") (aCW X.K (fun _=>true) (fun ns=>ns.sum)):=by
 intro aa s σ H xs us Q I r h;obtain⟨p,ns,rfl,hq,_,q⟩:=h;obtain⟨u,rfl,ru⟩:=vals1 r;cases ru;obtain⟨its,rv,pl,hz⟩:=I.list hq;have hi:=oX rv;obtain⟨ys,hx⟩:=hi.allInts.items;have dq:s.heap.IsList p (intItems ys):=hx ▸ pl.isList
 refine sum_intListG (I.ok.hd hc) dq fun h' tk t' hk=>?_
 have e1:ns=ys.toList.map (·.1):=by
  rw[<-nums_intItems,<-hx]
  exact(show numsOf its.toArray.toList=ns from hi.numsOf).symm
 have e2:preSum (numAt ys) ys.size=ns.sum:=by
  rw[preSum_eq,dQ (by simp),e1]
 rw[e2]
 exact⟨.int ns.sum,H,I.kept hk,⟨_,rfl⟩,q⟩
theorem aAw:∀{ns:List Int},ns≠[]->t9 ns∈ns/\∀a∈ns,a<=t9 ns:=by
 have key:∀(ns:List Int)(n:Int),(ns.foldl (fun a b=>if b>a then b else a) n=n\/ns.foldl (fun a b=>if b>a then b else a) n∈ns)/\n<=ns.foldl (fun a b=>if b>a then b else a) n/\∀a∈ns,a<=ns.foldl (fun a b=>if b>a then b else a) n:=by
  intro ns;induction ns with
  |nil=>intro n;simp
  |cons m ns ih=>
   intro n;rw[aPg];obtain⟨h1,h2,h3⟩:=ih (if m>n then m else n);by_cases hm:m>n
   ·rw[if_pos hm]at h1 h2 h3|-
    refine⟨?_,by lia,fun a ha=>?_⟩
    ·rcases h1 with h1|h1
     ·rw[h1];simp
     ·exact .inr (aZ _ h1)
    ·rcases bE.mp ha with rfl|ha
     ·exact h2
     ·exact h3 a ha
   ·rw[if_neg hm]at h1 h2 h3|-
    refine⟨?_,h2,fun a ha=>?_⟩
    ·rcases h1 with h1|h1
     ·exact .inl h1
     ·exact .inr (aZ _ h1)
    ·rcases bE.mp ha with rfl|ha
     ·lia
     ·exact h3 a ha
 intro ns ba;cases ns with
 |nil=>exact absurd rfl ba
 |cons n ns=>
  obtain⟨h1,h2,h3⟩:=key ns n
  refine⟨?_,fun a ha=>?_⟩
  ·rcases h1 with h1|h1
   ·show aPT (fun a b=>if b>a then b else a) n ns∈n::ns;rw[h1];simp
   ·exact aZ _ h1
  ·rcases bE.mp ha with rfl|ha
   ·exact h2
   ·exact h3 a ha
theorem aFr(hc:X.calm=true):nV X (.builtin "max") (aCW X.K (fun ns=> !ns.isEmpty) t9):=by
 intro aa s σ H xs us Q I r h;obtain⟨p,ns,rfl,hq,ba,q⟩:=h;obtain⟨u,rfl,ru⟩:=vals1 r;cases ru;obtain⟨its,rv,pl,hz⟩:=I.list hq;have hi:=oX rv;have io:ns≠[]:=by rintro rfl;simp at ba
 obtain⟨ys,hx⟩:=hi.allInts.items;have dq:s.heap.IsList p (intItems ys):=hx ▸ pl.isList;have fj:ns=ys.toList.map (·.1):=by
  rw[<-nums_intItems,<-hx]
  exact(show numsOf its.toArray.toList=ns from hi.numsOf).symm
 have hsz:0<ys.size:=by
  have h3:0<ns.length:=d7.mpr io;rw[fj,aS,b7]at h3;exact h3
 refine max_intList (I.ok.hd hc) dq hsz fun v h' tk hv hk=>?_
 obtain⟨t,rfl⟩:=intItems_at hv;obtain⟨h1,h2⟩:=argBest_gt (numAt ys) (ys.size - 1);obtain⟨m1,m2⟩:=aAw io;obtain⟨M,hM⟩:∃M,M=t9 ns:=⟨_,rfl⟩;rw[<-hM]at m1 m2 q;have e:numAt ys (argBest (fun i j=>decide (numAt ys i>numAt ys j)) (ys.size - 1))=M:=by
  apply aO0
  ·refine m2 _ ?_
   rw[fj,numAt_eq];exact getD_mem (by rw[aS,b7];lia)
  ·have qr:=m1;rw[fj]at qr;obtain⟨j,hj,ej⟩:=mem_getD qr;rw[aS,b7]at hj;rw[<-ej,<-numAt_eq];exact h2 j (by lia)
 exact⟨.int M,H,I.kept hk,⟨_,by rw[e]⟩,q⟩
theorem aBM{bs:List Bool}:∀{us:List Value},Vals (bs.map V.bl) us->us=bs.map Value.bool:=by
 induction bs with
 |nil=>intro us r;rw[bB]at r;cases r;rfl
 |cons n ns ih=>
  intro us r;rw[aM]at r;cases r with
  |cons r1 r2=>
   cases r1;rw[ih r2];rfl
theorem aDe(bs:List Bool):((bI bs.length).all fun i=>(bs[i]?).getD true)=bs.all id:=by
 rw[eJ,aOS,aOS];constructor
 ·intro h b hb;obtain⟨i,hi,rfl⟩:=List.getElem_of_mem hb;have:=h i (cT.mpr hi);simpa[bA hi]using this
 ·intro h i hi;have du:=cT.mp hi;simpa[bA du]using h _ (dS du)
theorem aJb{s:Shared}{h':Heap}{o:Obj}(hk:∀b x,b∉[s.heap.objs.size]->(s.heap.push o).get? b=some x->h'.get? b=some x):∀b x,s.heap.get? b=some x->h'.get? b=some x:=
 fun b x e=>hk b x (fun hm=>by rw[bS.mp hm]at e;exact cP _ (Heap.lt_size e)) (Heap.get?_push_of_some _ e)
theorem aGs(hc:X.calm=true):nV X (.builtin "all") (rBls X.K (fun bs=>bs.all id)):=by
 intro aa s σ H xs us Q I r h;obtain⟨p,bs,rfl,hq,q⟩:=h;obtain⟨u,rfl,ru⟩:=vals1 r;cases ru;obtain⟨its,rv,pl,hz⟩:=I.list hq;have hb:=aBM rv;subst hb;have bf:p<s.heap.objs.size:=pl.lt
 refine call_all_walk (wpAny_pyIter_list pl.isList ?_)
 refine⟨s.heap.objs.size,[s.heap.objs.size,p],[s.heap.objs.size],(bs.map Value.bool).toArray.size,_,_,fun i=>(bs[i]?).getD true,rfl,Walks.list (A:=X.A.in1) (I.ok.hd hc) _ p (bW bf) (bs.map Value.bool).toArray,
  ⟨⟨_,Heap.get?_push_size _ rfl,rfl,rfl⟩,pl.isList.push _⟩,fun i v s' Q' E' hP hQ=>?_,fun h' tk hk=>?_⟩
 ·simp only[List.getElem?_toArray,bH]at hP;cases e:bs[i]?with
  |none=>rw[e]at hP;cases hP
  |some b=>
   rw[e]at hP;cases hP;simp only[e,cF]at hQ
   exact wpAny_truthy_bool hQ
 ·have e:((bI (bs.map Value.bool).toArray.size).all fun i=>(bs[i]?).getD true)=bs.all id:=by
   rw[bG,aS];exact aDe bs
  rw[e]
  exact⟨.bl _,H,I.kept (aJb hk),rfl,q⟩
end
section
variable {X:Cx}{aa:List (Addr×Obj)}{σ:L2.St}{H:Hp}{s:Shared}
variable{t1 t2:T}{b:Bool}
theorem aGC{A:Around}{x y:V}{u v:Value}(h1:RT X.K H [] t1 x)(h2:RT X.K H [] t2 y)(r1:RelV x u)(r2:RelV y v)(e:eqF t1 t2=some b):SeqAt.EqAt A s u v b:=by
 unfold eqF at e;split at e<;>first
  | (cases e;done)
  | (cases e
     unfold RT at h1 h2;subst h1 h2;have q:=aLX (A:=A) (s:=s) r1 r2 rfl rfl
     exact q)
theorem aC5{x:V}(h1:RT X.K H [] t1 x)(h2:RT X.K H [] t2 x)(e:eqF t1 t2=some b):b=true:=by
 unfold eqF at e;split at e<;>first
  | (cases e;done)
  | (cases e
     unfold RT at h1 h2;rw[h1]at h2;first|rfl| (cases h2;simp)| (exact nomatch h2))
theorem aCT{e:T->T->Option Bool}{vs:List V}(he:∀t1 t2 x b,RT X.K H [] t1 x->RT X.K H [] t2 x->e t1 t2=some b->b=true):∀{ts us:List T}{vs:List V}{b:Bool},RTs X.K H [] ts vs->RTs X.K H [] us vs->eqL e ts us=some b->b=true
 | [],[],_,b,_,_,q=>by cases q;rfl
 |t::ts,u::us,vs,b,h1,h2,q=>by
  obtain⟨v,r,rfl,a1,a2⟩:=h1.cons_inv;obtain⟨v',r',z,b1,b2⟩:=h2.cons_inv;cases z;unfold eqL at q;obtain⟨c,q1,q⟩:=aK.mp q;obtain⟨d,q2,q⟩:=aL.mp q;rw[he _ _ _ _ a1 b1 q1,aCT (vs:=vs) he a2 b2 q2]at q
  exact q.symm
 | [],_::_,_,_,_,_,q=>by cases q
 |_::_,[],_,_,_,_,q=>by cases q
theorem aHT(I:Inv X aa σ H s):∀(n:Nat)(t1 t2:T)(x:V)(b:Bool),RT X.K H [] t1 x->RT X.K H [] t2 x->eqT n t1 t2=some b->b=true:=by
 intro n;induction n with
 |zero=>intro t1 t2 x b h1 h2 e;exact aC5 h1 h2 (by unfold eqT at e;exact e)
 |succ n ih=>
  intro t1 t2 x b h1 h2 e;by_cases hl:∃xs ys,t1=.lst xs/\t2=.lst ys
  ·obtain⟨xs,ys,rfl,rfl⟩:=hl;unfold RT at h1 h2;obtain⟨a,vs,e1,q1,r1⟩:=h1;obtain⟨a',vs',e2,q2,r2⟩:=h2;rw[e1]at e2;cases e2;have:=I.list_inj q1 q2;subst this;unfold eqT at e;rw[if_pos (by rw[<-r1.length,<-r2.length])]at e
   exact aCT (vs:=vs) ih r1 r2 e
  ·have e':eqF t1 t2=some b:=by
    unfold eqT at e;split at e
    ·exact absurd ⟨_,_,rfl,rfl⟩ hl
    ·exact e
   exact aC5 h1 h2 e'
theorem aBr{e:T->T->Option Bool}{A:Around}(he:∀t1 t2 x y u v b,RT X.K H [] t1 x->RT X.K H [] t2 y->RelV x u->RelV y v->e t1 t2=some b->SeqAt.EqAt A s u v b):
 ∀{ts us:List T}{vs ws:List V}{is js:List Value}{b:Bool},RTs X.K H [] ts vs->RTs X.K H [] us ws->Vals vs is->Vals ws js->eqL e ts us=some b->
  ∃f:Nat->Bool,(∀j u v,is[j]?=some u->js[j]?=some v->SeqAt.EqAt A s u v (f j))/\(bI is.length).all f=b
 | [],[],_,_,_,_,b,h1,h2,v1,v2,q=>by
   cases q;rw[h1.nil_inv]at v1;cases v1
   exact⟨fun _=>true,fun j u v z=>by simp at z,rfl⟩
 |t::ts,u::us,vs,ws,is,js,b,h1,h2,v1,v2,q=>by
  obtain⟨v,r,rfl,a1,a2⟩:=h1.cons_inv;obtain⟨v',r',rfl,b1,b2⟩:=h2.cons_inv;unfold eqL at q;obtain⟨c,q1,q⟩:=aK.mp q;obtain⟨d,q2,q⟩:=aL.mp q;cases v1 with
  |cons x1 y1=>
   cases v2 with
   |cons x2 y2=>
    obtain⟨f,f1,f2⟩:=aBr he a2 b2 y1 y2 q2
    refine⟨fun j=>match j with|0=>c|j+1=>f j,fun j u v z1 z2=>?_,?_⟩
    ·cases j with
     |zero=>
      simp at z1 z2;subst z1 z2
      exact he _ _ _ _ _ _ _ a1 b1 x1 x2 q1
     |succ j=>exact f1 j u v (by simpa using z1) (by simpa using z2)
    ·rw[aN,eB,aQn,aQt,<-q,<-f2];rfl
 | [],_::_,_,_,_,_,_,_,_,_,_,q=>by cases q
 |_::_,[],_,_,_,_,_,_,_,_,_,q=>by cases q
theorem aD2(I:Inv X aa σ H s):∀(n:Nat)(A:Around)(t1 t2:T)(x y:V)(u v:Value)(b:Bool),A.units+n<cLine->RT X.K H [] t1 x->RT X.K H [] t2 y->RelV x u->RelV y v->eqT n t1 t2=some b->SeqAt.EqAt A s u v b:=by
 intro n;induction n with
 |zero=>intro A t1 t2 x y u v b hu h1 h2 r1 r2 e;exact aGC h1 h2 r1 r2 (by unfold eqT at e;exact e)
 |succ n ih=>
  intro A t1 t2 x y u v b hu h1 h2 r1 r2 e;by_cases hl:∃xs ys,t1=.lst xs/\t2=.lst ys
  ·obtain⟨xs,ys,rfl,rfl⟩:=hl;have sm:x=y->b=true:=fun z=>by subst z;exact aHT I _ _ _ _ _ h1 h2 e
   unfold RT at h1 h2;obtain⟨a,vs,e1,q1,k1⟩:=h1;obtain⟨c,ws,e2,q2,k2⟩:=h2;subst e1 e2;cases r1;cases r2;by_cases ow:a=c
   ·subst ow;rw[sm rfl]
    exact SeqAt.EqAt.same _
   ·obtain⟨is,v1,p1,z1⟩:=I.list q1;obtain⟨js,v2,p2,z2⟩:=I.list q2;have l1:=v1.length;have l2:=v2.length;unfold eqT at e;split at e
    ·rename_i ai;obtain⟨f,f1,f2⟩:=aBr (A:=A.in1) (fun t1 t2 x y u v b a1 a2 a3 a4 a5=>ih A.in1 t1 t2 x y u v b (by show A.units+1+n<cLine;lia) a1 a2 a3 a4 a5) k1 k2 v1 v2 e;have q:=SeqAt.EqAt.of_refs ow (SeqAt.RcAt.lists (A:=A) (s:=s) (e:=f) p1.isList p2.isList (by rw[bG,bG,<-l1,<-l2,k1.length,k2.length];exact ai) (by lia) fun j h1 h2=>
      f1 j _ _ (by simp) (by simp))
     rw[bG,f2]at q
     exact q
    ·rename_i ai;cases e
     refine SeqAt.EqAt.of_refs ow (SeqAt.RcAt.lists_lengths p1.isList p2.isList ?_ (by lia))
     rw[bG,bG,<-l1,<-l2,k1.length,k2.length];simpa using ai
  ·have e':eqF t1 t2=some b:=by
    unfold eqT at e;split at e
    ·exact absurd ⟨_,_,rfl,rfl⟩ hl
    ·exact e
   exact aGC h1 h2 r1 r2 e'
end
noncomputable def pR(cells:List (Str×Addr)):List (Str×NameKind)->List (Str×Addr)->Option (List (Str×Addr))
 | [],acc=>some acc
 | (n,k)::r,acc=>if(k==NameKind.free)=true then(match cells.lookup n with
  |some c=>pR cells r ((n,c)::acc)
  |none=>none)else pR cells r acc
theorem yP{env:Env}:∀(ns:List (Str×NameKind))(acc cl:List (Str×Addr)),pR env.cells ns acc=some cl->
 (forIn ns acc fun(x:Str×NameKind) (cs:List (Str×Addr))=>if(x.2==NameKind.free)=true then do let c<-cellOf env x.1;pure (ForInStep.yield ((x.1,c)::cs))else pure (ForInStep.yield cs):Sem (List (Str×Addr)))=pure cl
 | [],acc,cl,e=>by cases e;rfl
 | (n,k)::r,acc,cl,e=>by
   unfold pR at e;rw[List.forIn_cons];split at e
   ·rename_i hk;split at e
    ·rename_i c hc;have:=yP r _ cl e;simp only[hk,if_true];unfold cellOf;rw[hc]
     exact this
    ·cases e
   ·rename_i hk;have:=yP r _ cl e;simp only[hk,if_false]
    exact this
theorem aEp{env:Env}{scope:Scope}{cl:List (Str×Addr)}(e:pR env.cells scope.names []=some cl):closureFor scope env=pure cl:=by
 have h:=yP scope.names [] cl e;unfold closureFor;first
  |exact h
  | (simp only[bind_pure]at*;exact h)
  | (show(forIn scope.names [] _>>=fun r=>pure r)=pure cl;rw[bind_pure];exact h)
theorem tW{cells:List (Str×Addr)}:∀(ns:List (Str×NameKind))(acc cl:List (Str×Addr)),pR cells ns acc=some cl->(∀x c,acc.lookup x=some c->cells.lookup x=some c)->
 (∀x c,cl.lookup x=some c->cells.lookup x=some c)
 | [],acc,cl,e,h=>by cases e;exact h
 | (n,k)::r,acc,cl,e,h=>by
   unfold pR at e;split at e
   ·split at e
    ·rename_i c hc
     refine tW r _ cl e fun x d hx=>?_
     rw[b4]at hx;split at hx
     ·rename_i q;cases hx;rw[eq_of_beq q];exact hc
     ·exact h x d hx
    ·cases e
   ·exact tW r _ cl e h
theorem qK{cells:List (Str×Addr)}:∀(ns:List (Str×NameKind))(acc cl:List (Str×Addr)),pR cells ns acc=some cl->∀x,((x,NameKind.free)∈ns\/∃c,acc.lookup x=some c)->∃c,cl.lookup x=some c
 | [],acc,cl,e,x,h=>by
   cases e;rcases h with h|h
   ·cases h
   ·exact h
 | (n,k)::r,acc,cl,e,x,h=>by
   unfold pR at e;split at e
   ·split at e
    ·rename_i c hc
     refine qK r _ cl e x ?_
     rcases h with h|h
     ·rcases bE.mp h with h|h
      ·cases h
       exact .inr ⟨c,by simp[b4]⟩
      ·exact .inl h
     ·obtain⟨d,hd⟩:=h;by_cases hx:(x==n)=true
      ·exact .inr ⟨c,by rw[b4,hx]⟩
      ·refine .inr ⟨d,?_⟩
       rw[b4];simp only[hx]
       exact hd
    ·cases e
   ·rename_i hk
    refine qK r _ cl e x ?_
    rcases h with h|h
    ·rcases bE.mp h with h|h
     ·cases h;exact absurd rfl hk
     ·exact .inl h
    ·exact .inr h
abbrev gP(X:Cx)(N:List Str)(scope:Scope)(cl:List (Str×Addr))(C:Addr)(s3:Shared)(H3:Hp)(fp:List Addr):Cx:=
 {X with N:=N,s₀:=s3,H₀:=H3,env:=compEnvC scope cl C X.env,outer:=X.stack,stack:=X.stack,ex:=fp,fn:=fun _=>false,pn:=[],xe:=fun _ _=>False}
theorem nF{env:Env}:∀{names:List (Str×NameKind)}{x:Str},(∀y∈names,y.2≠ .cell)->
 ((names.map fun(n,k)=>if(k==NameKind.free&&env.scope.kind== .function&&env.kindOf n==some .cell)=true then(n,NameKind.cell)else(n,k)).lookup x=some .cell\/
  (names.map fun(n,k)=>if(k==NameKind.free&&env.scope.kind== .function&&env.kindOf n==some .cell)=true then(n,NameKind.cell)else(n,k)).lookup x=some .free)->(x,NameKind.free)∈names
 | [],x,_,h=>by rcases h with h|h<;>simp at h
 | (n,k)::r,x,hc,h=>by
   have ih:= @nF env r x (fun y hy=>hc y (aZ _ hy));have hk:k≠ .cell:=hc (n,k) bJ;rw[aM]at h;by_cases hx:(x==n)=true
   ·have xp:x=n:=eq_of_beq hx;subst xp;by_cases gu:(k==NameKind.free&&env.scope.kind== .function&&env.kindOf x==some .cell)=true
    ·have:k=.free:=by
      rw[aPc,aPc]at gu
      exact eq_of_beq gu.1.1
     subst this
     exact bJ
    ·simp only[if_neg gu,b4,hx]at h;rcases h with h|h
     ·cases h;exact absurd rfl hk
     ·cases h;exact bJ
   ·refine aZ _ (ih ?_)
    by_cases gu:(k==NameKind.free&&env.scope.kind== .function&&env.kindOf n==some .cell)=true
    ·simp only[if_pos gu,b4,hx]at h
     exact h
    ·simp only[if_neg gu,b4,hx]at h
     exact h
structure mG(X:Cx)(own fr:List Str)(is:List Nat)(scope:Scope)(cl:List (Str×Addr)):Prop where
 clos:pR X.env.cells scope.names []=some cl
 cell:∀y∈scope.names,y.2≠ .cell
 kind:scope.kind=.function
 names:∀y∈scope.names,y.2=.local->scope.names.lookup y.1=some .local
 pick:is.map (fun i=>X.N[i]?)=fr.map some
 kx:fr.all (fun x=>X.env.kindOf x==some .cell||X.env.kindOf x==some .free)=true
 ky:fr.all (fun x=>(relabel scope X.env).names.lookup x==some .cell||(relabel scope X.env).names.lookup x==some .free)=true
section
variable {X:Cx}{own fr:List Str}{is:List Nat}{scope:Scope}{cl:List (Str×Addr)}
variable{aa:List (Addr×Obj)}{σ:L2.St}{s:Shared}{fp:List Addr}{bd iter tg:Expr}{ifs:List Expr}{pos:Pos}{te:TE}{wi:TI}
theorem aEO{x:Option NameKind}(h:(x==some .cell||x==some .free)=true):x=some .cell\/x=some .free:=by
 rw[Bool.or_eq_true]at h;rcases h with h|h
 ·exact .inl (eq_of_beq h)
 ·exact .inr (eq_of_beq h)
theorem aHm{H:Hp}{bb:Heap}{tk:Nat}(k:mG X own fr is scope cl)(I:Inv X aa σ H s)(hf:∀b∈fp,uC X aa H b/\b<s.heap.objs.size)
 (hn:bb.Ns s.heap.objs.size (fun x=>([]:List (Str×Value)).reverse.lookup x))(hs:Heap.SameBut s.heap.objs.size (s.heap.push {cls:=.type "dict",data:=.dict #[]}) bb):
 Inv (gP X (own++fr) scope cl s.heap.objs.size s H fp) [] (scV own.length is σ) H {s with heap:=bb,toks:=tk}:=by
 have hk:∀b o,s.heap.get? b=some o->bb.get? b=some o:=fun b o e=>(hs.2 b (bW (Heap.lt_size e))).trans (Heap.get?_push_of_some _ e)
 have sub:=tW _ _ _ k.clos (fun x c z=>by simp at z);have kz:∀x c,cl.lookup x=some c->∃v,s.heap.IsCell c v:=fun x c e=>I.cell x c (sub x c e)
 have la:∀{c v},s.heap.IsCell c v->bb.IsCell c v:=fun⟨o,ho,hd⟩=>⟨o,hk _ o ho,hd⟩
 have cne:∀x c,cl.lookup x=some c->c≠s.heap.objs.size:=fun x c e z=>by
  obtain⟨v,o,ho,_⟩:=kz x c e
  exact absurd (z ▸ Heap.lt_size ho) (cP _)
 refine⟨⟨I.ok.mod,k.kind,I.ok.glob,I.ok.blt,bF _,fun x y c h1 h2=>I.ok.inj x y c (sub x c h1) (sub y c h2),fun x hx=>?_,fun x c h=>(by cases h),I.ok.hd,I.ok.frames,.inl rfl,fun b hb=>⟨bW (hf b hb).2,fun x c e=>(hf b hb).1.2.2.2.2.1 x c (sub x c e)⟩,
  fun b o e=>I.bs b o e,cB I.ok.bsz I.sz,fun b o e hb=>?_,fun b hb z=>?_,I.stack,I.stkFree⟩,
  rfl,I.bare,Un.kept hk,⟨_,hn,fun i x v h1 h2 h3=>?_⟩,fun x c e=>?_,I.hok.fresh (bF _),fun x c e=>I.freeC x c (sub x c e),fun p hp=>absurd hp (by simp),I.hok.kept hk,?_⟩
 ·have xp:(relabel scope X.env).names.lookup x=some .cell\/(relabel scope X.env).names.lookup x=some .free:=hx
  exact qK _ _ _ k.clos x (.inl (nF k.cell xp))
 ·rcases(hf b hb).1.2.2.2.1 with z|z
  ·exact I.ok.noex b o e z
  ·exact absurd (bO (Heap.lt_size e) (cB I.ok.bsz z)) (cP _)
 ·rcases bE.mp (I.stkSub b z)with q|q
  ·exact(hf b hb).1.2.1 q
  ·exact(hf b hb).1.2.2.1 q
 ·
  have hi:¬i<own.length:=fun hi=>by
   unfold scV at h2;rw[aY (by simpa using hi),cN,if_pos hi]at h2;cases h2
  have du:=aPb hi;unfold scV at h2;rw[bK (by simpa using du),bH]at h2;simp only[eP]at h2;obtain⟨j,hj,z⟩:=aL.mp h2;have hσ:σ[j]?=some (some v):=by
   cases q:σ[j]?with
   |none=>rw[q]at z;cases z
   |some u=>rw[q]at z;exact congrArg some z
  have gw:fr[i - own.length]?=some x:=by
   have:(own++fr)[i]?=some x:=h1;rw[bK du]at this
   exact this
  have hN:X.N[j]?=some x:=by
   have:=congrArg (fun l=>l[i - own.length]?) k.pick;simp only[bH,hj,gw,eK]at this
   exact cE.inj this
  have vc:x∈fr:=bC gw;have kx:=aEO (aOS.mp k.kx x vc);have ky:=aEO (aOS.mp k.ky x vc);obtain⟨m,_,hl⟩:=I.loc
  obtain⟨u,r,l⟩:=hl j x v hN hσ (by rcases kx with z|z;·exact .inr (.inl z)
                                    ·exact .inr (.inr z))
  refine⟨u,r,.inr ⟨ky,?_⟩⟩
  rcases l with⟨z,_⟩| ⟨_,c,e,q⟩
  ·rcases kx with w|w<;>(rw[w]at z;cases z)
  ·obtain⟨d,hd⟩:=qK _ _ _ k.clos x (.inl (nF k.cell ky));have:=sub x d hd;rw[e]at this;cases this
   exact⟨c,hd,la q⟩
 ·obtain⟨v,q⟩:=kz x c e
  exact⟨v,la q⟩
 ·unfold scV;show _=(own++fr).length;have:=congrArg aQd k.pick;simp only[aS]at this;simp[this]
theorem aGr{gd:L2.St}{H H':Hp}{s':Shared}{h':Heap}(I:Inv X aa σ H s)(hf:∀b∈fp,uC X aa H b)
 (J:Inv (gP X (own++fr) scope cl s.heap.objs.size s H fp) [] gd H' s')(hs:Heap.SameBut s.heap.objs.size s'.heap h'):Inv X aa σ H' {s' with heap:=h'}:=by
 have u:Un (frs X.stack) fp H H' s.heap s'.heap:=J.base;have ne:∀b o,s.heap.get? b=some o->b≠s.heap.objs.size:=fun b o e=>bW (Heap.lt_size e)
 have u':Un (frs X.stack) fp H H' s.heap h':=⟨fun b o e n h1 h2=>(hs.2 b (ne b o e)).trans (u.keep b o e n h1 h2),fun b o e n h1 h2=>by
  obtain⟨sl,q⟩:=u.slot b o e n h1 h2
  exact⟨sl,(hs.2 b (ne b o e)).trans q⟩,u.free,fun b o e h2=>by
  obtain⟨o',q⟩:=u.there b o e h2
  exact⟨o',(hs.2 b (ne b o e)).trans q⟩,u.tups,u.frzs,u.tbls⟩
 have da:H' s.heap.objs.size=none:=J.free;have hok:HOk X.prog X.w H' h':=fun b ob e=>by
  refine(J.hok b ob e).stay (fun c w' hc q=>(hs.2 c ?_).trans q) (fun _ q=>q) fun _ _ q=>q
  rintro rfl;rcases hc with rfl|hc
  ·rw[da]at e;cases e
  ·rw[da]at hc;cases hc
 exact I.call' (s':={s' with heap:=h'}) J.os u' hok J.bare fun b hb=>⟨(hf b hb).2.2.2.1,(hf b hb).2.1,(hf b hb).2.2.2.2.1,(hf b hb).2.2.2.2.2⟩
theorem xD{prog:Program}{w:World}{A:Around}{R:Result->Shared->Prop}{target:Expr}{scope:Scope}{it acc:Value}{env:Env}(I:Nat->Shared->Prop)
 (turn:∀n s,I n s->wpAny (model prog w) A (pyNext it) (fun r aj=>match r with
  |none=>R (.ok .next) aj
  |some v=>wpAny (model prog w) A (letOwnedTupleGo target it v) (fun _ aj=>wpAny (model prog w) A (assign target env v) (fun _ bi=>
   wpAny (model prog w) A (forIn ifs true fun c r=>if r=true then do let ok<-isTrue c env (eval c env);pure (ForInStep.yield ok)else pure (ForInStep.yield r)) (fun ok bw=>
    if ok=true then wpAny (model prog w) A (eval bd env) (fun x jp=>
     wpAny (model prog w) A (call (.builtin "list.append") [acc,x]) (fun _ qf=>∃m,m<n/\I m qf) (fun _ _=>False) jp) (fun _ _=>False) bw
    else∃m,m<n/\I m bw) (fun _ _=>False) bi) (fun _ _=>False) aj) (fun _ _=>False) aj) (fun _ _=>False) s)
 (n:Nat)(h:I n s):
 codeAny (model prog w) A (.compLoop (.ListComp bd [⟨target,iter,ifs,0⟩] scope pos) 0 it acc env) R s:=by
 refine codeAny_loop rfl I (fun n s hI=>?_) n h
 show wpAny _ A ((compTurn (.ListComp bd [⟨target,iter,ifs,0⟩] scope pos) 0 it acc env).onRaise (fun x=>do noteFrame x env;theTreesLotGoes x)) _ _ s
 refine wpAny_noted ?_
 rw[compTurn_list]
 refine wpAny_bind (wpAny_standAt (wpAny_bind (wpAny_mono (turn n s hI) (fun r aj bb=>?_) fun _ _ h'=>h'.elim)))
 cases r with
 |none=>exact wpAny_pure bb
 |some v=>
  refine wpAny_bind (wpAny_mono bb (fun _ aj bb=>?_) fun _ _ h'=>h'.elim)
  refine wpAny_bind (wpAny_mono bb (fun _ bi cj=>wpAny_bind (wpAny_mono cj (fun ok bw jq=>?_) fun _ _ h'=>h'.elim)) fun _ _ h'=>h'.elim)
  cases ok with
  |false=>exact wpAny_pure ⟨rfl,jq⟩
  |true=>
   exact wpAny_bind (wpAny_bind (wpAny_mono jq (fun x jp xh=>wpAny_bind (wpAny_mono xh (fun _ qf xg=>wpAny_pure (wpAny_pure ⟨rfl,xg⟩)) fun _ _ h'=>h'.elim)) fun _ _ h'=>h'.elim))
def PTs(X:Cx)(ifs:List Expr)(t:TT):Prop:=
 ∀(aa:List (Addr×Obj))(s:Shared)(σ:L2.St)(H:Hp)(Q:Bool->Hp->Prop),Inv X aa σ H s->t σ H Q->
  wpAny (model X.prog X.w) X.A (forIn ifs true fun c r=>if r=true then do let ok<-isTrue c X.env (eval c X.env);pure (ForInStep.yield ok)else pure (ForInStep.yield r)) (TP X aa σ Q) X.xe s
theorem aKH:PTs X [] (fun _ H Q=>Q true H):=fun _ _ _ H _ I h=>wpAny_tests_nil ⟨H,I,h⟩
theorem aJl{c:Expr}{t:TT}(h:PT X c t):PTs X [c] t:=fun aa s σ H Q I q=>wpAny_tests_one (h aa s σ H Q I q)
theorem yG{g:TG}{tc:TT}{H2:Hp}{s2:Shared}{it:Addr}{tn:Nat->Heap->Prop}{J:It}{Q:VK}
 {RR:Value->Addr->Result->Shared->Prop}{E:Value->Shared->Prop}
 (hc:X.calm=true)(k:mG X own fr is scope cl)
 (hg:∀C s3 H3 fp,PG (gP X (own++fr) scope cl C s3 H3 fp) tg g)(ht:∀C s3 H3 fp,PTs (gP X (own++fr) scope cl C s3 H3 fp) ifs tc)(he:∀C s3 H3 fp,PE (gP X (own++fr) scope cl C s3 H3 fp) bd te)
 (I2:Inv X aa σ H2 s2)(T:Turn X.prog X.w X.K tg J fp it tn)(jz:tn 0 s2.heap)(f2:∀b∈fp,uC X aa H2 b)
 (q:∀D,H2 D=none->∃W:Nat->Nat->L2.St->Hp->Prop,(∃m,W 0 m (scV own.length is σ) (upd H2 D (.lst [])))/\∀i m gd H,W i m gd H->
  (J.stop i H/\Q (.ref D) H)\/(J.go i H/\∀x H',J.yld i H x H'->g x gd H' fun bn H2=>tc bn H2 fun b H3=>
   if b=true then te bn H3 fun y H4=>∃ys m',H4 D=some (.lst ys)/\ys.length<lim/\m'<m/\W (i+1) m' bn (upd H4 D (.lst (ys++[y])))else∃m',m'<m/\W (i+1) m' bn H3))
 (hRR:∀D C H' s',(∃m,s'.heap.Ns C m)->(∀h',Heap.SameBut C s'.heap h'->Inv X aa σ H' {s' with heap:=h'})->H' C=none->s2.heap.objs.size<=C->Q (.ref D) H'->RR (.ref D) C (.ok .next) s'):
 wpAny (model X.prog X.w) X.A (newList []) (fun acc bw=>wpAny (model X.prog X.w) X.A (newFunctionEnv scope X.env.globals cl [] X.env.qual none .none (some X.env)) (fun um jp=>
  codeAny (model X.prog X.w) X.A (.compStart (.ListComp bd [⟨tg,iter,ifs,0⟩] scope pos) 0 (.ref it) acc {um with scope:=relabel scope X.env}) (RR acc um.locals) jp) E bw) E s2:=by
 refine wpAny_newObj_type (wpAny_newFunctionEnv k.cell (by intro y hy;simp at hy) (fun bb lv ii=>?_) k.kind)
 have I3:Inv X aa σ (upd H2 s2.heap.objs.size (.lst [])) {s2 with heap:=s2.heap.push {cls:=.type "list",data:=.seq ([]:List Value).toArray}}:=I2.lnew (t':=s2.toks) (its:=[]) .nil (dF _);have hD:H2 s2.heap.objs.size=none:=I2.fresh;obtain⟨W,⟨m0,w0⟩,turn⟩:=q _ hD;have bf:∀b∈fp,b<s2.heap.objs.size:=fun b hb=>by
  obtain⟨o,e,_⟩:=T.obj _ _ jz b hb
  exact Heap.lt_size e
 have f3:∀b∈fp,uC X aa (upd H2 s2.heap.objs.size (.lst [])) b/\b<(s2.heap.push {cls:=.type "list",data:=.seq ([]:List Value).toArray}).objs.size:=fun b hb=>
  ⟨⟨by rw[fP (bW (bf b hb))];exact(f2 b hb).1,(f2 b hb).2⟩,by rw[Heap.size_push];exact aPv (bf b hb)⟩
 have J0:=aHm (tk:=s2.toks+([]:List (Str×Value)).length) k I3 f3 lv ii;have kept:∀b o,s2.heap.get? b=some o->bb.get? b=some o:=fun b o e=>(ii.2 b (by
  show b≠(s2.heap.push _).objs.size;rw[Heap.size_push]
  exact bW (aPv (Heap.lt_size e)))).trans (Heap.get?_push_of_some _ (Heap.get?_push_of_some _ e))
 have st4:tn 0 bb:=T.keep _ _ _ jz fun b _ o e=>kept b o e
 have ed:∀{H':Hp},(∀b∈fp,H' b=none)->∀b∈fp,uC (gP X (own++fr) scope cl (s2.heap.push {cls:=.type "list",data:=.seq ([]:List Value).toArray}).objs.size {s2 with heap:=s2.heap.push {cls:=.type "list",data:=.seq ([]:List Value).toArray}} (upd H2 s2.heap.objs.size (.lst [])) fp) [] H' b:=fun hn b hb=>
  ⟨hn b hb,bW (f3 b hb).2,fun z=>J0.ok.exfs b hb z,.inl hb,fun x c e=>(J0.ok.exf b hb).2 x c e,fun p hp=>absurd hp (by simp)⟩
 have loop:codeAny (model X.prog X.w) X.A (.compLoop (.ListComp bd [⟨tg,iter,ifs,0⟩] scope pos) 0 (.ref it) (.ref s2.heap.objs.size) (compEnvC scope cl (s2.heap.push {cls:=.type "list",data:=.seq ([]:List Value).toArray}).objs.size X.env))
  (RR (.ref s2.heap.objs.size) (s2.heap.push {cls:=.type "list",data:=.seq ([]:List Value).toArray}).objs.size) {s2 with heap:=bb,toks:=s2.toks+([]:List (Str×Value)).length}:=by
  refine xD (fun n s'=>∃i ah H',Inv (gP X (own++fr) scope cl (s2.heap.push {cls:=.type "list",data:=.seq ([]:List Value).toArray}).objs.size {s2 with heap:=s2.heap.push {cls:=.type "list",data:=.seq ([]:List Value).toArray}} (upd H2 s2.heap.objs.size (.lst [])) fp) [] ah H' s'/\tn i s'.heap/\(∀b∈fp,H' b=none)/\W i n ah H') ?_ m0
   ⟨0,_,_,J0,st4,fun b hb=>(f3 b hb).1.1,w0⟩
  rintro n s3 ⟨i,ce,H3,I3',qh,ui,w3⟩;rcases turn i n ce H3 w3 with⟨stop,qn⟩| ⟨go,step⟩
  ·refine thn (T.done (gP X (own++fr) scope cl _ _ _ fp) rfl rfl rfl hc i [] s3 ce H3 (fun _ _=>False) I3' (ed ui) qh stop) fun r s4 ⟨hr,I4⟩=>?_
   subst hr;obtain⟨m,hm,_⟩:=I4.loc
   refine hRR _ _ H3 s4 ⟨m,hm⟩ (fun h' og=>?_) I4.free ?_ qn
   ·have:=aGr I3 (fun b hb=>(f3 b hb).1) I4 og
    exact this
   ·show s2.heap.objs.size<=(s2.heap.push _).objs.size;rw[Heap.size_push]
    exact aQD _
  ·refine thn (T.item (gP X (own++fr) scope cl _ _ _ fp) rfl rfl rfl hc i [] s3 ce H3 (fun _ _=>False) I3' (ed ui) qh go) fun r s4 ⟨u,hr,h4⟩=>?_
   subst hr
   refine thn h4 fun _ s5 zz=>?_
   obtain⟨x,H5,I5,r5,y5,lf,zj⟩:=zz;have I5':=I5.pinned (ed zj) (T.obj _ _ lf)
   refine thn (hg _ _ _ _ _ s5 ce H5 x u _ I5' r5 (step x H5 y5)) fun _ s6 zz=>?_
   obtain⟨ni,H6,I6,q6⟩:=zz
   refine thn (ht _ _ _ _ _ s6 ni H6 _ I6 q6) fun ok s7 ⟨H7,I7,q7⟩=>?_
   have back:∀{dj:L2.St}{H7:Hp}{s7:Shared}{m':Nat},Inv (gP X (own++fr) scope cl (s2.heap.push {cls:=.type "list",data:=.seq ([]:List Value).toArray}).objs.size {s2 with heap:=s2.heap.push {cls:=.type "list",data:=.seq ([]:List Value).toArray}} (upd H2 s2.heap.objs.size (.lst [])) fp) ([]++xB fp s5.heap) dj H7 s7->m'<n->W (i+1) m' dj H7->
    ∃m,m<n/\∃i ah H',Inv (gP X (own++fr) scope cl (s2.heap.push {cls:=.type "list",data:=.seq ([]:List Value).toArray}).objs.size {s2 with heap:=s2.heap.push {cls:=.type "list",data:=.seq ([]:List Value).toArray}} (upd H2 s2.heap.objs.size (.lst [])) fp) [] ah H' s7/\tn i s7.heap/\(∀b∈fp,H' b=none)/\W i m ah H':=fun {dj H7 s7 m'} I7 hm w7=>by
    refine⟨m',hm,i+1,dj,H7,I7.unpinned,T.keep _ _ _ lf fun b hb o e=>(I7.pin (b,o) (cI _ (cI _ (oO hb e)))).1,fun b hb=>?_,w7⟩
    obtain⟨o,e,d⟩:=T.obj _ _ lf b hb
    exact(I7.pin (b,o) (cI _ (cI _ (oO hb e)))).2.1
   cases ok with
   |false=>
    try dsimp only at q7
    try dsimp only
    rw[if_neg (by simp)]at q7|-;obtain⟨m',hm,w7⟩:=q7
    exact back I7 hm w7
   |true=>
    try dsimp only at q7
    try dsimp only
    rw[if_pos rfl]at q7|-
    refine thn (he _ _ _ _ _ s7 ni H7 _ I7 q7) fun y s8 zz=>?_
    obtain⟨v,H8,I8,r8,ys,m',e8,l8,hm,w8⟩:=zz
    refine thn (aAA _ s8 ni H8 (.ref s2.heap.objs.size) [v] (.ref s2.heap.objs.size) [y] (fun _ H9=>W (i+1) m' ni H9) I8 rfl (.cons r8 .nil) ⟨_,ys,v,rfl,rfl,e8,bO l8 lF,w8⟩) fun _ s9 zz=>?_
    obtain⟨_,H9,I9,_,w9⟩:=zz
    exact back I9 hm w9
 exact codeAny_compStart_list loop (T.self X.A 0 _ _ _ st4 loop)
theorem v4{g:TG}{tc:TT}(hc:X.calm=true)(k:mG X own fr is scope cl)(hi:PI X tg iter wi)
 (hg:∀C s3 H3 fp,PG (gP X (own++fr) scope cl C s3 H3 fp) tg g)(ht:∀C s3 H3 fp,PTs (gP X (own++fr) scope cl C s3 H3 fp) ifs tc)(he:∀C s3 H3 fp,PE (gP X (own++fr) scope cl C s3 H3 fp) bd te)
 (hs:∀x,foldedSetIterable iter X.env x=pure x:=by intro _;rfl):PE X (.ListComp bd [⟨tg,iter,ifs,0⟩] scope pos) (aAS wi (scV own.length is) g tc te):=by
 intro aa s σ H Q I h;rw[eval_ListComp]
 refine wpAny_comprehension_free (use:=none) rfl hs (aEp k.clos) k.kind k.names (thn (hi aa s σ H _ I h) fun v s1 h1=>thn h1 fun va s2 h2=>?_)
 obtain⟨it,fp,tn,J,H2,e,I2,T,jz,f2,q⟩:=h2;subst e
 refine yG (RR:=fun acc C=>compPost (model X.prog X.w) X.A X.xe none (EP X aa σ Q) acc C) hc k hg ht he I2 T jz f2 q ?_
 intro D C H' s' hm hI _ _ qD;obtain⟨m,hm⟩:=hm
 exact⟨m,hm,fun h' og=>⟨.ref D,H',hI h' og,rfl,qD⟩⟩
theorem rM{ao bx:Pos}{g:TG}{tc:TT}{i:Nat}{x:Str}(hN:X.N.Nodup)(hx:X.N[i]?=some x)(sr:X.env.scope.names.lookup x=some .local)
 (hc:X.calm=true)(k:mG X own fr is scope cl)(hi:PI X tg iter wi)
 (hg:∀C s3 H3 fp,PG (gP X (own++fr) scope cl C s3 H3 fp) tg g)(ht:∀C s3 H3 fp,PTs (gP X (own++fr) scope cl C s3 H3 fp) ifs tc)(he:∀C s3 H3 fp,PE (gP X (own++fr) scope cl C s3 H3 fp) bd te)
 (jf:swapsWith (.ListComp bd [⟨tg,iter,ifs,0⟩] scope pos) (some (.Name x ao)) bx.line X.env=pure true)
 (hs:∀x,foldedSetIterable iter X.env x=pure x:=by intro _;rfl):PS X (.Assign [.Name x ao] (.ListComp bd [⟨tg,iter,ifs,0⟩] scope pos) bx) (aDg (aAS wi (scV own.length is) g tc te) (r9 i)):=by
 intro aa s σ H D I h;rw[exec_Assign_Name_used _ _ _ _ jf]
 refine wpAny_bind (wpAny_standAt (wpAny_bind ?_))
 show wpAny _ X.A (do let _<-comprehension (.ListComp bd [⟨tg,iter,ifs,0⟩] scope pos) scope X.env _ (newList []) false (eval iter X.env) (some (assign (.Name x ao) X.env))) _ _ s
 refine wpAny_bind (wpAny_mono (wpAny_comprehension_free (use:=some (assign (.Name x ao) X.env)) (Q:=fun _ s'=>SP X aa D .next s') rfl hs (aEp k.clos) k.kind k.names
  (thn (hi aa s σ H _ I h) fun v s1 h1=>thn h1 fun va s2 h2=>?_)) (fun _ s' hq=>wpAny_pure (wpAny_pure hq)) fun _ _ e=>e)
 obtain⟨it,fp,tn,J,H2,e,I2,T,jz,f2,q⟩:=h2;subst e
 refine yG (Q:=fun v H1=>D.nx (σ.set i (some v)) H1) (RR:=fun acc C=>compPost (model X.prog X.w) X.A X.xe (some (assign (.Name x ao) X.env)) (fun _ s'=>SP X aa D .next s') acc C) hc k hg ht he I2 T jz f2 q ?_
 intro A C H' s' hm hI hC ba qD;obtain⟨m,hm⟩:=hm;show wpAny _ X.A (assign (.Name x ao) X.env (.ref A)) _ _ _;have I':Inv X aa σ H' s':=hI s'.heap (Heap.SameBut.refl ..)
 refine wpAny_assign_Name (aAh (v:=.ref A) I' hN hx (.inl sr) rfl (fun qj I'' bo=>?_) (.inr sr))
 obtain⟨a,sb,ha⟩:=bo;have old:∀b o,s2.heap.get? b=some o->C≠b:=fun b o e z=>by
  subst z
  exact absurd (bO (Heap.lt_size e) ba) (cP _)
 have hl:∃o,s2.heap.get? X.env.locals=some o:=let ⟨_,⟨o,_,_,ho,_⟩,_⟩:=I2.loc;⟨o,ho⟩
 have ub:∀y c,X.env.cells.lookup y=some c->C≠c:=fun y c e=>by
  obtain⟨v,o,ho,_⟩:=I2.cell y c e
  exact old c o ho
 have haC:C≠a:=by
  rcases ha with rfl|ha
  ·obtain⟨o,ho⟩:=hl
   exact old _ o ho
  ·exact ub x a ha
 refine⟨m,hm.sameBut sb haC,fun h3 vd=>⟨σ.set i (some (.ref A)),H',?_,qD⟩⟩
 refine I''.turned (t':=qj.toks) (fun b o hb e=>(vd.2 b hb).trans e) hC ?_ (.inr (cB I2.sz ba)) (fun y c e=>Ne.symm (ub y c e)) fun p hp=>?_
 ·obtain⟨o,ho⟩:=hl
  exact old _ o ho
 ·exact Ne.symm (old _ _ (I2.pin p hp).1)
end
section
variable {X:Cx}
variable{A:Around}{s:Shared}{rs:List (Value×Bool)}
theorem aIY(hu:X.A.units+20<cLine):OpR X (compareOp .Eq) (aLM X.K false):=by
 intro aa s σ H x y u v Q I rx ry h;obtain⟨t1,t2,b,h1,h2,e,q⟩:=h;have q':Q (.bl b) H:=q;have fin:EP X aa σ Q (.bool b) s:=⟨.bl b,H,I,rfl,q'⟩;by_cases hl:∃xs ys,t1=.lst xs/\t2=.lst ys
 ·obtain⟨xs,ys,rfl,rfl⟩:=hl;unfold RT at h1 h2;obtain⟨a,vs,e1,q1,k1⟩:=h1;obtain⟨c,ws,e2,q2,k2⟩:=h2;subst e1 e2;cases rx;cases ry;obtain⟨is,v1,p1,z1⟩:=I.list q1;obtain⟨js,v2,p2,z2⟩:=I.list q2;have l1:=v1.length;have l2:=v2.length;unfold eqT at e;split at e
  ·rename_i ai;obtain⟨f,f1,f2⟩:=aBr (A:=X.A.in1) (fun t1 t2 x y u v b a1 a2 a3 a4 a5=>aD2 I _ X.A.in1 t1 t2 x y u v b (by show X.A.units+1+4<cLine;lia) a1 a2 a3 a4 a5) k1 k2 v1 v2 e
   refine SeqAt.eq_listAt (e:=f) p1.isList p2.isList (by rw[bG,bG,<-l1,<-l2,k1.length,k2.length];exact ai) (by lia) (fun j h1 h2=>
    f1 j _ _ (by simp) (by simp)) ?_
   rw[bG,f2]
   exact fin
  ·rename_i ai;cases e
   refine SeqAt.eq_list_lengthsAt p1.isList p2.isList ?_ (by lia) fin
   rw[bG,bG,<-l1,<-l2,k1.length,k2.length];simpa using ai
 ·have e':eqF t1 t2=some b:=by
   unfold eqT at e;split at e
   ·exact absurd ⟨_,_,rfl,rfl⟩ hl
   ·exact e
  unfold eqF at e';split at e'
  ·cases e';unfold RT at h1 h2;subst h1 h2;cases rx;cases ry;exact SeqAt.RcAt.bool_bool _ _ _ _ _ _ fin
  ·cases e';unfold RT at h1 h2;subst h1 h2;obtain⟨t,rfl⟩:=rx;obtain⟨t',rfl⟩:=ry;exact SeqAt.RcAt.int_int _ _ _ _ _ _ _ _ fin
  ·cases e';unfold RT at h1 h2;subst h1 h2;obtain⟨t,rfl⟩:=rx;obtain⟨t',rfl⟩:=ry;exact SeqAt.RcAt.str_str _ _ _ _ _ _ _ _ fin
  ·cases e'
theorem aMx(hu:X.A.units+20<cLine):OpR X (compareOp .NotEq) (aLM X.K true):=by
 intro aa s σ H x y u v Q I rx ry h;obtain⟨t1,t2,b,h1,h2,e,q⟩:=h;have q':Q (.bl (!b)) H:=q;have fin:EP X aa σ Q (.bool (!b)) s:=⟨.bl (!b),H,I,rfl,q'⟩;by_cases hl:∃xs ys,t1=.lst xs/\t2=.lst ys
 ·obtain⟨xs,ys,rfl,rfl⟩:=hl;unfold RT at h1 h2;obtain⟨a,vs,e1,q1,k1⟩:=h1;obtain⟨c,ws,e2,q2,k2⟩:=h2;subst e1 e2;cases rx;cases ry;obtain⟨is,v1,p1,z1⟩:=I.list q1;obtain⟨js,v2,p2,z2⟩:=I.list q2;have l1:=v1.length;have l2:=v2.length;unfold eqT at e;split at e
  ·rename_i ai;obtain⟨f,f1,f2⟩:=aBr (A:=X.A.in1) (fun t1 t2 x y u v b a1 a2 a3 a4 a5=>aD2 I _ X.A.in1 t1 t2 x y u v b (by show X.A.units+1+4<cLine;lia) a1 a2 a3 a4 a5) k1 k2 v1 v2 e
   refine SeqAt.RcNeAt.lists (e:=f) p1.isList p2.isList (by rw[bG,bG,<-l1,<-l2,k1.length,k2.length];exact ai) (by lia) (fun j h1 h2=>
    f1 j _ _ (by simp) (by simp)) _ _ _ _ ?_
   rw[bG,f2]
   exact fin
  ·rename_i ai;cases e
   refine SeqAt.RcNeAt.lists_lengths p1.isList p2.isList ?_ (by lia) _ _ _ _ fin
   rw[bG,bG,<-l1,<-l2,k1.length,k2.length];simpa using ai
 ·have e':eqF t1 t2=some b:=by
   unfold eqT at e;split at e
   ·exact absurd ⟨_,_,rfl,rfl⟩ hl
   ·exact e
  unfold eqF at e';split at e'
  ·cases e';unfold RT at h1 h2;subst h1 h2;exact aHj aa s σ H _ _ u v Q I rx ry ⟨rfl,by rw[aGU];exact q'⟩
  ·cases e';unfold RT at h1 h2;subst h1 h2;exact aHj aa s σ H _ _ u v Q I rx ry ⟨rfl,by rw[aEH];exact q'⟩
  ·cases e';unfold RT at h1 h2;subst h1 h2;exact aHj aa s σ H _ _ u v Q I rx ry ⟨rfl,by rw[aER];exact q'⟩
  ·cases e'
theorem aDh{t:T}{x:V}{u:Value}{A:Around}{aa:List (Addr×Obj)}{s:Shared}{σ:L2.St}{H:Hp}(I:Inv X aa σ H s)(hu:A.units+5<cLine)(h:RT X.K H [] t x)(r:RelV x u):
 ∀{ts:List T}{vs:List V}{is:List Value}{b:Bool},RTs X.K H [] ts vs->Vals vs is->inL (fun y=>eqT 5 y t) ts=some b->∃rs:List (Value×Bool),rs.map (·.1)=is/\(∀p∈rs,SeqAt.EqAt A s p.1 u p.2)/\b=rs.any (·.2)
 | [],_,_,b,h1,v1,q=>by
   cases q;rw[h1.nil_inv]at v1;cases v1
   exact⟨[],rfl,(fun p hp=>nomatch hp),rfl⟩
 |t'::ts,_,_,b,h1,v1,q=>by
  obtain⟨v,r',rfl,a1,a2⟩:=h1.cons_inv;unfold inL at q;obtain⟨c,q1,q⟩:=aK.mp q;obtain⟨d,q2,q⟩:=aL.mp q;cases v1 with
  |cons x1 y1=>
   obtain⟨rs,w1,w2,w3⟩:=aDh I hu h r a2 y1 q2
   refine⟨(_,c)::rs,by rw[aM,w1],fun p hp=>?_,by rw[aPd,<-w3,q]⟩
   rcases bE.mp hp with rfl|hp
   ·exact aD2 I 5 A t' t _ _ _ _ c hu a1 h x1 r q1
   ·exact w2 p hp
open Classical in
noncomputable def p6(rs:List (Value×Bool))(y:Value):Bool:=if∃p∈rs,p.1=y/\p.2=true then true else false
theorem aGA{u y:Value}(h:∀p∈rs,SeqAt.EqAt A s p.1 u p.2)(hy:y∈rs.map (·.1)):SeqAt.EqAt A s y u (p6 rs y):=by
 unfold p6;split
 ·rename_i he;obtain⟨p,hp,rfl,e⟩:=he;rw[<-e];exact h p hp
 ·rename_i hn;obtain⟨p,hp,rfl⟩:=bL.mp hy;have:p.2=false:=by
   cases e:p.2 with
   |false=>rfl
   |true=>exact absurd ⟨p,hp,rfl,e⟩ hn
  rw[<-this];exact h p hp
theorem aFd:(rs.map (·.1)).any (p6 rs)=rs.any (·.2):=by
 rw[eJ,aP7,aP7];constructor
 ·rintro⟨y,hy,e⟩;unfold p6 at e;split at e
  ·rename_i he;obtain⟨p,hp,_,e⟩:=he
   exact⟨p,hp,e⟩
  ·cases e
 ·rintro⟨p,hp,e⟩
  refine⟨p.1,bL.mpr ⟨p,hp,rfl⟩,?_⟩
  unfold p6;rw[if_pos ⟨p,hp,rfl,e⟩]
theorem aMI(hu:X.A.units+20<cLine):OpR X (compareOp .In) (aMO X.K false):=by
 intro aa s σ H x y u v Q I rx ry h;obtain⟨t,p,vs,ts,b,h1,rfl,hq,hs,e,q⟩:=h;cases ry;obtain⟨is,v1,p1,z1⟩:=I.list hq;obtain⟨rs,w1,w2,w3⟩:=aDh (A:=X.A.in1) I (by show X.A.units+1+5<cLine;lia) h1 rx hs v1 e;subst w1
 refine SeqAt.in_listAt (p6 rs) p1.isList (fun y hy=>aGA w2 (by simpa using hy)) ?_
 rw[show(rs.map (·.1)).toArray.any (p6 rs)=(rs.map (·.1)).any (p6 rs)by simp,aFd,<-w3]
 exact⟨.bl b,H,I,rfl,q⟩
theorem aGp(hu:X.A.units+20<cLine):OpR X (compareOp .NotIn) (aMO X.K true):=by
 intro aa s σ H x y u v Q I rx ry h;obtain⟨t,p,vs,ts,b,h1,rfl,hq,hs,e,q⟩:=h;cases ry;obtain⟨is,v1,p1,z1⟩:=I.list hq;obtain⟨rs,w1,w2,w3⟩:=aDh (A:=X.A.in1) I (by show X.A.units+1+5<cLine;lia) h1 rx hs v1 e;subst w1
 refine SeqAt.notIn_listAt (p6 rs) p1.isList (fun y hy=>aGA w2 (by simpa using hy)) ?_
 rw[show(rs.map (·.1)).toArray.any (p6 rs)=(rs.map (·.1)).any (p6 rs)by simp,aFd,<-w3]
 exact⟨.bl (!b),H,I,rfl,q⟩
theorem aAe{prog:Program}{w:World}{A:Around}{E:Value->Shared->Prop}{it t:Addr}{items:Array Value}(ba:t≠it):∀(n i:Nat)(s:Shared)(Q:List Value->Shared->Prop),s.heap.IsListIter it t i->s.heap.IsList t items->i+n<=items.size->
 (∀h',h'.IsListIter it t (i+n)->Heap.SameBut it s.heap h'->Q ((items.toList.drop i).take n) {s with heap:=h'})->wpAny (model prog w) A (draw (.ref it) n) Q E s
 |0,i,s,Q,hit,_,_,hQ=>by
  show wpAny _ _ (pure []) Q E s
  exact wpAny_pure (by simpa using hQ s.heap hit (Heap.SameBut.refl ..))
 |n+1,i,s,Q,hit,ht,hle,hQ=>by
  have bf:i<items.size:=by lia
  show wpAny _ _ (pyNext (.ref it)>>=_) Q E s
  refine wpAny_bind (wpAny_pyNext_list_item hit ht (x:=items[i]) (by simp[bf]) fun bb fq cy=>?_)
  refine wpAny_bind (wpAny_holding (aAe ba n (i+1) _ _ fq (ht.extBut cy.extBut ba) (by lia) fun cj ma qz=>wpAny_pure ?_))
  have hd:items.toList.drop i=items[i]::items.toList.drop (i+1):=by simp[aOW,bf]
  have:=hQ cj (by rw[show i+(n+1)=i+1+n by lia];exact ma) (cy.trans qz);rw[hd,aPR]at this
  exact this
theorem uL{prog:Program}{w:World}{E:Value->Shared->Prop}{t:Addr}{items:Array Value}{Q:List Value->Shared->Prop}(hh:A.handled=none)(ht:s.heap.IsList t items)
 (hQ:∀h',Heap.ExtBut s.heap.objs.size s.heap h'->Q items.toList {s with heap:=h'}):wpAny (model prog w) A (unpackItems (.ref t) items.size none) Q E s:=by
 have bf:t≠s.heap.objs.size:=by obtain⟨o,ho,_⟩:=ht;exact bW (Heap.lt_size ho)
 unfold unpackItems
 refine wpAny_bind ?_
 ·unfold notIterableAtAll
  refine wpAny_bind (wpAny_specialOf ht.typeIs slot_list_iter.lookup ?_)
  refine wpAny_pure ?_
  simp only[b9,if_false]
  refine wpAny_bind (wpAny_holding (wpAny_pyIter_list ht ?_))
  refine wpAny_bind (wpAny_holding (aAe bf items.size 0 _ _ ⟨_,Heap.get?_push_size _ rfl,rfl,rfl⟩ (ht.push _) (by lia) fun bb fq cy=>?_))
  have iw:List.take items.size (List.drop 0 items.toList)=items.toList:=by
   rw[aQl];exact dQ (by simp)
  rw[iw];rw[if_neg (by simp)];have qw:bb.IsList t items:=(ht.push _).extBut cy.extBut bf
  refine wpAny_bind (wpAny_holding (wpAny_pyNext_list_end hh fq qw (by simp) fun cj tw=>?_))
  simp only[Option.isSome_none,b9,if_false]
  refine wpAny_pure (hQ cj fun b o hb e=>tw b o hb (cy.extBut b o hb (Heap.get?_push_of_some _ e)))
noncomputable def gLst(K:aO)(n:Nat)(t:TGs):TG:=fun v σ H Q=>∃a xs,v=.ref a/\(SqL K H a xs\/SqT K H a xs)/\xs.length=n/\t xs σ H Q
theorem aL5{es:List Expr}{k:Nat}{t:TGs}{n:Nat}{pos:Pos}(hc:X.calm=true)(h:PGs X es t)
 (hn:(assignEach es X.env).length=n:=by rfl)(bc:(assignEach es X.env).findIdx? (·.1)=none:=by rfl):PG X (.Tuple es k pos) (gLst X.K n t):=by
 intro aa s σ H v u Q I r hw;obtain⟨a,xs,e1,hq,hl,hw⟩:=hw;rcases hq with hq|hq
 ·subst e1;cases r;obtain⟨its,rv,ht,hz⟩:=I.list hq;rw[assign_Tuple]
  refine wpAny_bind (wpAny_standAt ?_)
  unfold unpack;have kj:(assignEach es X.env).length=its.toArray.size:=by simp[hn,<-hl,rv.length]
  rw[kj,bc]
  refine wpAny_bind (wpAny_holding (uL (I.ok.hd hc) ht.isList fun h' hx=>?_))
  have I1:Inv X aa σ H {s with heap:=h'}:=I.kept (t':=s.toks) fun b o e=>hx b o (bW (Heap.lt_size e)) e
  exact h aa _ σ H xs _ Q I1 (by simpa using rv) hw
 ·exact aNn hc h hn bc aa s σ H v u Q I r ⟨a,xs,e1,hq,hl,hw⟩
end
end TL
namespace TL
open PySem L2
def Itz(K:aO)(l1 l2:Addr):It:=
 ⟨fun i H=>∃xs ys x y,SqL K H l1 xs/\SqL K H l2 ys/\xs[i]?=some x/\ys[i]?=some y,
  fun i H v H'=>∃p x y,H p=none/\v=.ref p/\H'=upd H p (.tup [x,y])/\(∀xs,SqL K H l1 xs->xs[i]?=some x)/\∀ys,SqL K H l2 ys->ys[i]?=some y,
  fun i H=>∃xs ys,SqL K H l1 xs/\SqL K H l2 ys/\(xs[i]?=none\/ys[i]?=none)⟩
def iZip(K:aO)(t:TA):TI:=fun σ H R=>t σ H fun vs H1=>∃l1 l2,vs=[.ref l1,.ref l2]/\(∃xs,SqL K H1 l1 xs)/\(∃ys,SqL K H1 l2 ys)/\R (Itz K l1 l2) H1
noncomputable def zO(ts us:List T):List T:=(ts.zip us).map fun p=>.tup [p.1,p.2]
section
variable {K:aO}{σ:L2.St}{H:Hp}{Q:VK}
variable{H1:Hp}{af:Rho}
theorem lU{Z:Addr->Prop}{H₀:Hp}{τ:TSt}{C:Sto}{σ:L2.St}{t:T}{ts:List T}{a:Addr}(R1:Rel K H₀ Z af τ C σ H1)(h1:RT K (mask H1 Z af) af t (.ref a))(e2:liT C t=some ts)
 {i':Hp}{Z':Addr->Prop}{ae:Rho}{ag:TSt}{C':Sto}{ah:L2.St}{H:Hp}(R':Rel K i' Z' ae ag C' ah H)(sm:Same (mask H1 Z af) (mask H Z' ae))(ix:∀(c:Nat)(a:Addr),af[c]?=some a->ae[c]?=some a)(ax:stays t ts C'\/Same H1 H):
  ∃ws,SqL K H a ws/\RTs K (mask H Z' ae) ae ts ws:=by
 rcases ax with ax|ax
 ·have h2:=h1.mono sm ix;have e3:liT C' t=some ts:=by
   cases t with
   |cell c=>exact ax
   |lst us=>exact e2
   |_=>cases e2
  obtain⟨a',ws,gy,q',r'⟩:=R'.li h2 e3;cases gy
  exact⟨ws,q',r'⟩
 ·obtain⟨a',ws,gy,q',r'⟩:=R1.li h1 e2;cases gy
  exact⟨ws,ax.seq q',r'.mono sm ix⟩
theorem aK5{Z:Addr->Prop}{H₀:Hp}{τ:TSt}{C:Sto}{σ:L2.St}{t u:T}{ts us:List T}{a b:Addr}(R1:Rel K H₀ Z af τ C σ H1)(h1:RT K (mask H1 Z af) af t (.ref a))(e1:liT C t=some ts)
 (h2:RT K (mask H1 Z af) af u (.ref b))(e2:liT C u=some us):Wlk K (Itz K a b) Z H1 af (zO ts us) (fun C=>stays t ts C/\stays u us C):=by
 refine⟨fun i t' H₀ Z' ae ag C' σ H ht R' sm ix ax _=>?_,fun H₀ Z' ae ag C' σ H R' sm ix ax _=>?_⟩
 ·obtain⟨ws,q1,r1⟩:=lU R1 h1 e1 R' sm ix (ax.imp (·.1) id);obtain⟨xs,q2,r2⟩:=lU R1 h2 e2 R' sm ix (ax.imp (·.2) id);unfold zO at ht;rw[bH]at ht;obtain⟨⟨x1,x2⟩,hz,rfl⟩:=aL.mp ht;obtain⟨z1,z2⟩:=dX.mp hz;obtain⟨v1,lm,wj⟩:=r1.get z1;obtain⟨v2,hv2,nk⟩:=r2.get z2
  refine⟨⟨ws,xs,v1,v2,q1,q2,lm,hv2⟩,fun x H' hy=>?_⟩
  obtain⟨p,y1,y2,hp,rfl,rfl,k1,k2⟩:=hy;have w1:=k1 ws q1;have w2:=k2 xs q2;rw[lm]at w1;cases w1;rw[hv2]at w2;cases w2
  exact⟨fun b u h=>by rw[fP (fun z=>by rw[z,hp]at h;cases h)];exact h,R'.alloc_tup hp (.cons wj (.cons nk .nil))⟩
 ·obtain⟨ws,q1,r1⟩:=lU R1 h1 e1 R' sm ix (ax.imp (·.1) id);obtain⟨xs,q2,r2⟩:=lU R1 h2 e2 R' sm ix (ax.imp (·.2) id)
  refine⟨ws,xs,q1,q2,?_⟩
  have hl:(zO ts us).length=min ts.length us.length:=by simp[zO]
  rw[hl];rcases Nat.le_total ts.length us.length with h|h
  ·exact .inl (dA (by rw[r1.length,aPH h];exact bF _))
  ·exact .inr (dA (by rw[r2.length,aPB h];exact bF _))
def rK(f1 f2:FE)(k:Nat)(is:List Nat)(g:FG)(tc:FB)(fe:FE):FN:=fun τ C=>(f1 τ C).bind fun p=>(f2 τ p.2).bind fun q=>(liT q.2 p.1).bind fun ts=>(liT q.2 q.1).bind fun us=>
 if(zO ts us).length<lim then jX g tc fe (scT k is τ) (zO ts us) q.2 else none
theorem aK8{f1 f2:FE}{k:Nat}{is:List Nat}{g:FG}{tc:FB}{fe:FE}(hg:Own k g)(h:trN K (rK f1 f2 k is g tc fe) σ H Q):aAS (iZip K (trA K (eX f1 (eX f2 fH)))) (scV k is) (trG K g) (trT K tc) (trE K fe) σ H Q:=by
 obtain⟨H₀,Z,ρ,τ,C,ys,C',R,e,q⟩:=h;unfold rK at e;obtain⟨⟨t,C1⟩,e1,e⟩:=aK.mp e;obtain⟨⟨u,C2⟩,e2,e⟩:=aK.mp e;obtain⟨ts,e3,e⟩:=aK.mp e;obtain⟨us,e4,e⟩:=aK.mp e;split at e
 ·rename_i hl
  refine⟨H₀,Z,ρ,τ,C,[t,u],C2,R,by simp[eX,fH,e1,e2],fun vs H1 af R1 h1 s1=>?_⟩
  obtain⟨v,r,rfl,q1,q2⟩:=h1.cons_inv;obtain⟨v',r',rfl,q3,q4⟩:=q2.cons_inv;rw[q4.nil_inv];obtain⟨a,vs,ea,qa,ra⟩:=R1.li q1 e3;obtain⟨b,ws,eb,qb,rb⟩:=R1.li q3 e4;subst ea eb
  exact⟨a,b,rfl,⟨vs,qa⟩,⟨ws,qb⟩,fun D hD=>tP R1 hg (aK5 R1 q1 e3 q3 e4) ⟨pF e3,pF e4⟩ (fun C C2 h z=>⟨tY C C2 h z.1,tY C C2 h z.2⟩) hl e hD fun p H' ae vs R' hp rv s'=>q p H' ae vs R' hp rv (s1.trans s')⟩
 ·cases e
end
def jW(d:Int)(ns:List Int):Int:=if ns.isEmpty then d else t9 ns
def aCA(t1 t2:T)(C:Sto):Option (T×Sto):=match t2 with
 | .int d=>(liT C t1).bind fun us=>(ints? us).map fun ns=>(.int (jW d ns),C)
 |_=>none
abbrev aH5(a b:FE):FE:=iV a b aCA
def frz1(C:Sto):Option T->Option (Option T)
 |none=>some none
 |some t=>(dr 3 C t).map some
def frz(C:Sto):TSt->Option TSt
 | []=>some []
 |o::τ=>(frz1 C o).bind fun o'=>(frz C τ).map (o':: ·)
section
variable {K:aO}{σ:St}{H:Hp}{D:Ends}{F G:FS}{Q:VK}
end
end TL
namespace TL
open PySem PySem.Spec PyProof.Rows L2
section
variable {P:Program}{w:World}{H H':Hp}{h h':Heap}{a:Addr}{o:HO}
end
def Named(K:aO)(c:String)(C:Addr):Prop:=bX K mainGlobals (Str.ofString c)=some (some (.ref C))
structure Aloft(P:Program)(w:World)(K:aO)(l:List Env)(H:Hp)(s:Shared)(c:String)(H':Hp)(C:Addr)(B:Heap)(s':Shared):Prop where
 nm:Named K c C
 os:s'.os=s.os
 bare:AllBare s'.gens
 un:Un (frs l) [] H H' s.heap s'.heap
 hok:HOk P w H' s'.heap
 keepB:∀b o,s.heap.get? b=some o->H b=none->b∉frs l->B.get? b=some o
 trkB:∀b u o,H' b=some u->s'.heap.get? b=some o->B.get? b=some o
 thereB:∀b o,s.heap.get? b=some o->b∉frs l->∃o',B.get? b=some o'
def Flies(B:Heap)(l:List Env)(a C:Addr)(s':Shared):Prop:=∃t,Heap.FlyingW B l a (.ref C) (.ref t) s'.heap
def Made(B:Heap)(l:List Env)(a C:Addr)(s':Shared):Prop:=∃h vs,B.StaysIn h/\h.FunFrames B l/\Heap.MadeExcOf h s'.heap a (.ref C) vs
noncomputable def wish(X:Cx):XW:=fun c σ H'=>∀aa H s a C B s',Inv X aa σ H s->Aloft X.prog X.w X.K X.stack H s c H' C B s'->(Made B X.stack a C s'\/Flies B X.stack a C s')->X.xe (.ref a) s'
section
variable {X:Cx}{aa:List (Addr×Obj)}{σ:L2.St}{H H':Hp}{s s':Shared}{c:String}{C a:Addr}{B:Heap}
end
section
variable {P:Program}{w:World}{K:aO}{mg:Str->Option Value}{base:Heap}{N:List Str}{qual:Str}{scope:Scope}{f:Addr}{cd:Value}{A:Around}{outer:List Env}{s:Shared}{H:Hp}{E:XK}
end
abbrev QE(X:Cx)(e:Expr)(f:FE):Prop:=PE X e (trE X.K f)
abbrev QN(X:Cx)(e:Expr)(f:FN):Prop:=PE X e (trN X.K f)
abbrev QA(X:Cx)(e:List Expr)(f:FN):Prop:=PA X e (trA X.K f)
abbrev QT(X:Cx)(e:Expr)(f:FB):Prop:=PT X e (trT X.K f)
abbrev QW(X:Cx)(e:Expr)(f:FB):Prop:=PW X e (trT X.K f)
abbrev QO(X:Cx)(e:Option Expr)(f:FO):Prop:=PO X e (trO X.K f)
abbrev QS(X:Cx)(e:Stmt)(f:FS):Prop:=PS X e (trS X.K (wish X) f)
abbrev QSs(X:Cx)(e:List Stmt)(f:FS):Prop:=PSs X e (trS X.K (wish X) f)
abbrev QG(X:Cx)(e:Expr)(g:FG):Prop:=PG X e (trG X.K g)
abbrev QTs(X:Cx)(e:List Expr)(f:FB):Prop:=PTs X e (trT X.K f)
theorem PTs.imp{X:Cx}{e:List Expr}{t t':TT}(h:PTs X e t)(hi:∀σ H Q,t' σ H Q->t σ H Q):PTs X e t':=fun aa s σ H Q I q=>h aa s σ H Q I (hi σ H Q q)
theorem aIs{i j:Int}(h:j7 i j=true):IntMulOk i j:=by
 unfold j7 at h;unfold IntMulOk;intro z;rw[z]at h;cases h
section
variable {X:Cx}{a b c e:Expr}{es:List Expr}{fa fb fc f:FE}{fr fn:FN}{ga gb:FB}{pos p p2:Pos}{j:Nat}
variable{op:CmpOp}{r:R2}
theorem eU(i:Nat){x:Str}(hN:X.N[i]?=some x:=by rfl)(hv:Vis X.env.scope x:=by first|exact aQm rfl|exact aP8 (aQm rfl)|exact aP8 (aP8 rfl))(hd:(x==("__debug__":Str))=false:=by decide)
 (iu:(x==("__classdict__":Str))=false:=by decide):QE X (.Name x pos) (jF i):=(aMa hN hv hd iu).imp fun _ _ _=>aLo
theorem fB{i:Int}{k}:QE X (.Constant (.int i) k pos) (fC (.int i)):=aDR.imp fun _ _ _=>i_C fun _ _=>.int
theorem aI7{i:Bool}{k}:QE X (.Constant (.bool i) k pos) (fC (.bl i)):=aN2.imp fun _ _ _=>i_C fun _ _=>.bl
theorem qX{k}:QE X (.Constant .none k pos) (fC .non):=aNi.imp fun _ _ _=>i_C fun _ _=>.non
theorem iL(ha:QE X a fa)(hb:QE X b fb):QE X (.BinOp a .Add b pos) (iV fa fb (gI fun i j=>.int (i+j))):=(uZ aLQ ha hb).imp fun _ _ _=>vJ fun _ _ _ _ _=>o_I fun _ _ _ _=>.int
theorem mC(ha:QE X a fa)(hb:QE X b fb):QE X (.BinOp a .Sub b pos) (iV fa fb (gI fun i j=>.int (i - j))):=(uZ aMc ha hb).imp fun _ _ _=>vJ fun _ _ _ _ _=>o_I fun _ _ _ _=>.int
theorem aJO:OpR X (binaryOp .Mult) (rI IntMulOk fun i j=>.int (i*j)):=opI fun _ _ _ _ _ _ _ hc q=>mul_int q hc
theorem k8(ha:QE X a fa)(hb:QE X b fb):QE X (.BinOp a .Mult b pos) (iV fa fb (gIc j7 fun i j=>.int (i*j))):=(uZ aJO ha hb).imp fun _ _ _=>vJ fun _ _ _ _ _ h=>by
 obtain⟨i,j,h1,h2,h3,q⟩:=aIc (g:=fun i j=>.int (i*j)) (fun _ _ _ _=>.int) h
 exact⟨i,j,h1,h2,aIs h3,q⟩
theorem iN(ha:QE X a fa)(hb:QE X b fb):QE X (.BinOp a .Mod b pos) (iV fa fb (gIc (fun _ j=>decide (0<j)) fun i j=>.int (i%j))):=(uZ aMT ha hb).imp fun _ _ _=>vJ fun _ _ _ _ _ h=>by
 obtain⟨i,j,h1,h2,h3,q⟩:=aIc (g:=fun i j=>.int (i%j)) (fun _ _ _ _=>.int) h
 exact⟨i,j,h1,h2,of_decide_eq_true h3,q⟩
theorem kS(ha:QE X a fa)(hb:QE X b fb):QE X (.BinOp a .FloorDiv b pos) (iV fa fb (gIc (fun _ j=>decide (0<j/\j<1073741824)) fun i j=>.int (i/j))):=(uZ aLc ha hb).imp fun _ _ _=>vJ fun _ _ _ _ _ h=>by
 obtain⟨i,j,h1,h2,h3,q⟩:=aIc (g:=fun i j=>.int (i/j)) (fun _ _ _ _=>.int) h;have h4:0<j/\j<1073741824:=of_decide_eq_true h3
 exact⟨i,j,h1,h2,h4,q⟩
theorem aLB(ha:QE X a fa)(hb:QE X b fb):QE X (.BinOp a .Pow b pos) (iV fa fb (gIc (fun i j=>decide (0<=j/\j<=1000000/\i.natAbs<2^64)) fun i j=>.int (i^j.toNat))):=(uZ aMo ha hb).imp fun _ _ _=>vJ fun _ _ _ _ _ h=>by
 obtain⟨i,j,h1,h2,h3,q⟩:=aIc (g:=fun i j=>.int (i^j.toNat)) (fun _ _ _ _=>.int) h;have h4:0<=j/\j<=1000000/\i.natAbs<2^64:=of_decide_eq_true h3
 exact⟨i,j,h1,h2,h4,q⟩
theorem aHa(ha:QE X a fa):QE X (.UnaryOp .USub a pos) (fUn fa aG8):=(aOa aNx ha).imp fun _ _ _ h=>iK (aNJ h) fun _ _ q=>aOz q
theorem aCd{g:T->T->Sto->Option (T×Sto)}(ho:OpR X (compareOp op) r)(hg:∀σ H Q x y,(∃t1 t2,trV X.K σ [t1,t2] [x,y] (g t1 t2) H Q)->r x y H Q)(ha:QE X a fa)(hb:QE X b fb)(hm:behindInMarks op b=false):
 QE X (.Compare a [op] [b] pos) (iV fa fb g):=(aKe ho ha hb hm).imp fun _ _ _=>vJ hg
theorem x9{g:T->T->Sto->Option (T×Sto)}(ho:OpR X (compareOp op) r)(hg:∀σ H Q x y,(∃t1 t2,trV X.K σ [t1,t2] [x,y] (g t1 t2) H Q)->r x y H Q)(ha:QE X a fa)(hb:QE X b fb)(hm:behindInMarks op b=false):
 QT X (.Compare a [op] [b] pos) (iH (iV fa fb g)):=(aLg ho ha hb hm).imp fun _ _ _=>aIk fun _ _ _=>vJ hg
abbrev gLt:=gI fun i j=>.bl (decide (i<j))
abbrev gLe:=gI fun i j=>.bl (decide (i<=j))
abbrev gGt:=gI fun i j=>.bl (decide (j<i))
theorem aOI(ha:QE X a fa)(hb:QE X b fb):QE X (.Compare a [.Lt] [b] pos) (iV fa fb gLt):=aCd aIo (fun _ _ _ _ _=>o_I fun _ _ _ _=>.bl) ha hb (nomark _)
theorem aFm(ha:QE X a fa)(hb:QE X b fb):QE X (.Compare a [.Gt] [b] pos) (iV fa fb gGt):=aCd aLz (fun _ _ _ _ _=>o_I fun _ _ _ _=>.bl) ha hb (nomark _)
theorem aH9(ha:QE X a fa)(hb:QE X b fb):QT X (.Compare a [.Lt] [b] pos) (iH (iV fa fb gLt)):=x9 aIo (fun _ _ _ _ _=>o_I fun _ _ _ _=>.bl) ha hb (nomark _)
theorem aNA(ha:QE X a fa)(hb:QE X b fb):QT X (.Compare a [.LtE] [b] pos) (iH (iV fa fb gLe)):=x9 aLn (fun _ _ _ _ _=>o_I fun _ _ _ _=>.bl) ha hb (nomark _)
theorem aF2(ha:QE X a fa)(hb:QE X b fb):QT X (.Compare a [.Gt] [b] pos) (iH (iV fa fb gGt)):=x9 aLz (fun _ _ _ _ _=>o_I fun _ _ _ _=>.bl) ha hb (nomark _)
theorem aMb(hu:X.A.units+20<cLine)(ha:QE X a fa)(hb:QE X b fb):QE X (.Compare a [.Eq] [b] pos) (iV fa fb (gEq false)):=aCd (aIY hu) (fun _ _ _ _ _=>aL6) ha hb (nomark _)
theorem vO(hu:X.A.units+20<cLine)(ha:QE X a fa)(hb:QE X b fb):QT X (.Compare a [.Eq] [b] pos) (iH (iV fa fb (gEq false))):=x9 (aIY hu) (fun _ _ _ _ _=>aL6) ha hb (nomark _)
theorem aDo(hu:X.A.units+20<cLine)(ha:QE X a fa)(hb:QE X b fb):QT X (.Compare a [.NotEq] [b] pos) (iH (iV fa fb (gEq true))):=x9 (aMx hu) (fun _ _ _ _ _=>aL6) ha hb (nomark _)
theorem aON(hu:X.A.units+20<cLine)(ha:QE X a fa)(hb:QE X b fb)(hm:behindInMarks .In b=false:=by rfl):QE X (.Compare a [.In] [b] pos) (iV fa fb (gIn false)):=aCd (aMI hu) (fun _ _ _ _ _=>aOo) ha hb hm
theorem aLk(hu:X.A.units+20<cLine)(ha:QE X a fa)(hb:QE X b fb)(hm:behindInMarks .NotIn b=false:=by rfl):QT X (.Compare a [.NotIn] [b] pos) (iH (iV fa fb (gIn true))):=x9 (aGp hu) (fun _ _ _ _ _=>aOo) ha hb hm
theorem zI(ha:QE X a fa)(hb:QE X b fb)(hc:QE X c fc)(hm:lastMarks [.LtE,.Lt] [b,c]=false:=by with_unfolding_all rfl):QE X (.Compare a [.LtE,.Lt] [b,c] pos) (uS fa fb fc (fun i j=>decide (i<=j)) (fun i j=>decide (i<j))):=
 (aI0 aLn aIo ha hb hc hm).imp fun _ _ _=>aJU
theorem aLD{op}(ha:QE X a fa):QE X (.BoolOp op [a] pos) fa:=aM9 ha
theorem aLw(ha:QE X a fa)(hb:QE X (.BoolOp .And (b::es) pos) fb):QE X (.BoolOp .And (a::b::es) pos) (yJ fa fb):=(aNH ha hb).imp fun _ _ _=>aLV
theorem aOs(ha:QE X a fa):QE X (.UnaryOp .Not a pos) (aAm fa):=(aNO ha).imp fun _ _ _=>aMi
theorem aBI(ha:QT X a ga):QW X (.BoolOp .And [a] pos) ga:=aJJ ha
theorem u8(ha:QT X a ga):QW X (.BoolOp .Or [a] pos) ga:=aMh ha
theorem aEg(ha:QT X a ga)(hb:QW X (.BoolOp .And (b::es) pos) gb):QW X (.BoolOp .And (a::b::es) pos) (qY ga gb):=(aM7 ha hb).imp fun _ _ _=>aNK
theorem y0(ha:QT X a ga)(hb:QW X (.BoolOp .Or (b::es) pos) gb):QW X (.BoolOp .Or (a::b::es) pos) (oK ga gb):=(aNR ha hb).imp fun _ _ _=>aOe
theorem t_w(h:QW X a ga):QT X a ga:=h.pt
theorem vF(ha:QT X a ga):QT X (.UnaryOp .Not a pos) (lN ga):=(aMn ha).imp fun _ _ _=>aMy
theorem o7(ha:QE X a fa)(he:∀whole,isTrue a X.env whole=(do let v<-whole;standAt a.pos;holding [v] (truthy v)):=by intro _;rfl):QT X a (nB fa):=(aHB ha he).imp fun _ _ _=>aOg
theorem aOx(hc:QT X c ga)(ha:QE X a fa)(hb:QE X b fb):QE X (.IfExp c a b pos) (aF0 ga fa fb):=(aII hc ha hb).imp fun _ _ _=>aOb
theorem gD(ha:QE X a fa)(hb:QE X b fb)(hs:PlainIx b:=by exact fun _ _=>rfl):QE X (.Subscript a b pos) (iV fa fb gIx):=(aN1 aLZ ha hb hs).imp fun _ _ _=>vJ fun _ _ _ _ _=>aOM
theorem sB:QO X none nQ:=aJI.imp fun _ _ _=>aGJ
theorem aBp(ha:QE X a fa):QO X (some a) (tR fa):=(aBg ha).imp fun _ _ _=>aL1
theorem wI{lo hi:Option Expr}{fl fh:FO}(ha:QE X a fa)(hl:QO X lo fl)(hh:QO X hi fh):QN X (.Subscript a (.Slice lo hi none p2) pos) (fSl fa fl fh):=(aGM aK7 ha hl hh).imp fun _ _ _=>aOL
theorem fA:QA X [] fH:=aDi.imp fun _ _ _=>aLE
theorem eV(ha:QE X e f)(hr:QA X es fr)(hs:starEach (e::es) X.env=(false,eval e X.env)::starEach es X.env:=by rfl):QA X (e::es) (eX f fr):=(vZ ha hr hs).imp fun _ _ _=>aMl
theorem gF(h:QA X es fr):QN X (.List es pos) (gJ fr):=(aL2 h).imp fun _ _ _=>aLP lF
theorem aEE(ha:QE X a fa)(hb:QE X b fb):QN X (.BinOp a .Add b pos) (xC fa fb aFj):=(uZ aKl ha hb).imp fun _ _ _=>aN5 fun _ _ _ _ _=>aNS
theorem fU(h:QN X a fn):QE X a (fV fn):=PE.imp h fun _ _ _=>aHU
theorem j6(h:QN X a fn):QE X a (iU fn):=PE.imp h fun _ _ _=>aIW
section
variable {x:Str}{id:String}
theorem aDk{r:List V->Hp->VK->Prop}{g:List T->Sto->Option (T×Sto)}(hc:nV X (.builtin id) r)(ho:∀σ H Q xs,(∃ts,trV X.K σ ts xs (g ts) H Q)->r xs H Q)(hv:bootBuiltins x=some (.builtin id))(hm:X.mg x=none)(hg:Gl X x)(ha:QA X (e::es) fr)(hn:x≠"__name__":=by decide)(cc:(x==("__debug__":Str))=false:=by decide)
 (he:starEach (e::es) X.env=(false,eval e X.env)::starEach es X.env:=by rfl)(av:(backTo pos (starEach es X.env)).any (·.1)=false:=by rfl):QE X (.Call (.Name x p) (e::es) [] pos) (mP fr g):=
 (aCO hc hg hm hv ha hn cc he av).imp fun _ _ _=>aNX ho
end
theorem m9(hm:X.mg "len"=none)(ha:QA X (e::es) fr)(hg:Gl X "len":=by rfl)(he:starEach (e::es) X.env=(false,eval e X.env)::starEach es X.env:=by rfl)(av:(backTo pos (starEach es X.env)).any (·.1)=false:=by rfl):
 QE X (.Call (.Name "len" p) (e::es) [] pos) (mP fr aF8):=aDk aAW (fun _ _ _ _=>aNT) PySem.boot_len hm hg ha (by decide) (by decide) he av
theorem aGh(hc:X.calm=true):nV X (.builtin "sum") (aCW X.K (fun _=>true) aQL):=aGn hc
theorem aEr(hm:X.mg "sum"=none)(hc:X.calm=true)(ha:QA X (e::es) fr)(hg:Gl X "sum":=by rfl)(he:starEach (e::es) X.env=(false,eval e X.env)::starEach es X.env:=by rfl)(av:(backTo pos (starEach es X.env)).any (·.1)=false:=by rfl):
 QE X (.Call (.Name "sum" p) (e::es) [] pos) (aH3 fr):=aDk (aGh hc) (fun _ _ _ _=>aDU) boot_sum hm hg ha (by decide) (by decide) he av
theorem aNt(hm:X.mg "max"=none)(hc:X.calm=true)(ha:QA X (e::es) fr)(hg:Gl X "max":=by rfl)(he:starEach (e::es) X.env=(false,eval e X.env)::starEach es X.env:=by rfl)(av:(backTo pos (starEach es X.env)).any (·.1)=false:=by rfl):
 QE X (.Call (.Name "max" p) (e::es) [] pos) (fMaxL fr):=aDk (aFr hc) (fun _ _ _ _=>aDU) boot_max hm hg ha (by decide) (by decide) he av
theorem aMU(hm:X.mg "max"=none)(hc:X.calm=true)(ha:QA X (e::es) fr)(hg:Gl X "max":=by rfl)(he:starEach (e::es) X.env=(false,eval e X.env)::starEach es X.env:=by rfl)(av:(backTo pos (starEach es X.env)).any (·.1)=false:=by rfl):
 QE X (.Call (.Name "max" p) (e::es) [] pos) (fMax2 fr):=aDk (aF6 hc) (fun _ _ _ _=>aOt) boot_max hm hg ha (by decide) (by decide) he av
theorem uP(hm:X.mg "min"=none)(hc:X.calm=true)(ha:QA X (e::es) fr)(hg:Gl X "min":=by rfl)(he:starEach (e::es) X.env=(false,eval e X.env)::starEach es X.env:=by rfl)(av:(backTo pos (starEach es X.env)).any (·.1)=false:=by rfl):
 QE X (.Call (.Name "min" p) (e::es) [] pos) (yH fr):=aDk (aFJ hc) (fun _ _ _ _=>aOt) boot_min hm hg ha (by decide) (by decide) he av
theorem aNU(hm:X.mg "all"=none)(hc:X.calm=true)(ha:QA X (e::es) fr)(hg:Gl X "all":=by rfl)(he:starEach (e::es) X.env=(false,eval e X.env)::starEach es X.env:=by rfl)(av:(backTo pos (starEach es X.env)).any (·.1)=false:=by rfl):
 QE X (.Call (.Name "all" p) (e::es) [] pos) (aNp fr):=aDk (aGs hc) (fun _ _ _ _=>aOB) boot_all hm hg ha (by decide) (by decide) he av
theorem pX(hm:X.mg "int"=none)(ha:QA X (e::es) fr)(hg:Gl X "int":=by rfl)(he:starEach (e::es) X.env=(false,eval e X.env)::starEach es X.env:=by rfl)(av:(backTo pos (starEach es X.env)).any (·.1)=false:=by rfl):
 QE X (.Call (.Name "int" p) (e::es) [] pos) (tQ fr):=(aAF aFM hg hm boot_int ha (by decide) (by decide) he av).imp fun _ _ _=>aNX fun _ _ _ _=>aMe
theorem aIQ(hm:X.mg "list"=none)(ha:QA X (e::es) fr)(hg:Gl X "list":=by rfl)(he:starEach (e::es) X.env=(false,eval e X.env)::starEach es X.env:=by rfl)(av:(backTo pos (starEach es X.env)).any (·.1)=false:=by rfl):
 QN X (.Call (.Name "list" p) (e::es) [] pos) (aCy fr):=(aAF aBz hg hm boot_list ha (by decide) (by decide) he av).imp fun _ _ _=>aN9 fun _ _ _ _=>aNe
structure jO(P:Program)(w:World)(K:aO)(mg:Str->Option Value)(base:Heap)(k:Nat)(x:Str)(n:Nat)(F:List T->Option T):Prop where
 ex:∃f fd ps,mQ P w K mg base CX0 k f fd ps (spT K n F)/\mg x=some (.ref f)/\cG K (.ref f)=true/\Binds K fd ps []
theorem fT{k n:Nat}{x:Str}{F:List T->Option T}(D:jO X.prog X.w X.K X.mg X.base k x n F)(hr:Room k X.A)(ha:QA X (e::es) fr)(hg:Gl X x:=by rfl)(cc:(x==("__debug__":Str))=false:=by decide)
 (he:starEach (e::es) X.env=(false,eval e X.env)::starEach es X.env:=by rfl)(av:(backTo pos (starEach es X.env)).any (·.1)=false:=by rfl):QE X (.Call (.Name x p) (e::es) [] pos) (f7 n F fr):=by
 obtain⟨f,fd,ps,G,hm,hk,hb⟩:=D.ex
 exact(sJ (E:=fun _ _ _=>False) G hr hg hm hk hb .nil (fun _ _ _ _ _ _ _ h=>h.elim) ha cc he av).imp fun _ _ _=>aNh
theorem hu20{k:Nat}{A:Around}(hr:Room k A):A.units+20<cLine:=by have:=hr.un;lia
theorem jC{x:Str}(hN:X.N.Nodup)(i:Nat)(hi:X.N[i]?=some x:=by rfl)(hx:Loc X.env.scope x:=by first|exact aQm rfl|exact aP8 rfl)(hf:X.fn x=true\/X.env.scope.names.lookup x=some .local:=by first|exact .inl rfl|exact .inr rfl):QG X (.Name x pos) (gN i):=
 (aFg hN hi hx hf).imp fun _ _ _ _=>wJ
structure NG(X:Cx)(ts:List Expr)(is:List Nat):Prop where
 h:PGs X ts (is.foldr (fun i g=>aE2 (r9 i) g) aKE)
theorem rD:NG X [] []:=⟨aJn⟩
theorem jV{x:Str}{ts:List Expr}{is:List Nat}(hN:X.N.Nodup)(i:Nat)(h:NG X ts is)(hi:X.N[i]?=some x:=by rfl)(hx:Loc X.env.scope x:=by first|exact aQm rfl|exact aP8 rfl)(hf:X.fn x=true\/X.env.scope.names.lookup x=some .local:=by first|exact .inl rfl|exact .inr rfl)
 (hs:(assignEach (.Name x pos::ts) X.env).map (·.2)=assign (.Name x pos) X.env::(assignEach ts X.env).map (·.2):=by rfl):NG X (.Name x pos::ts) (i::is):=⟨aG9 (aFg hN hi hx hf) h.h hs⟩
theorem aNY{K:aO}{is:List Nat}{v:V}{σ:L2.St}{H:Hp}{Q:L2.St->Hp->Prop}(h:trG K (gU is) v σ H Q):gLst K is.length (is.foldr (fun i g=>aE2 (r9 i) g) aKE) v σ H Q:=by
 obtain⟨H₀,Z,ρ,τ,C,t,ag,R,r,e,k⟩:=h;unfold gU at e;obtain⟨ts,e1,e⟩:=aK.mp e;split at e
 ·rename_i hl;cases e;obtain⟨a,vs,ea,qa,ra⟩:=R.sq r e1
  exact⟨a,vs,ea,qa,by rw[ra.length];exact hl,Rel.setAll R ra hl k⟩
 ·cases e
theorem rB{ts:List Expr}{is:List Nat}{k:Nat}(hc:X.calm=true)(h:NG X ts is)(hn:(assignEach ts X.env).length=is.length:=by rfl)(bc:(assignEach ts X.env).findIdx? (·.1)=none:=by rfl):QG X (.Tuple ts k pos) (gU is):=
 (aL5 hc h.h hn bc).imp fun _ _ _ _=>aNY
theorem cok(own fr:List Str)(is:List Nat){scope:Scope}{cl:List (Str×Addr)}(h1:pR X.env.cells scope.names []=some cl:=by with_unfolding_all rfl)(h2:∀y∈scope.names,y.2≠ .cell:=by decide+kernel)(h3:scope.kind=.function:=by rfl)
 (h4:∀y∈scope.names,y.2=.local->scope.names.lookup y.1=some .local:=by decide+kernel)(h5:is.map (fun i=>X.N[i]?)=fr.map some:=by rfl)
 (h6:fr.all (fun x=>X.env.kindOf x==some .cell||X.env.kindOf x==some .free)=true:=by rfl)(h7:fr.all (fun x=>(relabel scope X.env).names.lookup x==some .cell||(relabel scope X.env).names.lookup x==some .free)=true:=by rfl):mG X own fr is scope cl:=
 ⟨h1,h2,h3,h4,h5,h6,h7⟩
theorem iG:QTs X [] hW:=aKH.imp fun σ H Q h=>by
 obtain⟨H₀,Z,ρ,τ,C,b,C',R,e,k⟩:=h;cases e
 exact k H ρ R .refl
theorem vX(h:QT X c ga):QTs X [c] ga:=aJl h
section
variable {own frs:List Str}{is:List Nat}{scope:Scope}{cl:List (Str×Addr)}{tg iter bd:Expr}{ifs:List Expr}{fi fe:FE}{g:FG}{gt:FB}{bx ao:Pos}{x:Str}
variable{W:XW}{te:TE}{i:Nat}{σ:L2.St}
theorem j5(hc:X.calm=true)(k:mG X own frs is scope cl)(hi:QE X iter fi)(ho:Own own.length g)(hg:∀C s3 H3 fp,QG (gP X (own++frs) scope cl C s3 H3 fp) tg g)(ht:∀C s3 H3 fp,QTs (gP X (own++frs) scope cl C s3 H3 fp) ifs gt)
 (he:∀C s3 H3 fp,QE (gP X (own++frs) scope cl C s3 H3 fp) bd fe)(hs:∀x,foldedSetIterable iter X.env x=pure x:=by intro _;rfl):QN X (.ListComp bd [⟨tg,iter,ifs,0⟩] scope pos) (jR fi own.length is g gt fe):=
 (v4 hc k (aA8 hi) hg ht he hs).imp fun _ _ _=>aGF ho
theorem aHf(hm:X.mg "range"=none)(hc:X.calm=true)(k:mG X own frs is scope cl)(hi:QE X iter fi)(ho:Own own.length g)(hg:∀C s3 H3 fp,QG (gP X (own++frs) scope cl C s3 H3 fp) tg g)(ht:∀C s3 H3 fp,QTs (gP X (own++frs) scope cl C s3 H3 fp) ifs gt)
 (he:∀C s3 H3 fp,QE (gP X (own++frs) scope cl C s3 H3 fp) bd fe)(cb:Gl X "range":=by rfl)(hs:∀x,foldedSetIterable (.Call (.Name "range" p) [iter] [] p2) X.env x=pure x:=by intro _;rfl)(bc:starEach [iter] X.env=[(false,eval iter X.env)]:=by rfl):
 QN X (.ListComp bd [⟨tg,.Call (.Name "range" p) [iter] [] p2,ifs,0⟩] scope pos) (kA fi own.length is g gt fe):=
 (v4 hc k (qE cb hm (eV hi fA (by rw[bc];rfl)) bc) hg ht he hs).imp fun _ _ _=>xF ho
theorem asgT{K:aO}{fn:FN}{D:Ends}{H:Hp}(hi:∀σ H Q,trN K fn σ H Q->te σ H Q)(h:trS K W (fZ (fV fn) (gN i)) D σ H):aDg te (r9 i) D σ H:=
 hi _ _ _ (aHU (iK (aB2 h) fun _ _ q=>wJ q))
theorem asgC{K:aO}{fn:FN}{D:Ends}{H:Hp}(hi:∀σ H Q,trN K fn σ H Q->te σ H Q)(h:trS K W (fZ (iU fn) (gN i)) D σ H):aDg te (r9 i) D σ H:=
 hi _ _ _ (aIW (iK (aB2 h) fun _ _ q=>wJ q))
theorem aJX(hN:X.N.Nodup)(i:Nat)(hc:X.calm=true)(k:mG X own frs is scope cl)(hi:QE X iter fi)(ho:Own own.length g)(hg:∀C s3 H3 fp,QG (gP X (own++frs) scope cl C s3 H3 fp) tg g)(ht:∀C s3 H3 fp,QTs (gP X (own++frs) scope cl C s3 H3 fp) ifs gt)
 (he:∀C s3 H3 fp,QE (gP X (own++frs) scope cl C s3 H3 fp) bd fe)(hx:X.N[i]?=some x:=by rfl)(hl:X.env.scope.names.lookup x=some .local:=by rfl)
 (jf:swapsWith (.ListComp bd [⟨tg,iter,ifs,0⟩] scope pos) (some (.Name x ao)) bx.line X.env=pure true:=by rfl)(hs:∀x,foldedSetIterable iter X.env x=pure x:=by intro _;rfl):
 QS X (.Assign [.Name x ao] (.ListComp bd [⟨tg,iter,ifs,0⟩] scope pos) bx) (fZ (fV (jR fi own.length is g gt fe)) (gN i)):=
 (rM hN hx hl hc k (aA8 hi) hg ht he jf hs).imp fun _ _ _=>asgT fun _ _ _=>aGF ho
theorem aF1(hN:X.N.Nodup)(i:Nat)(hm:X.mg "range"=none)(hc:X.calm=true)(k:mG X own frs is scope cl)(hi:QE X iter fi)(ho:Own own.length g)(hg:∀C s3 H3 fp,QG (gP X (own++frs) scope cl C s3 H3 fp) tg g)(ht:∀C s3 H3 fp,QTs (gP X (own++frs) scope cl C s3 H3 fp) ifs gt)
 (he:∀C s3 H3 fp,QE (gP X (own++frs) scope cl C s3 H3 fp) bd fe)(cb:Gl X "range":=by rfl)(hx:X.N[i]?=some x:=by rfl)(hl:X.env.scope.names.lookup x=some .local:=by rfl)
 (jf:swapsWith (.ListComp bd [⟨tg,.Call (.Name "range" p) [iter] [] p2,ifs,0⟩] scope pos) (some (.Name x ao)) bx.line X.env=pure true:=by rfl)(hs:∀x,foldedSetIterable (.Call (.Name "range" p) [iter] [] p2) X.env x=pure x:=by intro _;rfl)(bc:starEach [iter] X.env=[(false,eval iter X.env)]:=by rfl):
 QS X (.Assign [.Name x ao] (.ListComp bd [⟨tg,.Call (.Name "range" p) [iter] [] p2,ifs,0⟩] scope pos) bx) (fZ (fV (kA fi own.length is g gt fe)) (gN i)):=
 (rM hN hx hl hc k (qE cb hm (eV hi fA (by rw[bc];rfl)) bc) hg ht he jf hs).imp fun _ _ _=>asgT fun _ _ _=>xF ho
theorem qN(hN:X.N.Nodup)(i:Nat)(hm:X.mg "range"=none)(hc:X.calm=true)(k:mG X own frs is scope cl)(hi:QE X iter fi)(ho:Own own.length g)(hg:∀C s3 H3 fp,QG (gP X (own++frs) scope cl C s3 H3 fp) tg g)(ht:∀C s3 H3 fp,QTs (gP X (own++frs) scope cl C s3 H3 fp) ifs gt)
 (he:∀C s3 H3 fp,QE (gP X (own++frs) scope cl C s3 H3 fp) bd fe)(cb:Gl X "range":=by rfl)(hx:X.N[i]?=some x:=by rfl)(hl:X.env.scope.names.lookup x=some .local:=by rfl)
 (jf:swapsWith (.ListComp bd [⟨tg,.Call (.Name "range" p) [iter] [] p2,ifs,0⟩] scope pos) (some (.Name x ao)) bx.line X.env=pure true:=by rfl)(hs:∀x,foldedSetIterable (.Call (.Name "range" p) [iter] [] p2) X.env x=pure x:=by intro _;rfl)(bc:starEach [iter] X.env=[(false,eval iter X.env)]:=by rfl):
 QS X (.Assign [.Name x ao] (.ListComp bd [⟨tg,.Call (.Name "range" p) [iter] [] p2,ifs,0⟩] scope pos) bx) (fZ (iU (kA fi own.length is g gt fe)) (gN i)):=
 (rM hN hx hl hc k (qE cb hm (eV hi fA (by rw[bc];rfl)) bc) hg ht he jf hs).imp fun _ _ _=>asgC fun _ _ _=>xF ho
end
section
variable {st:Stmt}{bj qg:List Stmt}{F G:FS}{tg iter:Expr}{g:FG}
variable{al ak:Pos}
theorem iE:QSs X [] i0:=aKZ.imp fun _ _ _=>aHn
theorem fD(h:QS X st F):QSs X [st] F:=aKj h
theorem eZ(h:QS X st F)(h2:QSs X bj G):QSs X (st::bj) (fN F G):=(aIR h h2).imp fun _ _ _=>aN7
theorem aKD:QS X (.Pass pos) i0:=aK9.imp fun _ _ _=>aHn
theorem aCP:QS X st aBF:=fun _ _ _ _ _ _ h=>(aJo h).elim
theorem fS(h:QE X a fa):QS X (.Return (some a) pos) (hV fa):=(aLR h).imp fun _ _ _=>aOf
theorem mS(h:QE X a fa)(hs:swapsWith a none pos.line X.env=pure false:=by rfl):QS X (.Expr a pos) (mJ fa):=(wG h hs).imp fun _ _ _=>aMH
theorem kB(hc:QT X c ga)(ha:QSs X bj F)(hb:QSs X qg G):QS X (.If c bj qg pos) (fIf ga F G):=(aOu hc ha hb).imp fun _ _ _=>aOK
theorem fM{x:Str}{ao:Pos}(hN:X.N.Nodup)(i:Nat)(h:QE X a fa)(hi:X.N[i]?=some x:=by rfl)(hx:Loc X.env.scope x:=by first|exact aQm rfl|exact aP8 rfl)(hs:swapsWith a (some (.Name x ao)) pos.line X.env=pure false:=by rfl)
 (hf:X.fn x=true\/X.env.scope.names.lookup x=some .local:=by first|exact .inl rfl|exact .inr rfl):QS X (.Assign [.Name x ao] a pos) (fZ fa (gN i)):=(aMr hN hi hx h hs hf).imp fun _ _ _ h=>iK (aB2 h) fun _ _ q=>wJ q
theorem aD1(h:QE X a fa)(hg:QG X tg g)(hs:swapsWithSole [tg] a pos.line X.env=pure false:=by rfl)(hw:swappedStores [tg] a X.env=pure none:=by rfl)(h1:(assignEach [tg] X.env).map (·.2)=[assign tg X.env]:=by rfl):QS X (.Assign [tg] a pos) (fZ fa g):=
 (aHA h hg hs hw h1).imp fun _ _ _=>aB2
theorem sG(hv:QE X a fa)(ho:QE X b fb)(hi:QE X c fc)(hs:swapsWithSole [.Subscript b c p] a pos.line X.env=pure false:=by rfl)(hw:swappedStores [.Subscript b c p] a X.env=pure none:=by rfl)
 (h1:(assignEach [.Subscript b c p] X.env).map (·.2)=[assign (.Subscript b c p) X.env]:=by rfl)
 (ha:∀v,assign (.Subscript b c p) X.env v=(do
  let ov<-holding [v] (eval b X.env)
  let iv<-holding [v,ov] (eval c X.env)
  standAt p
  holding [v,ov,iv] (setItem ov iv v)
  release [v,ov,iv] []):=by intro _;rfl):QS X (.Assign [.Subscript b c p] a pos) (qZ fa fb fc):=
 (aHA hv (aNz ho hi aBU ha) hs hw h1).imp fun _ _ _=>aNd
theorem kU(hc:X.calm=true)(hi:QE X iter fa)(hg:QG X tg g)(hb:QSs X bj F)(hp:PassesOwn (model X.prog X.w) X.A X.env X.xe:=by first|exact PassesOwn.never|exact PassesOwn.leaving|exact PassesOwn.looking)(hs:∀x,foldedSetIterable iter X.env x=pure x:=by intro _;rfl):QS X (.For tg iter bj [] pos) (nK fa g F):=
 (aAU hp hc (aA8 hi) hg hb hs).imp fun _ _ _=>aN6
theorem n5(hm:X.mg "range"=none)(hc:X.calm=true)(hi:QE X iter fa)(hg:QG X tg g)(hb:QSs X bj F)(hp:PassesOwn (model X.prog X.w) X.A X.env X.xe:=by first|exact PassesOwn.never|exact PassesOwn.leaving|exact PassesOwn.looking)(cb:Gl X "range":=by rfl)
 (hs:∀x,foldedSetIterable (.Call (.Name "range" p) [iter] [] p2) X.env x=pure x:=by intro _;rfl)(bc:starEach [iter] X.env=[(false,eval iter X.env)]:=by rfl):QS X (.For tg (.Call (.Name "range" p) [iter] [] p2) bj [] pos) (mE fa g F):=
 (aAU hp hc (qE cb hm (eV hi fA (by rw[bc];rfl)) bc) hg hb hs).imp fun _ _ _=>aKW
theorem yK(hm:X.mg "range"=none)(hc:X.calm=true)(h1:QE X a fa)(h2:QE X b fb)(hg:QG X tg g)(hb:QSs X bj F)(hp:PassesOwn (model X.prog X.w) X.A X.env X.xe:=by first|exact PassesOwn.never|exact PassesOwn.leaving|exact PassesOwn.looking)(cb:Gl X "range":=by rfl)
 (hs:∀x,foldedSetIterable (.Call (.Name "range" p) [a,b] [] p2) X.env x=pure x:=by intro _;rfl)(bc:starEach [a,b] X.env=[(false,eval a X.env),(false,eval b X.env)]:=by rfl)(ff:starEach [b] X.env=[(false,eval b X.env)]:=by rfl):QS X (.For tg (.Call (.Name "range" p) [a,b] [] p2) bj [] pos) (p5 fa fb g F):=
 (aAU hp hc (aFi cb hm (eV h1 (eV h2 fA (by rw[ff];rfl)) (by rw[bc,ff])) bc ff) hg hb hs).imp fun _ _ _=>aJV
theorem nH(n:Nat)(hc:QT X c ga)(hb:QSs X bj F)(hp:PassesOwn (model X.prog X.w) X.A X.env X.xe:=by first|exact PassesOwn.never|exact PassesOwn.leaving|exact PassesOwn.looking):QS X (.While c bj [] pos) (lD ga F n):=(aHK hp hc hb).imp fun _ _ _=>aKp
theorem nJ(ho:QE X a fa)(ha:QA X (e::es) fr)(hs:swapsWith (.Call (.Attribute a "append" al) (e::es) [] ak) none pos.line X.env=pure false:=by rfl)(dg:attributeBase a "append" X.env (eval a X.env)=eval a X.env:=by rfl)
 (iq:((backTo ak (starEach (e::es) X.env)).all (fun x=> !x.1)&&(backToKw ak (keywordEach [] X.env)).all (fun x=>x.1.isSome)
  &&decide ((e::es).length+([]:List Keyword).length+(if([]:List Keyword).isEmpty then 0 else 1)<30))=true:=by rfl)
 (cz:(al.endLine==ak.line)=true:=by rfl)(bc:starEach (e::es) X.env=(false,eval e X.env)::starEach es X.env:=by rfl)(br:(backTo ak (starEach es X.env)).any (·.1)=false:=by rfl):
 QS X (.Expr (.Call (.Attribute a "append" al) (e::es) [] ak) pos) (qQ fa fr):=
 (wG (aLI PySem.F.plainAttrs_list PySem.F.slot_list_append PySem.F.type_list_append aNw ho ha dg iq cz bc br) hs).imp fun _ _ _=>aLx aNI
theorem aD9(ho:QE X a fa)(ha:QA X (e::es) fr)(hs:swapsWith (.Call (.Attribute a "insert" al) (e::es) [] ak) none pos.line X.env=pure false:=by rfl)(dg:attributeBase a "insert" X.env (eval a X.env)=eval a X.env:=by rfl)
 (iq:((backTo ak (starEach (e::es) X.env)).all (fun x=> !x.1)&&(backToKw ak (keywordEach [] X.env)).all (fun x=>x.1.isSome)
  &&decide ((e::es).length+([]:List Keyword).length+(if([]:List Keyword).isEmpty then 0 else 1)<30))=true:=by rfl)
 (cz:(al.endLine==ak.line)=true:=by rfl)(bc:starEach (e::es) X.env=(false,eval e X.env)::starEach es X.env:=by rfl)(br:(backTo ak (starEach es X.env)).any (·.1)=false:=by rfl):
 QS X (.Expr (.Call (.Attribute a "insert" al) (e::es) [] ak) pos) (aJY fa fr):=
 (wG (aLI PySem.F.plainAttrs_list PySem.F.slot_list_insert PySem.F.type_list_insert aNu ho ha dg iq cz bc br) hs).imp fun _ _ _=>aLx aLW
end
end
section
variable {X:Cx}{aa:List (Addr×Obj)}{σ:L2.St}{H:Hp}{s:Shared}
variable{ch:List Addr}{h':Heap}{t':Nat}
theorem aCl{p:Addr}{o:HO}(I:Inv X aa σ H s)(bo:∀b∈ch,uC X aa H b)(k:∀b ob,b∉ch->s.heap.get? b=some ob->h'.get? b=some ob)(hp:s.heap.objs.size<=p)
 (new:jP X.prog X.w (upd H p o) h' p o):Inv X aa σ (upd H p o) {s with heap:=h',toks:=t'}:=by
 have hn:H p=none:=I.hok.fresh hp;have ne:∀b u,H b=some u->b≠p:=fun b u e z=>by rw[z,hn]at e;cases e
 have ie:∀b u,H b=some u->b∉ch:=fun b u e z=>by rw[(bo b z).1]at e;cases e
 refine I.step (g':=s.gens) (d':=s.drawn) (ch:=ch) (fun b hb=>⟨(bo b hb).2.2.2.1,(bo b hb).2.1,(bo b hb).2.2.2.2.1,(bo b hb).2.2.2.2.2⟩) (fun b o _ _ hc e _=>k b o hc e) (fun b o _ _ hc e _=>⟨o.slots,k b o hc e⟩)
  (fun b ob _ e n=>by rw[fP (bW (bO (Heap.lt_size e) hp))];exact n) (fun b ob hc e=>⟨ob,k b ob hc e⟩)
  (fun b xs e=>by rw[fP (ne _ _ e)];exact e) (fun b ob u e=>by rw[fP (ne _ _ e)];exact e) (fun b ps e=>⟨#[],by rw[fP (ne _ _ e),e];simp⟩) (fun m hm=>?_) (fun b u e=>?_) I.bare
 ·obtain⟨ob,es,ep,ho,r⟩:=hm
  exact⟨ob,es,ep,k _ ob (fun z=>(bo _ z).2.1 rfl) ho,r⟩
 ·by_cases hb:b=p
  ·subst hb;rw[i6]at e;cases e
   exact new
  ·rw[fP hb]at e
   refine(I.hok b u e).stay (fun c v hc q=>k c v ?_ q) (fun c q=>by rw[fP (ne _ _ q)];exact q) fun c xs q=>by rw[fP (ne _ _ q)];exact q
   rcases hc with z|z
   ·rw[z];exact ie b u e
   ·exact ie c _ z
theorem aAC(I:Inv X aa σ H s)(bo:∀b∈ch,uC X aa H b)(k:∀b ob,b∉ch->s.heap.get? b=some ob->h'.get? b=some ob):Inv X aa σ H {s with heap:=h',toks:=t'}:=by
 have ie:∀b u,H b=some u->b∉ch:=fun b u e z=>by rw[(bo b z).1]at e;cases e
 refine I.step (g':=s.gens) (d':=s.drawn) (ch:=ch) (fun b hb=>⟨(bo b hb).2.2.2.1,(bo b hb).2.1,(bo b hb).2.2.2.2.1,(bo b hb).2.2.2.2.2⟩) (fun b o _ _ hc e _=>k b o hc e) (fun b o _ _ hc e _=>⟨o.slots,k b o hc e⟩)
  (fun b ob _ e n=>n) (fun b ob hc e=>⟨ob,k b ob hc e⟩) (fun b xs e=>e) (fun b ob u e=>e) (fun b ps e=>⟨#[],by rw[e];simp⟩) (fun m hm=>?_) (fun b u e=>?_) I.bare
 ·obtain⟨ob,es,ep,ho,r⟩:=hm
  exact⟨ob,es,ep,k _ ob (fun z=>(bo _ z).2.1 rfl) ho,r⟩
 ·refine(I.hok b u e).stay (fun c v hc q=>k c v ?_ q) (fun c q=>q) fun c xs q=>q
  rcases hc with z|z
  ·rw[z];exact ie b u e
  ·exact ie c _ z
end
theorem aI4{P:Program}{w:World}{K:aO}{ts:List Expr}{k:Nat}{pos:Pos}(z TI TO i1 i2 l1 l2:Addr)(D:ZipApart z TI TO i1 i2 l1 l2):
 Turn P w K (.Tuple ts k pos) (Itz K l1 l2) [z,TI,TO,i1,i2] z (fun i h=>IsZip h z TI TO .none/\IsPair h TI (.ref i1) (.ref i2)/\(∃a b,IsPair h TO a b)/\h.IsListIter i1 l1 i/\h.IsListIter i2 l2 i) where
 mem:=by simp
 obj:=fun i h st b hb=>by
  obtain⟨hz,iz,⟨a,b',ji⟩,⟨o1,e1,c1,d1⟩,⟨o2,e2,c2,d2⟩⟩:=st;simp only[bE,cA,or_false]at hb;rcases hb with rfl|rfl|rfl|rfl|rfl
  ·exact⟨_,hz,fun v z=>by simp at z⟩
  ·exact⟨_,iz,fun v z=>by simp at z⟩
  ·exact⟨_,ji,fun v z=>by simp at z⟩
  ·exact⟨o1,e1,fun v z=>by rw[d1]at z;cases z⟩
  ·exact⟨o2,e2,fun v z=>by rw[d2]at z;cases z⟩
 keep:=fun i h h' st kk=>by
  obtain⟨hz,iz,⟨a,b',ji⟩,h1,h2⟩:=st
  exact⟨kk z (by simp) _ hz,kk TI (by simp) _ iz,⟨a,b',kk TO (by simp) _ ji⟩,h1.at fun o e=>kk i1 (by simp) o e,h2.at fun o e=>kk i2 (by simp) o e⟩
 item:=by
  intro X hP hw hK hc i aa s σ H E I hf st hg;subst hP hw hK;obtain⟨hz,iz,⟨a,b',ji⟩,h1,h2⟩:=st;obtain⟨xs,ys,x,y,q1,q2,g1,g2⟩:=hg;obtain⟨its,rv,p1,z1⟩:=I.list q1;obtain⟨gp,nk,p2,z2⟩:=I.list q2;obtain⟨u,hu,ru⟩:=rv.get g1;obtain⟨u2,qv,lg⟩:=nk.get g2
  refine wpAny_pyNext_zip_item D hz iz ji h1 h2 p1.isList p2.isList (x:=u) (y:=u2) (by simpa using hu) (by simpa using qv) fun h' a1 a2 a3 a4 a5 a6 hk=>?_
  refine⟨_,rfl,wpAny_letOwnedTupleGo_zip (s:={s with heap:=h'}) a1 fun ju xj bz=>?_⟩
  have zlt:z≠s.heap.objs.size:=bW (Heap.lt_size hz);have kk:∀b ob,b∉[z,TI,TO,i1,i2]->s.heap.get? b=some ob->ju.get? b=some ob:=fun b ob hb e=>by
   simp only[bE,cA,or_false,not_or]at hb
   exact(bz.2 b hb.1).trans (hk b ob hb.1 hb.2.2.1 hb.2.2.2.1 hb.2.2.2.2 e)
  have hT:ju.get? s.heap.objs.size=some {cls:=.type "tuple",data:=.seq #[u,u2]}:=(bz.2 _ (Ne.symm zlt)).trans a5;have I1:Inv X aa σ (upd H s.heap.objs.size (.tup [x,y])) {s with heap:=ju,toks:=s.toks}:=aCl I hf kk (bF _)
   (show jP X.prog X.w _ ju _ (.tup [x,y])from⟨by show 2<=sizeLine;decide,[u,u2],.cons ru (.cons lg .nil),⟨_,hT,rfl,_,rfl⟩⟩)
  have hn:H s.heap.objs.size=none:=I.fresh
  refine⟨.ref s.heap.objs.size,_,I1,rfl,⟨_,x,y,hn,rfl,rfl,fun zs hz=>by rw[I.list_inj hz q1];exact g1,fun zs hz=>by rw[I.list_inj hz q2];exact g2⟩,?_,fun b hb=>?_⟩
  ·refine⟨xj,(bz.2 _ D.TIz).trans (hk _ _ D.TIz D.TITO D.TIi1 D.TIi2 iz),⟨u,u2,(bz.2 _ D.TOz).trans a2⟩,a3.at fun o e=>(bz.2 _ D.i1z).trans e,a4.at fun o e=>(bz.2 _ D.i2z).trans e⟩
  ·have ue:=(hf b hb).1;rw[fP]
   ·exact ue
   ·rintro rfl;have:∃o,s.heap.get? s.heap.objs.size=some o:=by
     simp only[bE,cA,or_false]at hb;obtain⟨o1,e1,_⟩:=h1;obtain⟨o2,e2,_⟩:=h2;rcases hb with h|h|h|h|h
     ·rw[h];exact⟨_,hz⟩
     ·rw[h];exact⟨_,iz⟩
     ·rw[h];exact⟨_,ji⟩
     ·rw[h];exact⟨_,e1⟩
     ·rw[h];exact⟨_,e2⟩
    obtain⟨o,e⟩:=this
    exact absurd (Heap.lt_size e) (cP _)
 done:=by
  intro X hP hw hK hc i aa s σ H E I hf st hg;subst hP hw hK;obtain⟨hz,iz,⟨a,b',ji⟩,h1,h2⟩:=st;obtain⟨xs,ys,q1,q2,tz⟩:=hg;obtain⟨its,rv,p1,z1⟩:=I.list q1;obtain⟨gp,nk,p2,z2⟩:=I.list q2;have l1:=rv.length;have l2:=nk.length
  refine wpAny_pyNext_zip_end (I.ok.hd hc) D hz iz ji h1 h2 p1.isList p2.isList ?_ fun h' hk=>⟨rfl,aAC (t':=s.toks) I hf fun b ob hb e=>?_⟩
  ·rcases tz with h|h
   ·exact .inl (by simp at h|-;lia)
   ·exact .inr (by simp at h|-;lia)
  ·simp only[bE,cA,or_false,not_or]at hb
   exact hk b ob hb.1 hb.2.2.1 hb.2.2.2.1 hb.2.2.2.2 e
 self:=fun _ _ _ _ _ st h=>wpAny_pyIter_zip st.1 h
section
variable {X:Cx}{a b e:Expr}{es:List Expr}{fa fb:FE}{fr:FN}{pos p p2:Pos}
theorem aMC{ts:List Expr}{k:Nat}{aw:Pos}{ta:TA}(hg:Gl X "zip")(hm:X.mg "zip"=none)(ha:PA X [a,b] ta)(hs:starEach [a,b] X.env=[(false,eval a X.env),(false,eval b X.env)]:=by rfl)(ij:starEach [b] X.env=[(false,eval b X.env)]:=by rfl):
 PI X (.Tuple ts k aw) (.Call (.Name "zip" p) [a,b] [] pos) (iZip X.K ta):=by
 intro aa s σ H R I h
 refine Call_ (pQ I hg hm boot_zip (dD (thn (ha pos aa s σ H _ I h) fun us s1 ⟨vs,H1,I1,r1,q1⟩=>?_) (by rw[hs,ij]) (by rw[ij];rfl)))
 obtain⟨l1,l2,e,⟨xs,qx⟩,⟨ys,qy⟩,q⟩:=q1;subst e;obtain⟨u,u2,rfl,ru,lg⟩:=r1.two;cases ru;cases lg;obtain⟨its,rv,p1,z1⟩:=I1.list qx;obtain⟨gp,nk,p2,z2⟩:=I1.list qy;have a1:l1<s1.heap.objs.size:=p1.lt;have a2:l2<s1.heap.objs.size:=p2.lt
 refine call_zip_2 p1.isList p2.isList fun h' hz iz ji hi1 hi2 hsz hk=>wpAny_pyIter_zip hz ?_
 have I2:Inv X aa σ H1 {s1 with heap:=h'}:=I1.kept (t':=s1.toks) hk
 refine⟨s1.heap.objs.size+4,[s1.heap.objs.size+4,s1.heap.objs.size+2,s1.heap.objs.size+3,s1.heap.objs.size,s1.heap.objs.size+1],_,_,H1,rfl,I2,aI4 _ _ _ _ _ l1 l2 (zipApart_new a1 a2),⟨hz,iz,⟨_,_,ji⟩,hi1,hi2⟩,fun b hb=>?_,q⟩
 have hle:s1.heap.objs.size<=b:=by
  simp only[bE,cA,or_false]at hb;rcases hb with rfl|rfl|rfl|rfl|rfl
  ·exact aOT _ _
  ·exact aOT _ _
  ·exact aOT _ _
  ·exact bF _
  ·exact aOT _ _
 exact I1.fpOk hle (I1.hok.fresh hle)
section
variable {own frs:List Str}{is:List Nat}{scope:Scope}{cl:List (Str×Addr)}{ts:List Expr}{tk:Nat}{aw:Pos}{bd:Expr}{ifs:List Expr}{fe:FE}{g:FG}{gt:FB}
theorem aEy(hm:X.mg "zip"=none)(hc:X.calm=true)(k:mG X own frs is scope cl)(h1:QE X a fa)(h2:QE X b fb)(ho:Own own.length g)(hg:∀C s3 H3 fp,QG (gP X (own++frs) scope cl C s3 H3 fp) (.Tuple ts tk aw) g)(ht:∀C s3 H3 fp,QTs (gP X (own++frs) scope cl C s3 H3 fp) ifs gt)
 (he:∀C s3 H3 fp,QE (gP X (own++frs) scope cl C s3 H3 fp) bd fe)(cb:Gl X "zip":=by rfl)(hs:∀x,foldedSetIterable (.Call (.Name "zip" p) [a,b] [] p2) X.env x=pure x:=by intro _;rfl)
 (bc:starEach [a,b] X.env=[(false,eval a X.env),(false,eval b X.env)]:=by rfl)(ff:starEach [b] X.env=[(false,eval b X.env)]:=by rfl):
 QN X (.ListComp bd [⟨.Tuple ts tk aw,.Call (.Name "zip" p) [a,b] [] p2,ifs,0⟩] scope pos) (rK fa fb own.length is g gt fe):=
 (v4 hc k (aMC cb hm (eV h1 (eV h2 fA (by rw[ff];rfl)) (by rw[bc,ff])) bc ff) hg ht he hs).imp fun _ _ _=>aK8 ho
end
variable{c:String}
def IsiV(K:aO)(H:Hp)(x:V)(c:String)(b:Bool):Prop:=match x with
 | .non=>cU K (.type "NoneType") (.type c)=some b
 | .bl _=>cU K (.type "bool") (.type c)=some b
 | .int _=>cU K (.type "int") (.type c)=some b
 | .str _=>cU K (.type "str") (.type c)=some b
 | .ref a=>((∃xs,SqL K H a xs)/\cU K (.type "list") (.type c)=some b)\/((∃xs,SqT K H a xs)/\cU K (.type "tuple") (.type c)=some b)
 |_=>False
theorem aGH:nV X (.builtin "isinstance") (fun xs H Q=>∃x c b,xs=[x,.ty c]/\IsiV X.K H x c b/\Q (.bl b) H):=by
 intro aa s σ H xs us Q I r h;obtain⟨x,c,b,rfl,hi,q⟩:=h;obtain⟨u,u2,rfl,ru,lg⟩:=r.two;cases lg;have fin:∀tk,EP X aa σ Q (.bool b) {s with toks:=tk}:=fun tk=>⟨.bl b,H,I.tok tk,rfl,q⟩
 cases x with
 |non=>cases ru;exact eL PySem.W.kitx_none I.kIn True.intro hi (fun z=>nomatch z) fin
 |bl y=>cases ru;exact eL PySem.W.kitx_bool I.kIn True.intro hi (fun z=>nomatch z) fin
 |int i=>obtain⟨t,q⟩:=ru;cases q;exact eL PySem.W.kitx_int I.kIn True.intro hi (fun z=>nomatch z) fin
 |str y=>obtain⟨t,q⟩:=ru;cases q;exact eL PySem.W.kitx_str I.kIn True.intro hi (fun z=>nomatch z) fin
 |ref a=>
  cases ru;rcases hi with⟨⟨xs,hq⟩,hi⟩| ⟨⟨xs,hq⟩,hi⟩
  ·obtain⟨its,_,⟨o,n,e,c,_⟩,_⟩:=I.list hq
   exact eL PySem.W.kitx_list I.kIn ⟨o,e,c⟩ hi (fun z=>nomatch z) fin
  ·obtain⟨its,_,⟨o,e,c,_⟩,_⟩:=I.tuple hq
   exact eL PySem.W.kitx_tuple I.kIn ⟨o,e,c⟩ hi (fun z=>nomatch z) fin
 |_=>exact False.elim hi
def aCu(c:String):Prop:=∀(K:aO),cU K (.type "NoneType") (.type c)=some (c=="NoneType")/\cU K (.type "bool") (.type c)=some (c=="bool"||c=="int")/\cU K (.type "int") (.type c)=some (c=="int")/\
 cU K (.type "str") (.type c)=some (c=="str")/\cU K (.type "list") (.type c)=some (c=="list")/\cU K (.type "tuple") (.type c)=some (c=="tuple")
theorem aJE:aCu "int":=fun K=>⟨rfl,rfl,rfl,rfl,rfl,rfl⟩
theorem aH2:aCu "bool":=fun K=>⟨rfl,rfl,rfl,rfl,rfl,rfl⟩
theorem aIE:aCu "list":=fun K=>⟨rfl,rfl,rfl,rfl,rfl,rfl⟩
theorem aOl{K:aO}{σ:L2.St}{H:Hp}{Q:VK}(hc:aCu c)(h:trE K (vK c fa) σ H Q):trE K fa σ H fun x H1=>∃b,IsiV K H1 x c b/\Q (.bl b) H1:=by
 obtain⟨h1,h2,h3,h4,h5,h6⟩:=hc K
 refine iK (aNJ h) fun x H1 q=>?_
 obtain⟨t0,H₀,Z,ρ,τ,C,t,C',R,r,e,k⟩:=q;obtain⟨_,_,z,r1,r⟩:=r.cons_inv;cases z;obtain⟨b,e1,e⟩:=aL.mp e;cases e
 refine⟨b,?_,k _ H1 ρ R .bl .refl⟩
 cases t0 with
 |non=>rw[r1.non_inv];exact h1.trans e1
 |bl y=>rw[r1.bl_inv];exact h2.trans e1
 |int i=>rw[r1.int_inv];exact h3.trans e1
 |str y=>
  unfold RT at r1;rw[r1];exact h4.trans e1
 |exc y=>cases e1
 |lst ts=>
  obtain⟨a,vs,ea,qa,ra⟩:=R.li r1 rfl;rw[ea];exact .inl ⟨⟨vs,qa⟩,h5.trans e1⟩
 |tup ts=>
  unfold RT at r1;obtain⟨a,vs,ea,qa,ra⟩:=r1;rw[ea];exact .inr ⟨⟨vs,SqT.msk (.of qa)⟩,h6.trans e1⟩
 |cell c=>cases e1
theorem aI2{x:Str}(hc:aCu c)(hm:X.mg "isinstance"=none)(lx:X.mg x=none)(hv:bootBuiltins x=some (.type c))(ha:QE X a fa)(hg:Gl X "isinstance":=by rfl)(me:Gl X x:=by rfl)(hn:x≠"__name__":=by decide)(hd:(x==("__debug__":Str))=false:=by decide)
 (h1:starEach [a,.Name x p2] X.env=(false,eval a X.env)::starEach [.Name x p2] X.env:=by rfl)(h2:(backTo pos (starEach [.Name x p2] X.env)).any (·.1)=false:=by rfl):
 QE X (.Call (.Name "isinstance" p) [a,.Name x p2] [] pos) (vK c fa):=
 (aCO aGH hg hm boot_isinstance (vZ ha (vZ (aJi (v:=.ty c) me lx hv rfl hn hd) aDi rfl) h1) (by decide) (by decide) h1 h2).imp fun σ H Q h=>iK (aOl hc h) fun x H1 q=>by
  obtain⟨b,h1,h2⟩:=q
  exact⟨x,c,b,rfl,h1,h2⟩
theorem aFh(hm:X.mg "isinstance"=none)(lx:X.mg "int"=none)(ha:QE X a fa)(hg:Gl X "isinstance":=by rfl)(me:Gl X "int":=by rfl)(h1:starEach [a,.Name "int" p2] X.env=(false,eval a X.env)::starEach [.Name "int" p2] X.env:=by rfl)(h2:(backTo pos (starEach [.Name "int" p2] X.env)).any (·.1)=false:=by rfl):
 QE X (.Call (.Name "isinstance" p) [a,.Name "int" p2] [] pos) (vK "int" fa):=aI2 aJE hm lx boot_int ha hg me (by decide) (by decide) h1 h2
theorem aEd(hm:X.mg "isinstance"=none)(lx:X.mg "bool"=none)(ha:QE X a fa)(hg:Gl X "isinstance":=by rfl)(me:Gl X "bool":=by rfl)(h1:starEach [a,.Name "bool" p2] X.env=(false,eval a X.env)::starEach [.Name "bool" p2] X.env:=by rfl)(h2:(backTo pos (starEach [.Name "bool" p2] X.env)).any (·.1)=false:=by rfl):
 QE X (.Call (.Name "isinstance" p) [a,.Name "bool" p2] [] pos) (vK "bool" fa):=aI2 aH2 hm lx boot_bool ha hg me (by decide) (by decide) h1 h2
theorem xU(hm:X.mg "isinstance"=none)(lx:X.mg "list"=none)(ha:QE X a fa)(hg:Gl X "isinstance":=by rfl)(me:Gl X "list":=by rfl)(h1:starEach [a,.Name "list" p2] X.env=(false,eval a X.env)::starEach [.Name "list" p2] X.env:=by rfl)(h2:(backTo pos (starEach [.Name "list" p2] X.env)).any (·.1)=false:=by rfl):
 QE X (.Call (.Name "isinstance" p) [a,.Name "list" p2] [] pos) (vK "list" fa):=aI2 aIE hm lx boot_list ha hg me (by decide) (by decide) h1 h2
end
end TL
namespace TL
open PySem PySem.W PySem.Calls PyProof.Rows L2
theorem bitsW{n:Int}(h:(WData.int n).layable=true):Builtin.Int.intBits n<=2^20:=by
 obtain⟨_,_,h3⟩:=layableW_iff.mp h;unfold WData.weight at h3;unfold Builtin.Int.intBits
 exact h3
theorem aBN{ns:List Int}(h:WData.layableAll [WData.list (ns.map WData.int)]=true):∀n∈ns,Builtin.Int.intBits n<=2^20:=fun n hn=>
 bitsW (layableW_item (layableW_arg h _ bJ) _ (bL.mpr ⟨n,hn,rfl⟩))
theorem aGd{l:aQg}{k:Nat}{q:Program}{loose:List Str}{XP:(Str->Option Value)->Heap->Prop}{YP:World->Heap->Prop}{d:DefRec}{K:Params->aO}{x:Str}{R:List T->Option T}
 (hn:l.most=some 63)(hdf:d.params.defaults=[])(hr:Room k callerA)
 (hY:∀(w:World)(h:Heap),YP w h->(K w.params).In h)
 (hR:∀ns:List Int,ns.length<=63->(∀n∈ns,Builtin.Int.intBits n<=2^20)->R [.lst (ns.map T.int)]=some (.bl true))
 (F:∀(w:World)(mg:Str->Option Value)(fa:Addr)(h:Heap),(K w.params).In h->h.Ns mainGlobals mg->mg d.name=some (.ref fa)->
  ∃fd:FuncData,(∀(s:Shared)(u:Value),BindsTo s fd ⟨[u],[]⟩ [(x,u)])/\
   ∀base:Heap,(K w.params).In base->base.Ns mainGlobals mg->mQ l.prog w (K w.params) mg base CX0 k fa fd [x] (spT (K w.params) 1 R)):
 PySem.W.WalkO q loose XP YP l.row.toRowW d [] (fun f vs=>PySem.call f vs):=by
 intro w s₀ aj mg mb G Y fa o pm cd doc dV kV ho hd iu hD yj hg args vals as ik sv rj ig hlo;obtain rfl:dV=.none:=Dflts.none hD hdf;obtain rfl:kV=.none:=Dflts.noKw hD;obtain⟨a,vs,ns,rfl,rfl,sg,hints,ai⟩:=Att.aGk hn ik ig;have KX:=hY w _ Y;obtain⟨fd,hb,hF⟩:=F w mg fa _ KX G.T.g yj;have fg:∀H:Hp,Only H->SqL (K w.params) H a (ns.map V.int)->spT (K w.params) 1 R [.ref a] H (fun v _=>v=.bl true) fun _ _ _=>False:=fun H _ hS=>by
  refine⟨fun _=>False,[.lst (ns.map T.int)],.bl true,rfl,fun _ z=>z.elim,.cons ?_ .nil,hR ns ai (aBN sv),fun v H' _ r=>r.bl_inv⟩
  unfold RT;have sm:Same H (mask H (fun _=>False) []):=fun b o e=>l4 (fun z=>z) (by simp) e
  refine⟨a,_,rfl,sm.seq hS,?_⟩
  clear hS sg hints ai sv ik rj ig;induction ns with
  |nil=>exact .nil
  |cons n ns ih=>exact .cons .int ih
 refine enter_call (codeAny_mono (aGG KX G.T.g G.T.b G.T.builtins G.T.nolimit hg sg hints (cB ai (by decide)) hr hF hb fg (fun H e s' z=>z)) fun r s' hq=>?_)
 obtain⟨rfl,h2,h3,h4⟩:=hq
 exact⟨.inl ⟨.bool true,.bool true,[],rfl,fun _=>rfl,.bool true,Att.aGj l _,fun _=>⟨List.Pairwise.nil,fun _ hm=>(nomatch hm)⟩⟩,h2,h3,h4⟩
end TL
namespace TL
open PySem PySem.Spec PyProof.Rows L2
theorem aGf(a d:Value):argsOk "max" ⟨[a],[("default",d)]⟩:=by unfold argsOk;kernel_rfl
noncomputable abbrev aD0(us:Array Value)(c:Nat):Obj:={cls:=.type "list",dict:=none,data:=.seq us c,slots:=#[]}
section
variable {P:Program}{w:World}{A:Around}{R:Result->Shared->Prop}{it bs:Addr}{fp wr:List Addr}{n:Nat}{Pr:Nat->Value->Prop}{St:Nat->Heap->Prop}{kg:List (Str×Value)}{bt:Nat->Nat->Bool}
variable{s:Shared}{c:Nat}
theorem aBy:(toString "max"++toString ".loop":String)="max.loop":=by decide
theorem aGg(W:Walks P w A.in1 it fp wr n Pr St)(mh:CmpOf P w A.in1 .Gt Pr bt)(jh:bs∉fp):∀(k j:Nat)(s:Shared)(vb:Value)(c:Nat),n - (j+1)=k->j+1<=n->St (j+1) s.heap->Pr (argBest bt j) vb->s.heap.get? bs=some (aD0 #[vb,vb] c)->
 (∀v g tk,Pr (argBest bt (n - 1)) v->(∀b o,b∉wr->b≠bs->s.heap.get? b=some o->g.get? b=some o)->R (.ok (.ret v)) {s with heap:=g,toks:=tk})->codeAny (model P w) A (.builtin "max.loop" ⟨[.ref it,.none,.ref bs],kg⟩) R s:=by
 have nw:bs∉wr:=fun q=>jh (W.sub _ q)
 intro k;induction k with
 |zero=>
  intro j s vb c ek ej st pb eb fin;have en:j+1=n:=by lia
  refine codeAny_builtin PySem.F.entry_max_loop (by
   rw[Around.under_plainId PySem.F.plain_max_loop _];show wpAny _ A.in1 (seqItems? (.ref bs)>>=_) _ _ s
   refine wpAny_bind (wpAny_seqItems eb rfl ?_)
   show wpAny _ A.in1 (tryCatch (pyNext (.ref it)) _>>=_) _ _ s
   refine wpAny_bind (wpAny_tryCatch (W.done s _ _ (en ▸ st) fun g tk kp=>?_))
   have kt:=kp bs _ nw eb;show wpAny _ A.in1 (updateSeq bs (fun _=>#[])>>=_) _ _ _
   exact wpAny_bind (wpAny_updateSeq kt rfl (wpAny_bind (wpAny_letGo (wpAny_pure (fin vb _ tk (by rw[<-en];exact pb) fun b o z1 z2 e=>(Heap.get?_update_other _ _ (Ne.symm z2)).trans (kp b o z1 e)))))))
 |succ k ih=>
  intro j s vb c ek ej st pb eb fin;have lt:j+1<n:=by lia
  refine codeAny_builtin PySem.F.entry_max_loop (by
   rw[Around.under_plainId PySem.F.plain_max_loop _];show wpAny _ A.in1 (seqItems? (.ref bs)>>=_) _ _ s
   refine wpAny_bind (wpAny_seqItems eb rfl ?_)
   show wpAny _ A.in1 (tryCatch (pyNext (.ref it)) _>>=_) _ _ s
   refine wpAny_bind (wpAny_tryCatch (W.item (j+1) s _ _ lt st fun v g tk pv ax kp=>?_))
   have kt:=kp bs _ nw eb;show wpAny _ A.in1 (tryCatch (holding [v,v] (richCompare .Gt v vb>>=_)) _>>=_) _ _ _
   refine wpAny_bind (wpAny_tryCatch (wpAny_holding (wpAny_bind (mh (j+1) (argBest bt j) v vb _ _ _ pv pb (wpAny_bind (wpAny_holding (wpAny_truthy_bool (wpAny_bind (wpAny_letGo (wpAny_pure ?_))))))))))
   cases hb:bt (j+1) (argBest bt j)with
   |true=>
    simp only[if_true]
    refine wpAny_bind (wpAny_updateSeq kt rfl (wpAny_bind (wpAny_letGo ?_)))
    rw[aBy]
    refine wpAny_pure ⟨plainId_quiet PySem.F.plain_max_loop _,ih (j+1) _ v _ (by lia) lt (W.frame _ _ _ ax fun b z o e=>?_) (by simp only[argBest,hb,if_true];exact pv) (Heap.get?_update_self _ kt rfl) fun v' g' qe lj qt=>?_⟩
    ·exact(Heap.get?_update_other _ _ (fun q:bs=b=>jh (by rw[q];exact z))).trans e
    ·exact fin v' g' qe lj fun b o z1 z2 e=>qt b o z1 z2 ((Heap.get?_update_other _ _ (Ne.symm z2)).trans (kp b o z1 e))
   |false=>
    simp only[b9,if_false]
    refine wpAny_bind (wpAny_letGo ?_)
    rw[aBy]
    refine wpAny_pure ⟨plainId_quiet PySem.F.plain_max_loop _,ih (j+1) _ vb c (by lia) lt ax (by simp only[argBest,hb,b9,if_false];exact pb) kt fun v' g' qe lj qt=>?_⟩
    exact fin v' g' qe lj fun b o z1 z2 e=>qt b o z1 z2 (kp b o z1 e))
theorem aDX(W:Walks P w A.in1 it fp wr n Pr St)(mh:CmpOf P w A.in1 .Gt Pr bt)(jh:bs∉fp)(hn:0<n)(st:St 0 s.heap)(eb:s.heap.get? bs=some (aD0 #[] c))
 (fin:∀v g tk,Pr (argBest bt (n - 1)) v->(∀b o,b∉wr->b≠bs->s.heap.get? b=some o->g.get? b=some o)->R (.ok (.ret v)) {s with heap:=g,toks:=tk}):codeAny (model P w) A (.builtin "max.loop" ⟨[.ref it,.none,.ref bs],kg⟩) R s:=by
 have nw:bs∉wr:=fun q=>jh (W.sub _ q)
 refine codeAny_builtin PySem.F.entry_max_loop (by
  rw[Around.under_plainId PySem.F.plain_max_loop _];show wpAny _ A.in1 (seqItems? (.ref bs)>>=_) _ _ s
  refine wpAny_bind (wpAny_seqItems eb rfl ?_)
  show wpAny _ A.in1 (tryCatch (pyNext (.ref it)) _>>=_) _ _ s
  refine wpAny_bind (wpAny_tryCatch (W.item 0 s _ _ hn st fun v g tk pv ax kp=>?_))
  have kt:=kp bs _ nw eb;show wpAny _ A.in1 (updateSeq bs (fun _=>#[v,v])>>=_) _ _ _
  refine wpAny_bind (wpAny_updateSeq kt rfl ?_)
  rw[aBy]
  refine wpAny_pure ⟨plainId_quiet PySem.F.plain_max_loop _,aGg W mh jh _ 0 _ v _ rfl hn (W.frame _ _ _ ax fun b z o e=>?_) pv (Heap.get?_update_self _ kt rfl) fun v' g' qe lj qt=>?_⟩
  ·exact(Heap.get?_update_other _ _ (fun q:bs=b=>jh (by rw[q];exact z))).trans e
  ·exact fin v' g' qe lj fun b o z1 z2 e=>qt b o z1 z2 ((Heap.get?_update_other _ _ (Ne.symm z2)).trans (kp b o z1 e)))
theorem aF9{d:Value}{nm:Str}(W:Walks P w A.in1 it fp wr 0 Pr St)(jh:bs∉fp)(st:St 0 s.heap)(eb:s.heap.get? bs=some (aD0 #[] c))
 (fin:∀g tk,(∀b o,b∉wr->b≠bs->s.heap.get? b=some o->g.get? b=some o)->R (.ok (.ret d)) {s with heap:=g,toks:=tk}):codeAny (model P w) A (.builtin "max.loop" ⟨[.ref it,.none,.ref bs],[(nm,d)]⟩) R s:=by
 refine codeAny_builtin PySem.F.entry_max_loop (by
  rw[Around.under_plainId PySem.F.plain_max_loop _];show wpAny _ A.in1 (seqItems? (.ref bs)>>=_) _ _ s
  refine wpAny_bind (wpAny_seqItems eb rfl ?_)
  show wpAny _ A.in1 (tryCatch (pyNext (.ref it)) _>>=_) _ _ s
  refine wpAny_bind (wpAny_tryCatch (W.done s _ _ st fun g tk kp=>?_))
  exact wpAny_bind (wpAny_rule (wpAny_pure (fin g tk fun b o z1 _ e=>kp b o z1 e))))
end
section
variable {X:Cx}{aa:List (Addr×Obj)}{σ:L2.St}{H:Hp}{s:Shared}{Q:VK}
theorem aFY{p:Addr}{ns:List Int}{d:Int}{t:Tok}(hc:X.calm=true)(I:Inv X aa σ H s)(hq:SqL X.K H p (ns.map V.int))(q:Q (.int (jW d ns)) H):
 wpAny (model X.prog X.w) X.A (call (.builtin "max") [.ref p] [("default",.int d t)]) (EP X aa σ Q) X.xe s:=by
 obtain⟨its,rv,pl,hz⟩:=I.list hq;have hi:=oX rv;obtain⟨ys,hx⟩:=hi.allInts.items;have dq:s.heap.IsList p (intItems ys):=hx ▸ pl.isList;have fj:ns=ys.toList.map (·.1):=by
  rw[<-nums_intItems,<-hx]
  exact(show numsOf its.toArray.toList=ns from hi.numsOf).symm
 refine kmk_tree PySem.F.kind_max PySem.F.plain_max PySem.F.entry_max (aGf _ _) ?_
 show wpAny _ X.A.in1 (Builtin.Builtins.bindParams "max" ["key","default"] 0 ⟨[],[("default",.int d t)]⟩>>=_) _ _ s
 refine wpAny_bind (wpAny_of_eq (show Builtin.Builtins.bindParams "max" ["key","default"] 0 ⟨[],[("default",.int d t)]⟩=pure [none,some (.int d t)]from rfl) (wpAny_bind (wpAny_pure ?_)))
 refine wpAny_bind (iter_intList dq fun s2 e2 st fp ne=>?_)
 subst e2;have W:=Walks.list (prog:=X.prog) (w:=X.w) (A:=X.A.in1) (I.ok.hd hc) s.heap.objs.size p ne (intItems ys);have jh:(s.heap.push {cls:=.type "list_iterator",data:=.fields #[.ref p,.int 0 0]}).objs.size∉[s.heap.objs.size,p]:=fun z=>cP _ (fp _ z)
 refine wpAny_bind (wpAny_newObj_type ?_)
 rw[aBy]
 refine wpAny_pure ⟨plainId_quiet PySem.F.plain_max_loop _,?_⟩
 by_cases he:ns=[]
 ·have hsz:(intItems ys).size=0:=by
   have h3:ns.length=0:=by rw[he];rfl
   rw[fj,aS,b7]at h3;simpa[intItems]using h3
  rw[hsz]at W
  refine aF9 W jh (W.frame _ _ _ st fun b _ o e=>Heap.get?_push_of_some _ e) (Heap.get?_push_size _ rfl) fun g tk kp=>?_
  refine⟨.int d,H,I.kept fun b o e=>kp b o (fun z=>?_) (bW (aP0 (Heap.lt_size e) (by rw[Heap.size_push];exact d8 _))) (Heap.get?_push_of_some _ (Heap.get?_push_of_some _ e)),⟨_,rfl⟩,?_⟩
  ·exact cP _ (bS.mp z ▸ Heap.lt_size e)
  ·have:jW d ns=d:=by unfold jW;rw[he];rfl
   rw[this]at q;exact q
 ·have hsz:0<ys.size:=by
   have h3:0<ns.length:=d7.mpr he;rw[fj,aS,b7]at h3;exact h3
  refine aDX W (bt:=fun i j=>decide (numAt ys i>numAt ys j)) (CmpOf.ints_gt (numAt ys) (fun _ _=>intItems_at)) jh (by simpa[intItems]using hsz) (W.frame _ _ _ st fun b _ o e=>Heap.get?_push_of_some _ e) (Heap.get?_push_size _ rfl) fun v g tk pv kp=>?_
  have lj:(intItems ys)[argBest (fun i j=>decide (numAt ys i>numAt ys j)) (ys.size - 1)]?=some v:=by simpa[intItems]using pv
  obtain⟨t',rfl⟩:=intItems_at lj;obtain⟨h1,h2⟩:=argBest_gt (numAt ys) (ys.size - 1);obtain⟨m1,m2⟩:=aAw he;have eM:numAt ys (argBest (fun i j=>decide (numAt ys i>numAt ys j)) (ys.size - 1))=t9 ns:=by
   apply aO0
   ·refine m2 _ ?_
    generalize argBest (fun i j=>decide (numAt ys i>numAt ys j)) (ys.size - 1)=j at*;rw[fj,numAt_eq];exact getD_mem (by rw[aS,b7];lia)
   ·generalize t9 ns=M at*;rw[fj]at m1;obtain⟨j,hj,ej⟩:=mem_getD m1;rw[aS,b7]at hj;rw[<-ej,<-numAt_eq];exact h2 j (by lia)
  refine⟨.int (t9 ns),H,I.kept fun b o e=>kp b o (fun z=>?_) (bW (aP0 (Heap.lt_size e) (by rw[Heap.size_push];exact d8 _))) (Heap.get?_push_of_some _ (Heap.get?_push_of_some _ e)),⟨_,by rw[eM]⟩,?_⟩
  ·exact cP _ (bS.mp z ▸ Heap.lt_size e)
  ·have:jW d ns=t9 ns:=by
    unfold jW;rw[if_neg (by simpa using he)]
   rw[this]at q;exact q
end
def aEJ(K:aO):R2:=fun x y H Q=>∃p ns d,x=.ref p/\y=.int d/\SqL K H p (ns.map V.int)/\Q (.int (jW d ns)) H
theorem aMw{K:aO}{σ:L2.St}{H:Hp}{Q:VK}{x y:V}(h:∃t1 t2,trV K σ [t1,t2] [x,y] (aCA t1 t2) H Q):aEJ K x y H Q:=by
 obtain⟨t1,t2,H₀,Z,ρ,τ,C,t,C',R,r,e,k⟩:=h;obtain⟨_,_,z,r1,r⟩:=r.cons_inv;cases z;obtain⟨_,_,z,r2,r⟩:=r.cons_inv;cases z;unfold aCA at e;split at e
 ·obtain⟨us,e1,e⟩:=aK.mp e;obtain⟨ns,e2,e⟩:=aL.mp e;cases e;obtain⟨a,vs,ea,qa,ra⟩:=R.li r1 e1;have:=aAc ra e2;subst this
  exact⟨a,ns,_,ea,r2.int_inv,qa,k _ H ρ R .int .refl⟩
 ·cases e
section
variable {X:Cx}{p pos kp:Pos}{e de:Expr}{ta tb:TE}{fa fb:FE}
theorem aJz(hm:X.mg "max"=none)(hc:X.calm=true)(ha:PE X e ta)(hb:PE X de tb)(hg:Gl X "max":=by rfl)
 (he:backTo pos (starEach [e] X.env)=(false,eval e X.env)::backTo pos (starEach [] X.env):=by rfl)(av:(backTo pos (starEach [e] X.env)).any (·.1)=false:=by rfl)
 (xr:starEach [e] X.env=(false,eval e X.env)::starEach [] X.env:=by rfl):
 PE X (.Call (.Name "max" p) [e] [⟨some "default",de,kp⟩] pos) (tOp (aEJ X.K) ta tb):=by
 intro aa s σ H Q I h
 refine wpAny_Call_Name_kw (pQ I hg hm boot_max ?_ (by decide) (by decide))
 refine aQo (thn ((vZ ha aDi xr) pos aa s σ H (fun vs H1=>match vs with
  | [x]=>tb σ H1 fun y H2=>aEJ X.K x y H2 Q
  |_=>False) I h) fun us s1 ⟨vs,H1,I1,r1,q1⟩=>?_) he av rfl rfl
 match vs,r1,q1 with
 | [x],r1,q1=>
   obtain⟨u,rfl,ru⟩:=vals1 r1
   refine thn ((aJm hb aMk) pos aa s1 σ H1 (fun vs H2=>match vs with
    | [y]=>aEJ X.K x y H2 Q
    |_=>False) I1 q1) fun ws s2 ⟨zs,H2,I2,r2,q2⟩=>?_
   match zs,r2,q2 with
   | [y],r2,q2=>
     obtain⟨u2,rfl,lg⟩:=vals1 r2;obtain⟨p,ns,d,rfl,rfl,hq,q⟩:=q2;cases ru;obtain⟨t,rfl⟩:=lg
     exact aFY hc I2 hq q
   | [],_,q2=>exact q2.elim
   |_::_::_,_,q2=>exact q2.elim
 | [],_,q1=>exact q1.elim
 |_::_::_,_,q1=>exact q1.elim
theorem aI9(hm:X.mg "max"=none)(hc:X.calm=true)(ha:QE X e fa)(hb:QE X de fb)(hg:Gl X "max":=by rfl)
 (he:backTo pos (starEach [e] X.env)=(false,eval e X.env)::backTo pos (starEach [] X.env):=by rfl)(av:(backTo pos (starEach [e] X.env)).any (·.1)=false:=by rfl)
 (xr:starEach [e] X.env=(false,eval e X.env)::starEach [] X.env:=by rfl):
 QE X (.Call (.Name "max" p) [e] [⟨some "default",de,kp⟩] pos) (aH5 fa fb):=(aJz hm hc ha hb hg he av xr).imp fun _ _ _=>vJ (fun _ _ _ _ _=>aMw)
end
section
variable {P:Program}{w:World}{A:Around}{E:Value->Shared->Prop}{s:Shared}{z TI TO i1 i2 l1 l2:Addr}{k1 k2:Nat}{xs ys:Array Value}{x y a b f0 f1:Value}
end
section
variable {X:Cx}{a b e:Expr}{fa fb:FE}{pos p p2:Pos}
variable {own frs:List Str}{is:List Nat}{scope:Scope}{cl:List (Str×Addr)}{x:Str}{aw:Pos}{bd:Expr}{ifs:List Expr}{fe:FE}{g:FG}{gt:FB}
end
section
variable {X:Cx}{a e:Expr}{te:TE}{fa:FE}{pos p2 p3 p4:Pos}
end
section
variable {X:Cx}{a b:Expr}{fa fb:FE}
end
section
variable {X:Cx}{a e tg:Expr}{fa:FE}{pos p p2:Pos}{bj:List Stmt}{F:FS}{g:FG}
end
section
variable {X:Cx}{st:Stmt}{bj:List Stmt}{F G:FS}
end
end TL
namespace TL
open PySem L2
abbrev XF:=TSt->Sto->Option (String×Sto)
noncomputable def fX(x:XF)(F:FS):FS:=fun τ C=>match x τ C with
 |some (c,C')=>some (.ex c,τ,C')
 |none=>F τ C
noncomputable def fRaise(c:String)(fa:FN):FS:=fun τ C=>(fa τ C).bind fun p=>if p.1.length<=10 then some (.ex c,τ,p.2)else none
def gX(n:Nat)(G:List T->Option String)(ts:List T)(C:Sto):Option String:=if ts.length=n then(if CFs ts=true then G ts else(mapO (dr 3 C) ts).bind G)else none
def xCall(n:Nat)(G:List T->Option String)(fa:FN):XF:=fun τ C=>(fa τ C).bind fun p=>(gX n G p.1 p.2).map fun c=>(c,p.2)
def aNN(B:FS)(m:Nat)(ts:List T):Option String:=match B (st0 m ts) []with
 |some (.ex c,_,_)=>some c
 |_=>none
def xApp(fo:FE)(x:XF):XF:=fun τ C=>(fo τ C).bind fun p=>match p.1 with
 | .cell c=>(lc p.2 c).bind fun _=>x τ p.2
 |_=>none
section
variable {K:aO}{σ:L2.St}{H:Hp}{Q:VK}
end
end TL
namespace TL
open PySem PySem.Spec PyProof.Rows L2
section
variable {K:aO}{W:XW}{σ:L2.St}{H:Hp}{x:XF}
end
section
variable {X:Cx}{aa:List (Addr×Obj)}{σ:L2.St}{H:Hp}{s:Shared}{k:Nat}{f:Addr}{fd:FuncData}{ps:List Str}{sp:Sp}{e a b:Expr}{es:List Expr}{pos p:Pos}{x:XF}{fa fb:FE}{fr:FN}{st:Stmt}{F:FS}
end
section
variable {X:Cx}{aa:List (Addr×Obj)}{σ:L2.St}{H:Hp}{s:Shared}{c:String}{C:Addr}{e₀:Expr}{rest:List Expr}{np ak pos:Pos}{fa:FN}
end
section
variable {P:Program}{w:World}{K:aO}{mg:Str->Option Value}{base:Heap}
end
end TL
namespace PySem
end PySem
namespace TL
open PySem PySem.Spec PyProof.Rows L2
section
variable {X:Cx}{aa:List (Addr×Obj)}{σ:L2.St}{H H':Hp}{s s':Shared}{c:String}{C a:Addr}{B:Heap}
abbrev Cx.at(X:Cx)(A:Around)(calm:Bool)(pn:List (Addr×Obj))(xe:Value->Shared->Prop):Cx:={X with A:=A,calm:=calm,pn:=pn,xe:=xe}
end
section
variable {X:Cx}{tab:String->List String}{rs ds:List String}{d:String}{i:Nat}{n:Str}{F G:FS}{body suite:List Stmt}{b₀:Stmt}{np cm pos:Pos}
end
end TL
namespace PySem.W
open PySem PySem.Spec PySem.Calls PyProof.Rows Builtin Builtin.ObjectAttr Builtin.Getset_descriptor
section
variable {prog:Program}{w:World}{A:Around}{E:Value->Shared->Prop}{s:Shared}{K:Frag}{x C D:Addr}{name:Str}{R:Result->Shared->Prop}
end
section
variable {prog:Program}{w:World}{A:Around}{E:Value->Shared->Prop}{K:Frag}{x C:Addr}{R:Result->Shared->Prop}{h:Heap}{g:Array GenState}{d:Drawn}{t:Nat}{os:OsState}
end
end PySem.W
namespace TL
open PySem PySem.Spec PyProof.Rows L2
section
variable {X:Cx}
variable {tab:String->List String}{rs ds0:List String}{a:Expr}{fa:FE}{p pos aw p2:Pos}{d:String}{ds:List String}{es:List Expr}
end
section
variable {X:Cx}{a e:Expr}{es:List Expr}{fa:FE}{x:XF}{pos:Pos}
end
section
variable {X:Cx}{e:Expr}{es:List Expr}{fr:FN}{p pos:Pos}
end
section
variable {X:Cx}{a b e de:Expr}{fa fb:FE}{x:XF}{p pos kp:Pos}
end
end TL
namespace TL
open PySem L2
def aAa(fo fi fe:FE):FS:=fun τ C=>(fo τ C).bind fun q=>(fi τ q.2).bind fun r=>match q.1,r.1 with
 | .cell c,.int i=>(lc r.2 c).bind fun ts=>(atI ts i).bind fun old=>match old with
   | .int x=>(fe τ r.2).bind fun p=>match p.1 with
     | .int y=>(lc p.2 c).bind fun us=>(ixN us.length i).map fun j=>(.nx,τ,p.2.set c (.l,us.set j (.int (x+y))))
     |_=>none
   |_=>none
 |_,_=>none
noncomputable def aB4(t1 t2:T)(C:Sto):Option (T×Sto):=match t2 with
 | .non=>match t1 with
   | .non=>some (.bl true,C)
   |_=>some (.bl false,C)
 |_=>none
abbrev aAq(a b:FE):FE:=iV a b (gIc (fun _ j=>decide (0<j/\j<2^250)) fun i j=>.int (i/j))
def vC(fa:FN):FE:=mP fa fun ts C=>if ts.length<=lim then some (.tup ts,C)else none
section
variable {K:aO}{W:XW}{σ:St}{H:Hp}
theorem aMP{fo fi fe:FE}{D:Ends}(h:trS K W (aAa fo fi fe) D σ H):tAugS (trE K fo) (trE K fi) (trE K fe) (aKC K) (ipI fun i j=>i+j) aIS D σ H:=by
 obtain⟨H₀,Z,ρ,τ,C,fl,ag,C',R,e,k⟩:=h;unfold aAa at e;obtain⟨⟨t1,C1⟩,e1,e⟩:=aK.mp e;obtain⟨⟨t2,C2⟩,e2,e⟩:=aK.mp e
 refine⟨H₀,Z,ρ,τ,C,t1,C1,R,e1,fun y H1 af R1 h1 s1=>?_⟩
 refine⟨H₀,Z,af,τ,C1,t2,C2,R1,e2,fun z H2 ar R2 h2 s2=>?_⟩
 dsimp only at e;split at e
 ·obtain⟨ts,e3,e⟩:=aK.mp e;obtain⟨old,e4,e⟩:=aK.mp e;split at e
  ·rename_i x;obtain⟨⟨t3,C3⟩,e5,e⟩:=aK.mp e;dsimp only at e;split at e
   ·rename_i w;obtain⟨us,e6,e⟩:=aK.mp e;obtain⟨j,e7,e⟩:=aL.mp e;cases e;have gw:=h1.step s2;obtain⟨a,vs,ea,qa,ra⟩:=R2.li gw (ts:=ts) e3;obtain⟨v,q1,q2⟩:=aGv ra e4
    refine⟨a,vs,_,v,ea,h2.int_inv,qa,q1,?_⟩
    refine⟨H₀,Z,ar,τ,C2,_,C3,R2,e5,fun u H3 az R3 h3 s3=>?_⟩
    refine⟨x,w,q2.int_inv,h3.int_inv,?_⟩
    have uh:=gw.step s3;unfold RT at uh;obtain⟨a',zp,nl⟩:=uh;obtain⟨vs',c2,c3⟩:=R3.celL nl (fY.mp e6);obtain⟨w1,w2⟩:=R3.write nl (by rw[c2];trivial) (c3.set (t:=.int (x+w)) (v:=.int (x+w)) .int j)
    exact⟨a',vs',_,j,zp,h2.int_inv,c2,by rw[c3.length];exact e7,k σ _ az w1 (((s1.trans s2).trans s3).ss.trans w2)⟩
   ·cases e
  ·cases e
 ·cases e
theorem aLt{x y:V}{Q:VK}(h:∃t1 t2,trV K σ [t1,t2] [x,y] (aB4 t1 t2) H Q):y=.non/\Q (.bl (decide (x=.non))) H:=by
 obtain⟨t1,t2,H₀,Z,ρ,τ,C,t,C',R,r,e,k⟩:=h;obtain⟨_,_,z,r1,r⟩:=r.cons_inv;cases z;obtain⟨_,_,z,r2,r⟩:=r.cons_inv;cases z;unfold aB4 at e;split at e
 ·unfold RT at r2
  refine⟨r2,?_⟩
  cases t1 with
  |non=>cases e;unfold RT at r1;rw[r1];exact k _ H ρ R .bl .refl
  |_=>
   cases e;have:decide (x=V.non)=false:=by
    unfold RT at r1;first
     | (rw[r1];rfl)
     | (obtain⟨a,r1⟩:=r1;first| (rw[r1.1];rfl)| (obtain⟨b,r1⟩:=r1;rw[r1.1];rfl))
   rw[this]
   exact k _ H ρ R .bl .refl
 ·cases e
theorem aM0{fa:FN}{Q:VK}(hz:lim<=sizeLine)(h:trE K (vC fa) σ H Q):tTup (trA K fa) σ H Q:=by
 obtain⟨H₀,Z,ρ,τ,C,ts,C',R,e,k⟩:=aAx h
 refine⟨H₀,Z,ρ,τ,C,ts,C',R,e,fun vs H1 af R1 h1 s1=>?_⟩
 obtain⟨us,i',Z',ae,ag,C1,t,C2,R',r,e,k⟩:=k vs H1 af R1 h1 s1;split at e
 ·rename_i hl;cases e
  exact⟨by rw[r.length];exact cB hl hz,fun p hp=>k _ _ ae (R'.alloc hp).1 (R'.alloc_tup hp r) (R'.alloc hp).2⟩
 ·cases e
end
end TL
namespace TL
open PySem PySem.Spec PyProof.Rows L2
section
variable {X:Cx}{a b c e:Expr}{es:List Expr}{fa fb fc:FE}{fr:FN}{p pos:Pos}
theorem aFn:PGet X (aKC X.K):=by
 intro aa s σ H o i ov iv Q I rx ry h;obtain⟨p,xs,i,z,rfl,rfl,hq,he,q⟩:=h;cases rx;obtain⟨t,rfl⟩:=ry;obtain⟨its,r,pl,hz⟩:=I.list hq;obtain⟨j,h1,h2,h3,h4,h5⟩:=v7 he;obtain⟨w,ew,ef⟩:=r.get h2;have hl:=r.length;have hn:=line63;have fin:EP X aa σ Q w s:=⟨z,H,I,ef,q⟩;by_cases h0:0<=i
 ·have hj:i.toNat=j:=by
   rw[seqIndex_of h0 h5]at h1
   exact cE.inj h1
  exact wpAny_getItem_list pl.isList h0 (by lia) (by rw[hj];simpa using ew) fin
 ·have hj:(i+(its.toArray.size:Int)).toNat=j:=by
   rw[seqIndex_neg (by lia) h4]at h1;rw[bG,<-hl]
   exact cE.inj h1
  exact wpAny_getItem_list_neg pl.isList (by lia) (by rw[bG]<;>lia) (by lia) (by rw[hj];simpa using ew) fin
theorem aJk(ho:QE X a fa)(hi:QE X b fb)(hv:QE X c fc)
 (ha:∀ov iv new,augStore b ov iv new=(do holding [new,ov,iv] (setItem ov iv new);release [new,ov,iv] [];pure .next):=by intros;rfl):QS X (.AugAssign (.Subscript a b p) .Add c pos) (aAa fa fb fc):=
 (aJ2 ho hi aFn hv aIF aBU ha).imp fun _ _ _=>aMP
theorem aOv(ha:QE X a fa)(hb:QE X b fb)(hm:behindInMarks .Is b=false:=by rfl):QT X (.Compare a [.Is] [b] pos) (iH (iV fa fb aB4)):=x9 aHJ (fun _ _ _ _ _=>aLt) ha hb hm
theorem aOq(ha:QE X a fa)(hb:QE X b fb)(hm:behindInMarks .Is b=false:=by rfl):QE X (.Compare a [.Is] [b] pos) (iV fa fb aB4):=aCd aHJ (fun _ _ _ _ _=>aLt) ha hb hm
theorem aBu{k}(h:QA X es fr):QE X (.Tuple es k pos) (vC fr):=(aNk h).imp fun _ _ _=>aM0 lF
theorem small300{j:Int}(h:0<j/\j<2^250):j.natAbs.log2<9000:=by
 have h0:j.natAbs≠0:=by lia
 have:j.natAbs<2^250:=by
  have h2:=h.2;have:((j.natAbs:Nat):Int)<((2^250:Nat):Int):=by
   rw[aPM (by lia)];simpa using h2
  exact aQu.mp this
 have:=(aQF h0).mpr this
 lia
theorem aHc:OpR X (binaryOp .FloorDiv) (rI (fun _ j=>0<j/\j<2^250) fun i j=>.int (i/j)):=opI fun i j _ _ _ _ _ hc q=>by
 have h1:(0:Int)<j:=hc.1
 exact floordiv_int (by lia) (by rw[aPm i (by lia)];exact q) (.inl (PyProof.noPylong_of_log2 (small300 hc)))
theorem rQ(ha:QE X a fa)(hb:QE X b fb):QE X (.BinOp a .FloorDiv b pos) (aAq fa fb):=(uZ aHc ha hb).imp fun _ _ _=>vJ fun _ _ _ _ _ h=>by
 obtain⟨i,j,h1,h2,h3,q⟩:=aIc (g:=fun i j=>.int (i/j)) (fun _ _ _ _=>.int) h;have h4:0<j/\j<2^250:=of_decide_eq_true h3
 exact⟨i,j,h1,h2,h4,q⟩
end
end TL
namespace TL
open PySem L2
end TL
namespace TL
open PySem PySem.Spec PyProof.Rows L2
section
variable {X:Cx}{e:Expr}{es:List Expr}{fr:FN}{p pos:Pos}
end
end TL
namespace TL
open PySem L2
end TL
namespace TL
open PySem PySem.Spec PyProof.Rows L2
section
variable {X:Cx}{a b:Expr}{fa fb:FE}{p pos:Pos}
end
end TL
namespace TL
open PySem L2
variable{Q:VK}{σ:St}
noncomputable def mT(F:List T->Option (Option (List T)))(ts:List T):Option T:=match F ts with
 |some none=>some .non
 |_=>none
noncomputable def mN(F:List T->Option (Option (List T)))(ts:List T):Option (List T):=match F ts with
 |some (some us)=>some us
 |_=>none
def spM(K:aO)(n:Nat)(F:List T->Option (Option (List T))):Sp:=fun vs H Q E=>spT K n (mT F) vs H Q E\/spN K n (mN F) vs H Q E
theorem aK6{K:aO}{n:Nat}{F:List T->Option (Option (List T))}:∀vs H Q E,spM K n F vs H Q E->vs.length=n:=fun vs H Q E h=>h.elim (gO vs H Q E) (aKK vs H Q E)
def EndM(o:Option (List T)):Fl×TSt×Sto->Prop
 | (.rt .non,_,_)=>o=none
 | (.rt (.cell c),_,C)=>∃us,o=some us/\lc C c=some us/\CFs us=true
 |_=>False
def aHv(B:FS)(m:Nat)(ts:List T):Option (Option (List T)):=match B (st0 m ts) []with
 |some (.rt .non,_,_)=>some none
 |some (.rt (.cell c),_,C)=>(lc C c).bind fun us=>if CFs us=true then some (some us)else none
 |_=>none
theorem aJP{B:FS}{m n:Nat}:∀ts o,ts.length=n->aHv B m ts=some o->∃r,B (st0 m ts) []=some r/\EndM o r:=fun ts o _ e=>by
 unfold aHv at e;split at e
 ·rename_i h;cases e;exact⟨_,h,rfl⟩
 ·rename_i h;obtain⟨us,e1,e⟩:=aK.mp e;split at e
  ·rename_i hc;cases e
   exact⟨_,h,us,rfl,e1,hc⟩
  ·cases e
 ·cases e
theorem aMv{n:Nat}{C:Sto}:dr (n+1) C T.non=some .non:=by unfold dr;rfl
theorem aLS{K:aO}{W:XW}{H:Hp}{n m:Nat}{G:List T->Option (Option (List T))}{F:FS}{vs:List V}{E:XK}(hG:∀ts t,ts.length=n->G ts=some t->∃r,F (st0 m ts) []=some r/\EndM t r)(h:spM K n G vs H Q E):
 trS K W F {nx:=fun _ H'=>Q .non H',rt:=Q} (vs.map some++aT (m - vs.length) none) H:=by
 rcases h with h|h
 ·refine iB (G:=mT G) (fun ts t hn e=>?_) h
  unfold mT at e;split at e
  ·rename_i hF;cases e;obtain⟨⟨fl,ag,C'⟩,e1,e2⟩:=hG ts none hn hF
   refine⟨_,e1,?_⟩
   cases fl with
   |rt u=>
    cases u with
    |non=>exact aMv
    |cell c=>obtain⟨us,z,_⟩:=e2;cases z
    |_=>exact False.elim e2
   |_=>exact False.elim e2
  ·cases e
 ·refine aMS (G:=mN G) (fun ts us hn e=>?_) h
  unfold mN at e;split at e
  ·rename_i hF;cases e;obtain⟨⟨fl,ag,C'⟩,e1,e2⟩:=hG ts (some us) hn hF
   refine⟨_,e1,?_⟩
   cases fl with
   |rt u=>
    cases u with
    |non=>cases e2
    |cell c=>obtain⟨us',z,h1,h2⟩:=e2;cases z;exact⟨h1,h2⟩
    |_=>exact False.elim e2
   |_=>exact False.elim e2
  ·cases e
def uN(n:Nat)(F:List T->Option (Option (List T)))(ts:List T)(C:Sto):Option (T×Sto):=if ts.length=n then(if CFs ts=true then some ts else mapO (dr 3 C) ts).bind fun vs=>match F vs with
 |some none=>some (.non,C)
 |some (some us)=>if CFs ts=true\/us.all sca=true then some (.cell C.length,C++[(.l,us)])else none
 |none=>none
 else none
abbrev fCallM(n:Nat)(F:List T->Option (Option (List T)))(a:FN):FE:=mP a (uN n F)
theorem aJx{K:aO}{H:Hp}{n:Nat}{F:List T->Option (Option (List T))}{vs:List V}{E:XK}(h:∃ts,trV K σ ts vs (uN n F ts) H Q):spM K n F vs H Q E:=by
 obtain⟨ts,H₀,Z,ρ,τ,C,t,C',R,r,e,k⟩:=h;unfold uN at e;split at e
 ·rename_i hn;obtain⟨ws,e1,e⟩:=aK.mp e;split at e
  ·rename_i hF;cases e
   refine .inl (aGO ⟨ts,H₀,Z,ρ,τ,C,_,C,R,r,?_,k⟩)
   unfold iX;rw[if_pos hn];split
   ·rename_i hc;rw[if_pos hc]at e1;cases e1;unfold mT;rw[hF];rfl
   ·rename_i hc;rw[if_neg hc]at e1;rw[e1,aU];unfold mT;rw[hF];rfl
  ·rename_i us hF;split at e
   ·rename_i hs;cases e
    refine .inr (aJT ⟨ts,H₀,Z,ρ,τ,C,us,R,r,?_,fun p H' ae ws R' hp rr st=>?_⟩)
    ·unfold aDm;rw[if_pos hn];split
     ·rename_i hc;rw[if_pos hc]at e1;cases e1;unfold mN;rw[hF]
     ·rename_i hc;rw[if_neg hc]at e1;rw[e1,aU];unfold mN;rw[hF,aU,if_pos (hs.resolve_left hc)]
    ·obtain⟨q1,q2,q3⟩:=R'.alloc_cell hp rr
     exact k _ _ _ q1 q3 (st.trans q2)
   ·cases e
  ·cases e
 ·cases e
theorem aJ1{K:aO}{H:Hp}{fa:FN}{n:Nat}{F:List T->Option (Option (List T))}{E:XK}(h:trE K (mP fa (uN n F)) σ H Q):aAi (spM K n F) [] E (trA K fa) σ H Q:=
 n9 (aAx h) fun vs _ q=>by rw[aW];exact aJx q
end TL
namespace TL
open PySem PySem.Spec PyProof.Rows L2
section
variable {K:aO}{σ:L2.St}{H:Hp}
end
structure aMq(P:Program)(w:World)(K:aO)(mg:Str->Option Value)(base:Heap)(k:Nat)(x:Str)(n:Nat)(F:List T->Option (Option (List T))):Prop where
 ex:∃f fd ps,mQ P w K mg base CX0 k f fd ps (spM K n F)/\mg x=some (.ref f)/\cG K (.ref f)=true/\Binds K fd ps []
section
variable {X:Cx}{a b e:Expr}{es:List Expr}{fa fb:FE}{fr:FN}{p pos:Pos}
theorem aJh{k n:Nat}{x:Str}{F:List T->Option (Option (List T))}(D:aMq X.prog X.w X.K X.mg X.base k x n F)(hr:Room k X.A)(ha:QA X (e::es) fr)(hg:Gl X x:=by rfl)(cc:(x==("__debug__":Str))=false:=by decide)
 (he:starEach (e::es) X.env=(false,eval e X.env)::starEach es X.env:=by rfl)(av:(backTo pos (starEach es X.env)).any (·.1)=false:=by rfl):QE X (.Call (.Name x p) (e::es) [] pos) (fCallM n F fr):=by
 obtain⟨f,fd,ps,G,hm,hk,hb⟩:=D.ex
 exact(sJ (E:=fun _ _ _=>False) G hr hg hm hk hb .nil (fun _ _ _ _ _ _ _ h=>h.elim) ha cc he av).imp fun _ _ _=>aJ1
end
section
variable {X:Cx}{own fr:List Str}{is:List Nat}{scope:Scope}{cl:List (Str×Addr)}{x:Str}
end
section
variable {X:Cx}{p p2 pos:Pos}{own frs:List Str}{is:List Nat}{scope:Scope}{cl:List (Str×Addr)}{tg iter bd:Expr}{ifs:List Expr}{fi fe:FE}{g:FG}{gt:FB}{cx:Str}
end
end TL
namespace TL
open PySem L2
mutual
def sh(k:Nat):T->T
 | .lst ts=>.lst (shs k ts)
 | .tup ts=>.tup (shs k ts)
 | .cell c=>.cell (k+c)
 | .non=>.non
 | .bl b=>.bl b
 | .int i=>.int i
 | .str x=>.str x
 | .exc c=>.exc c
def shs(k:Nat):List T->List T
 | []=>[]
 |t::ts=>sh k t::shs k ts
end
def shc(k:Nat)(x:Cl):Cl:=(x.1,shs k x.2)
section
variable {K:aO}{M:Hp}{ρ ae:Rho}{k:Nat}
mutual
theorem RT.sh(p:∀(c:Nat)(a:Addr),ρ[c]?=some a->ae[k+c]?=some a):∀{t:T}{v:V},RT K M ρ t v->RT K M ae (TL.sh k t) v
 | .non,_,h=>by unfold TL.sh;unfold RT at*;exact h
 | .bl _,_,h=>by unfold TL.sh;unfold RT at*;exact h
 | .int _,_,h=>by unfold TL.sh;unfold RT at*;exact h
 | .str _,_,h=>by unfold TL.sh;unfold RT at*;exact h
 | .lst ts,v,h=>by
   unfold TL.sh;unfold RT at*;obtain⟨a,vs,e,q,r⟩:=h
   exact⟨a,vs,e,q,RTs.sh p r⟩
 | .tup ts,v,h=>by
   unfold TL.sh;unfold RT at*;obtain⟨a,vs,e,q,r⟩:=h
   exact⟨a,vs,e,q,RTs.sh p r⟩
 | .cell c,v,h=>by
   unfold TL.sh;unfold RT at*;obtain⟨a,e,q⟩:=h
   exact⟨a,e,p c a q⟩
 | .exc c,v,h=>by
   unfold TL.sh;unfold RT at*
   exact h
theorem RTs.sh(p:∀(c:Nat)(a:Addr),ρ[c]?=some a->ae[k+c]?=some a):∀{ts:List T}{vs:List V},RTs K M ρ ts vs->RTs K M ae (shs k ts) vs
 | [],_,h=>by unfold shs;unfold RTs at*;exact h
 |t::ts,vs,h=>by
  unfold shs;unfold RTs at*;obtain⟨v,r,e,h1,h2⟩:=h
  exact⟨v,r,e,RT.sh p h1,RTs.sh p h2⟩
end
end
def aCQ(K:aO)(n:Nat)(G:List T->Option (T×Sto)):Sp:=fun vs H Q _=>∃Z ts r Cn,ts.length=n/\(∀a,Z a->NT (H a))/\RTs K (mask H Z []) [] ts vs/\G ts=some (r,Cn)/\
 ∀v H' ae ah ag,Rel K H Z ae ag Cn ah H'->RT K (mask H' Z ae) ae r v->Q v H'
theorem aCY{K:aO}{n:Nat}{G:List T->Option (T×Sto)}:∀vs H Q E,aCQ K n G vs H Q E->vs.length=n:=fun vs H Q E zz=>by obtain⟨Z,ts,r,Cn,h,_,rr,_⟩:=zz;rw[rr.length,h]
def EndRc(p:T×Sto):Fl×TSt×Sto->Prop
 | (.rt r,_,C)=>p=(r,C)
 |_=>False
def zY(B:FS)(m:Nat)(ts:List T):Option (T×Sto):=match B (st0 m ts) []with
 |some (.rt r,_,C)=>some (r,C)
 |_=>none
theorem aCc{B:FS}{m n:Nat}:∀ts p,ts.length=n->zY B m ts=some p->∃r,B (st0 m ts) []=some r/\EndRc p r:=fun ts p _ e=>by
 unfold zY at e;split at e
 ·rename_i h;cases e;exact⟨_,h,rfl⟩
 ·cases e
section
variable {K:aO}{W:XW}{σ:St}{H:Hp}{Q:VK}{D:Ends}
variable{G:List T->Option (T×Sto)}{fa:FN}
theorem aEu{n m:Nat}{F:FS}{vs:List V}{E:XK}(hG:∀ts p,ts.length=n->G ts=some p->∃r,F (st0 m ts) []=some r/\EndRc p r)(h:aCQ K n G vs H Q E):
 trS K W F {nx:=fun _ H'=>Q .non H',rt:=Q} (vs.map some++aT (m - vs.length) none) H:=by
 obtain⟨Z,ts,r,Cn,hn,hz,rr,e,k⟩:=h;obtain⟨⟨fl,ag,C'⟩,e1,e2⟩:=hG ts _ hn e
 refine⟨H,Z,[],st0 m ts,[],fl,ag,C',Rel.start hz rr,e1,fun ah H' ae R' _=>?_⟩
 cases fl with
 |nx=>exact False.elim e2
 |bk=>exact False.elim e2
 |ct=>exact False.elim e2
 |ex c=>exact False.elim e2
 |rt u=>
  cases e2
  exact fun v hv=>k v H' ae ah ag R' hv
def rE(n:Nat)(G:List T->Option (T×Sto))(ts:List T)(C:Sto):Option (T×Sto):=if ts.length=n/\CFs ts=true then(G ts).map fun p=>(sh C.length p.1,C++p.2.map (shc C.length))else none
abbrev aDZ(n:Nat)(G:List T->Option (T×Sto))(fa:FN):FE:=mP fa (rE n G)
theorem aJq{n:Nat}{vs:List V}{E:XK}(h:∃ts,trV K σ ts vs (rE n G ts) H Q):aCQ K n G vs H Q E:=by
 obtain⟨ts,H₀,Z,ρ,τ,C,t,C',R,r,e,k⟩:=h;unfold rE at e;split at e
 ·rename_i hn;obtain⟨⟨u,Cn⟩,e1,e⟩:=aL.mp e;cases e
  refine⟨fun a=>Z a\/a∈ρ,ts,u,Cn,hn.1,fun a z=>?_,by rw[sM];exact r.cf hn.2,e1,fun v H' ae ah ag R' rv=>?_⟩
  ·rcases z with z|z
   ·exact R.zd a z
   ·exact R.cel_some z
  ·have em:mask H' (fun a=>Z a\/a∈ρ) ae=mask H' Z (ρ++ae):=by
    funext a;unfold mask;by_cases h:(Z a\/a∈ρ)\/a∈ae
    ·rw[if_pos h,if_pos (by rcases h with(h|h)|h
                            ·exact .inl h
                            ·exact .inr (bM.mpr (.inl h))
                            ·exact .inr (bM.mpr (.inr h)))]
    ·rw[if_neg h,if_neg (by
      rintro(z|z)
      ·exact h (.inl (.inl z))
      ·rcases bM.mp z with z|z
       ·exact h (.inl (.inr z))
       ·exact h (.inr z))]
   have tt:∀(c:Nat)(a:Addr),ae[c]?=some a->(ρ++ae)[C.length+c]?=some a:=fun c a z=>by
    rw[<-R.len,bK (by lia)];rw[show ρ.length+c - ρ.length=c by lia];exact z
   have st:Step H H' ρ (ρ++ae):=.of R'.old fun a ha=>(R'.frs a ha).1
   have nR:Rel K H₀ Z (ρ++ae) τ (C++Cn.map (shc C.length)) σ H':=by
    refine⟨R.old.trans R'.old,fun a ha=>?_,?_,fun a z=>R'.zd a (.inl z),fun i t e=>?_,fun c a e=>?_,?_,R.lnt⟩
    ·rcases bM.mp ha with ha|ha
     ·exact R.frs a ha
     ·exact⟨R.old.free (R'.frs a ha).1,fun z=>(R'.frs a ha).2 (.inl z)⟩
    ·exact dO.mpr ⟨R.nd,R'.nd,fun a h1 b h2 z=>by subst z;exact(R'.frs a h2).2 (.inr h1)⟩
    ·obtain⟨v,h1,h2⟩:=R.loc i t e
     exact⟨v,h1,h2.step st⟩
    ·by_cases hc:c<ρ.length
     ·rw[aY hc]at e;obtain⟨us,ws,ob,h1,h2,h4,h3⟩:=R.cel c a e
      exact⟨us,ws,ob,by rw[aY (by rw[<-R.len];exact hc)];exact h1,R'.old _ _ h2,h4,h3.step st⟩
     ·rw[bK (by lia)]at e;obtain⟨us,ws,ob,h1,h2,h4,h3⟩:=R'.cel _ a e
      refine⟨shc C.length us,ws,ob,?_,h2,h4,?_⟩
      ·rw[bK (by rw[<-R.len];lia),<-R.len,bH,h1];rfl
      ·rw[em]at h3;exact h3.sh tt
    ·rw[bD,bD,aS,R.len,R'.len]
   rw[em]at rv
   exact k v H' (ρ++ae) nR (rv.sh tt) st
 ·cases e
theorem aJK{n:Nat}{E:XK}(h:trE K (mP fa (rE n G)) σ H Q):aAi (aCQ K n G) [] E (trA K fa) σ H Q:=
 n9 (aAx h) fun vs _ q=>by rw[aW];exact aJq q
def aEa(K:aO)(n:Nat)(G:List T->Sto->Option Sto):Sp:=fun vs H Q _=>∃H₀ Z ρ τ C σ ts C',Rel K H₀ Z ρ τ C σ H/\RTs K (mask H Z ρ) ρ ts vs/\ts.length=n/\G ts C=some C'/\
 ∀H' ae,Rel K H₀ Z ae τ C' σ H'->SStep Z H H' ρ ae->Q .non H'
theorem aIj{n:Nat}{G:List T->Sto->Option Sto}:∀vs H Q E,aEa K n G vs H Q E->vs.length=n:=fun vs H Q E zz=>by obtain⟨H₀,Z,ρ,τ,C,σ,ts,C',R,r,h,_⟩:=zz;rw[r.length,h]
def aCH(B:FS)(m:Nat)(ts:List T)(C:Sto):Option Sto:=match B (st0 m ts) C with
 |some (.nx,_,C')=>some C'
 |_=>none
theorem Rel.locals{H₀:Hp}{Z:Addr->Prop}{ρ:Rho}{τ:TSt}{C:Sto}{ts:List T}{vs:List V}{m:Nat}(R:Rel K H₀ Z ρ τ C σ H)(h:RTs K (mask H Z ρ) ρ ts vs):
 Rel K H₀ Z ρ (st0 m ts) C (vs.map some++aT (m - vs.length) none) H:=by
 refine⟨R.old,R.frs,R.nd,R.zd,fun i t e=>?_,R.cel,R.len,by simp[st0,h.length]⟩
 unfold st0 at e;have hi:i<ts.length:=by
  by_cases hi:i<ts.length
  ·exact hi
  ·rw[bK (by simpa using hi),cN]at e;split at e<;>cases e
 rw[aY (by simpa using hi),bH]at e;cases q:ts[i]?with
 |none=>rw[q]at e;cases e
 |some u=>
  rw[q]at e;cases e;obtain⟨v,h1,h2⟩:=h.get q
  refine⟨v,?_,h2⟩
  rw[aY (by simpa[h.length]using hi),bH,h1];rfl
theorem aJR{n m:Nat}{F:FS}{vs:List V}{E:XK}(h:aEa K n (aCH F m) vs H Q E):
 trS K W F {nx:=fun _ H'=>Q .non H',rt:=Q} (vs.map some++aT (m - vs.length) none) H:=by
 obtain⟨H₀,Z,ρ,τ,C,σ0,ts,C',R,r,hn,e,k⟩:=h;unfold aCH at e;split at e
 ·rename_i ag C2 hF;have e:C2=C':=cE.inj e;subst e
  refine⟨H₀,Z,ρ,st0 m ts,C,.nx,ag,C2,R.locals r,hF,fun ah H' ae R' s'=>?_⟩
  refine k H' ae ⟨R'.old,R'.frs,R'.nd,R'.zd,fun i t e=>?_,R'.cel,R'.len,R.lnt⟩ s'
  obtain⟨v,h1,h2⟩:=R.loc i t e
  exact⟨v,h1,h2.step s'⟩
 ·cases e
noncomputable def aFG(n:Nat)(G:List T->Sto->Option Sto)(fa:FN):FS:=fun τ C=>(fa τ C).bind fun p=>if p.1.length=n then(G p.1 p.2).map fun C'=>(.nx,τ,C')else none
theorem aOC{n:Nat}{G:List T->Sto->Option Sto}{E:XK}(h:trS K W (aFG n G fa) D σ H):aE6 (aAi (aEa K n G) [] E (trA K fa)) D σ H:=by
 obtain⟨H₀,Z,ρ,τ,C,fl,ag,C',R,e,k⟩:=h;unfold aFG at e;obtain⟨⟨ts,C1⟩,e1,e⟩:=aK.mp e;dsimp only at e;split at e
 ·rename_i hl;obtain⟨C2,e2,e⟩:=aL.mp e;cases e
  refine⟨H₀,Z,ρ,τ,C,ts,C1,R,e1,fun vs H1 af R1 h1 s1=>?_⟩
  show aEa K n G (vs++[]) H1 (fun x H1=>D.nx σ H1) E;rw[aW]
  exact⟨H₀,Z,af,τ,C1,σ,ts,_,R1,h1,hl,e2,fun H' ae R' s'=>k σ H' ae R' (s1.ss.trans s')⟩
 ·cases e
end
end TL
namespace TL
open PySem PySem.Spec PyProof.Rows L2
section
variable {X:Cx}{e:Expr}{es:List Expr}{fr:FN}{p pos ao:Pos}
structure aE5(P:Program)(w:World)(K:aO)(mg:Str->Option Value)(base:Heap)(k:Nat)(x:Str)(n:Nat)(G:List T->Option (T×Sto)):Prop where
 ex:∃f fd ps,mQ P w K mg base CX0 k f fd ps (aCQ K n G)/\mg x=some (.ref f)/\cG K (.ref f)=true/\Binds K fd ps []
structure aG2(P:Program)(w:World)(K:aO)(mg:Str->Option Value)(base:Heap)(k:Nat)(x:Str)(n:Nat)(G:List T->Sto->Option Sto):Prop where
 ex:∃f fd ps,mQ P w K mg base CX0 k f fd ps (aEa K n G)/\mg x=some (.ref f)/\cG K (.ref f)=true/\Binds K fd ps []
theorem aEI{k n:Nat}{x:Str}{G:List T->Option (T×Sto)}(D:aE5 X.prog X.w X.K X.mg X.base k x n G)(hr:Room k X.A)(ha:QA X (e::es) fr)(hg:Gl X x:=by rfl)(cc:(x==("__debug__":Str))=false:=by decide)
 (he:starEach (e::es) X.env=(false,eval e X.env)::starEach es X.env:=by rfl)(av:(backTo pos (starEach es X.env)).any (·.1)=false:=by rfl):QE X (.Call (.Name x p) (e::es) [] pos) (aDZ n G fr):=by
 obtain⟨f,fd,ps,F,hm,hk,hb⟩:=D.ex
 exact(sJ (E:=fun _ _ _=>False) F hr hg hm hk hb .nil (fun _ _ _ _ _ _ _ h=>h.elim) ha cc he av).imp fun _ _ _=>aJK
theorem aLU{k n:Nat}{x:Str}{G:List T->Sto->Option Sto}(D:aG2 X.prog X.w X.K X.mg X.base k x n G)(hr:Room k X.A)(ha:QA X (e::es) fr)(hg:Gl X x:=by rfl)(cc:(x==("__debug__":Str))=false:=by decide)
 (he:starEach (e::es) X.env=(false,eval e X.env)::starEach es X.env:=by rfl)(av:(backTo pos (starEach es X.env)).any (·.1)=false:=by rfl)(hs:swapsWith (.Call (.Name x p) (e::es) [] pos) none ao.line X.env=pure false:=by rfl):QS X (.Expr (.Call (.Name x p) (e::es) [] pos) ao) (aFG n G fr):=by
 obtain⟨f,fd,ps,F,hm,hk,hb⟩:=D.ex
 exact(wG (sJ (E:=fun _ _ _=>False) F hr hg hm hk hb .nil (fun _ _ _ _ _ _ _ h=>h.elim) ha cc he av) hs).imp fun _ _ _=>aOC
section
variable {own frs:List Str}{is:List Nat}{scope:Scope}{cl:List (Str×Addr)}{bd a b:Expr}{ts ifs:List Expr}{tk}{aw p2 bx:Pos}{fa fb fe:FE}{g:FG}{gt:FB}{x:Str}
end
end
end TL
namespace TL
open PySem L2
noncomputable def getN{α:Type}(f:Str):List Str->List α->Option α
 |n::ns,t::ts=>if f=n then some t else getN f ns ts
 |_,_=>none
noncomputable def pn(f:Str):List Str->List Str
 | []=>[f]
 |n::ns=>if n=f then n::ns else n::pn f ns
noncomputable def pv{α:Type}(f:Str)(t:α):List Str->List α->List α
 | [],_=>[t]
 |n::ns,x::ts=>if n=f then t::ts else x::pv f t ns ts
 |_::_,[]=>[]
theorem wE{f:Str}:∀{ns:List Str}{vs:List V},(ns.zip vs).lookup f=getN f ns vs
 | [],_=>rfl
 |_::_,[]=>rfl
 |n::ns,v::vs=>by
  rw[cD,b4];unfold getN;by_cases h:f=n
  ·rw[if_pos h,beq_iff_eq.mpr h]
  ·rw[if_neg h,(beq_eq_false_iff_ne).mpr h];exact wE
theorem aBD{f:Str}{v:V}:∀{ns:List Str}{vs:List V},ns.length=vs.length->oN f v (ns.zip vs)=(pn f ns).zip (pv f v ns vs)
 | [],_,_=>rfl
 |_::_,[],h=>by cases h
 |n::ns,x::vs,h=>by
  rw[cD];unfold oN pn pv;split
  ·rfl
  ·rw[aBD (by simpa using h),cD]
theorem aDz{α:Type}{f:Str}{t:α}:∀{ns:List Str}{ts:List α},ns.length=ts.length->(pn f ns).length=(pv f t ns ts).length
 | [],_,_=>rfl
 |_::_,[],h=>by cases h
 |n::ns,x::ts,h=>by
  have h':ns.length=ts.length:=by simpa using h
  unfold pn pv;split
  ·simpa using h'
  ·simpa using aDz h'
section
variable {K:aO}{M:Hp}{ρ:Rho}
theorem RTs.getN{f:Str}:∀{ns:List Str}{ts:List T}{vs:List V}{t:T},RTs K M ρ ts vs->TL.getN f ns ts=some t->∃v,TL.getN f ns vs=some v/\RT K M ρ t v
 | [],ts,vs,t,_,e=>by unfold TL.getN at e;cases e
 |_::_,[],vs,t,_,e=>by unfold TL.getN at e;cases e
 |n::ns,x::ts,vs,t,h,e=>by
  obtain⟨v,r,rfl,h1,h2⟩:=h.cons_inv;unfold TL.getN at e|-;split at e
  ·rename_i hn;cases e;exact⟨v,if_pos hn,h1⟩
  ·rename_i hn;rw[if_neg hn];exact RTs.getN h2 e
theorem RTs.pv{f:Str}{t:T}{v:V}(h0:RT K M ρ t v):∀{ns:List Str}{ts:List T}{vs:List V},RTs K M ρ ts vs->RTs K M ρ (TL.pv f t ns ts) (TL.pv f v ns vs)
 | [],_,_,_=>.cons h0 .nil
 |n::ns,[],vs,h=>by rw[h.nil_inv];exact .nil
 |n::ns,x::ts,vs,h=>by
  obtain⟨u,r,rfl,h1,h2⟩:=h.cons_inv;unfold TL.pv;split
  ·exact .cons h0 h2
  ·exact .cons h1 (RTs.pv h0 h2)
end
noncomputable def oc(cls:String)(C:Sto):T->Option (Nat×List Str×List T)
 | .cell c=>(C[c]?).bind fun x=>match x.1 with
   | .o k ns=>if k=cls then some (c,ns,x.2)else none
   |_=>none
 |_=>none
theorem aKU{cls:String}{C:Sto}{t:T}{c:Nat}{ns:List Str}{ts:List T}(h:oc cls C t=some (c,ns,ts)):t=.cell c/\C[c]?=some (.o cls ns,ts):=by
 unfold oc at h;split at h
 ·obtain⟨⟨k,us⟩,e,h⟩:=aK.mp h;dsimp only at h;split at h
  ·split at h
   ·rename_i hk;cases h;cases hk;exact⟨rfl,e⟩
   ·cases h
  ·cases h
 ·cases h
def iO(K:aO)(cls:String)(f:Str):Prop:=∀C,bX K mainGlobals (Str.ofString cls)=some (some (.ref C))->Cls K C/\oU K C f
def aFT(cls:String)(f:Str)(t:T)(C:Sto):Option (T×Sto):=(oc cls C t).bind fun x=>(getN f x.2.1 x.2.2).map fun u=>(u,C)
abbrev kL(cls:String)(f:Str)(a:FE):FE:=fUn a (aFT cls f)
def nU(cls:String)(f:Str)(fo fe:FE):FS:=fun τ C=>(fe τ C).bind fun p=>(fo τ p.2).bind fun q=>(oc cls q.2 q.1).bind fun x=>if x.2.1.length<900 then some (.nx,τ,q.2.set x.1 (.o cls (pn f x.2.1),pv f p.1 x.2.1 x.2.2))else none
def vE(cls:String)(f:Str)(g:Int->Int->Int)(fo fe:FE):FS:=fun τ C=>(fo τ C).bind fun q=>(oc cls q.2 q.1).bind fun x=>(getN f x.2.1 x.2.2).bind fun old=>match old with
 | .int i=>(fe τ q.2).bind fun p=>match p.1 with
   | .int j=>(oc cls p.2 q.1).bind fun y=>if y.2.1.length<900 then some (.nx,τ,p.2.set y.1 (.o cls (pn f y.2.1),pv f (.int (g i j)) y.2.1 y.2.2))else none
   |_=>none
 |_=>none
section
variable {K:aO}{W:XW}{σ:St}{H:Hp}{Q:VK}{D:Ends}{cls:String}{f:Str}
theorem Rel.oc{H₀:Hp}{Z:Addr->Prop}{ρ:Rho}{τ:TSt}{C:Sto}{t:T}{v:V}{c:Nat}{ns:List Str}{ts:List T}(R:Rel K H₀ Z ρ τ C σ H)(h:RT K (mask H Z ρ) ρ t v)(e:TL.oc cls C t=some (c,ns,ts)):
 ∃a Cl dx vs,v=.ref a/\ρ[c]?=some a/\ns.length=vs.length/\bX K mainGlobals (Str.ofString cls)=some (some (.ref Cl))/\H a=some (.ins Cl dx (ns.zip vs))/\RTs K (mask H Z ρ) ρ ts vs:=by
 obtain⟨rfl,e0⟩:=aKU e;unfold RT at h;obtain⟨a,ev,q⟩:=h;obtain⟨x,vs,ob,h1,h2,h3,h4⟩:=R.cel c a q;rw[e0]at h1;cases h1;obtain⟨hl,Cl,dx,hn,ho⟩:=h3;subst ho
 exact⟨a,Cl,dx,vs,ev,q,hl,hn,h2,h4⟩
theorem aNQ{fa:FE}(hc:iO K cls f)(h:trE K (kL cls f fa) σ H Q):tFld K (trE K fa) f σ H Q:=by
 refine iK (aNJ h) fun x H1 q=>?_
 obtain⟨t1,H₀,Z,ρ,τ,C,t,C',R,r,e,k⟩:=q;obtain⟨_,_,z,r1,r⟩:=r.cons_inv;cases z;unfold aFT at e;obtain⟨⟨c,ns,ts⟩,e1,e⟩:=aK.mp e;obtain⟨u,e2,e⟩:=aL.mp e;cases e;obtain⟨a,Cl,dx,vs,ev,q,hl,hn,hH,hr⟩:=R.oc r1 e1;obtain⟨v,e3,rv⟩:=hr.getN e2;obtain⟨h1,h2⟩:=hc Cl hn
 exact⟨a,Cl,dx,_,v,ev,hH,h1,h2,by rw[wE];exact e3,k v H1 ρ R rv .refl⟩
theorem aOy{fo fe:FE}(hc:iO K cls f)(h:trS K W (nU cls f fo fe) D σ H):sFld K (trE K fo) (trE K fe) f D σ H:=by
 obtain⟨H₀,Z,ρ,τ,C,fl,ag,C',R,e,k⟩:=h;unfold nU at e;obtain⟨⟨t1,C1⟩,e1,e⟩:=aK.mp e;obtain⟨⟨t2,C2⟩,e2,e⟩:=aK.mp e;obtain⟨⟨c,ns,ts⟩,e3,e⟩:=aK.mp e;dsimp only at e;split at e
 ·rename_i hl9;cases e
  refine⟨H₀,Z,ρ,τ,C,t1,C1,R,e1,fun y H1 af R1 h1 s1=>?_⟩
  refine⟨H₀,Z,af,τ,C1,t2,C2,R1,e2,fun x H2 ar R2 h2 s2=>?_⟩
  obtain⟨a,Cl,dx,vs,ev,q,hl,hn,hH,hr⟩:=R2.oc h2 e3;obtain⟨p1,p2⟩:=hc Cl hn;obtain⟨w1,w2⟩:=R2.put (kd:=.o cls (pn f ns)) (ob:=.ins Cl dx ((pn f ns).zip (pv f y ns vs))) q (by rw[hH];trivial) ⟨aDz hl,Cl,dx,hn,rfl⟩ (hr.pv (h1.step s2))
  exact⟨a,Cl,dx,_,ev,hH,p1,p2,by rw[dG];lia,by rw[aBD hl];exact k σ _ ar w1 ((s1.trans s2).ss.trans w2)⟩
 ·cases e
theorem aB8{fo fe:FE}{g:Int->Int->Int}{rd:V->V->Hp->VK->Prop}(rj:∀i j H Q,Q (.int (g i j)) H->rd (.int i) (.int j) H Q)(hc:iO K cls f)(h:trS K W (vE cls f g fo fe) D σ H):sFldAug K (trE K fo) (trE K fe) rd f D σ H:=by
 obtain⟨H₀,Z,ρ,τ,C,fl,ag,C',R,e,k⟩:=h;unfold vE at e;obtain⟨⟨t1,C1⟩,e1,e⟩:=aK.mp e;obtain⟨⟨c,ns,ts⟩,e3,e⟩:=aK.mp e;obtain⟨old,e4,e⟩:=aK.mp e;dsimp only at e;split at e
 ·rename_i i;obtain⟨⟨t2,C2⟩,e2,e⟩:=aK.mp e;dsimp only at e;split at e
  ·rename_i j;obtain⟨⟨c2,ux,ts2⟩,e5,e⟩:=aK.mp e;dsimp only at e;split at e
   ·rename_i hl9;cases e
    refine⟨H₀,Z,ρ,τ,C,t1,C1,R,e1,fun x H1 af R1 h1 s1=>?_⟩
    obtain⟨a,Cl,dx,vs,ev,q,hl,hn,hH,hr⟩:=R1.oc h1 e3;obtain⟨v,e6,rv⟩:=hr.getN e4;obtain⟨p1,p2⟩:=hc Cl hn
    refine⟨a,Cl,dx,_,v,ev,hH,p1,p2,by rw[wE];exact e6,?_⟩
    refine⟨H₀,Z,af,τ,C1,_,C2,R1,e2,fun y H2 ar R2 h2 s2=>?_⟩
    rw[rv.int_inv,h2.int_inv]
    refine rj i j H2 _ ?_
    obtain⟨a',Cl',ml,vs',gy,q',dq,kj,vx,xz⟩:=R2.oc (h1.step s2) e5;rw[ev]at gy;cases gy;rw[hn]at kj;cases kj;obtain⟨w1,w2⟩:=R2.put (kd:=.o cls (pn f ux)) (ob:=.ins Cl ml ((pn f ux).zip (pv f (.int (g i j)) ux vs'))) (ts:=pv f (.int (g i j)) ux ts2) q' (by rw[vx];trivial) ⟨aDz dq,Cl,ml,hn,rfl⟩ (xz.pv .int)
    exact⟨ml,_,vx,by rw[dG];lia,by rw[aBD dq];exact k σ _ ar w1 ((s1.trans s2).ss.trans w2)⟩
   ·cases e
  ·cases e
 ·cases e
end
end TL
namespace TL
open PySem PySem.Spec PyProof.Rows L2
section
variable {X:Cx}{e o value:Expr}{fa fo fe:FE}{cls:String}{f:Str}{pos ao aw:Pos}
theorem jQ(hc:iO X.K cls f)(he:QE X e fa)(hb:attributeBase e f X.env (eval e X.env)=eval e X.env:=by rfl):QE X (.Attribute e f pos) (kL cls f fa):=(aM3 he hb).imp fun _ _ _=>aNQ hc
theorem oR(hc:iO X.K cls f)(ho:QE X o fo)(hv:QE X value fe)(hs:swapsWith value (some (.Attribute o f ao)) pos.line X.env=pure false:=by rfl):QS X (.Assign [.Attribute o f ao] value pos) (nU cls f fo fe):=(aNc ho hv hs).imp fun _ _ _=>aOy hc
theorem aFt(hc:iO X.K cls f)(ho:QE X o fo)(hv:QE X value fe):QS X (.AugAssign (.Attribute o f aw) .Add value pos) (vE cls f (fun i j=>i+j) fo fe):=(aAk ho hv aLN).imp fun _ _ _=>aB8 (fun i j H Q q=>⟨i,j,rfl,rfl,q⟩) hc
theorem aGi(hc:iO X.K cls f)(ho:QE X o fo)(hv:QE X value fe):QS X (.AugAssign (.Attribute o f aw) .Sub value pos) (vE cls f (fun i j=>i - j) fo fe):=(aAk ho hv aIl).imp fun _ _ _=>aB8 (fun i j H Q q=>⟨i,j,rfl,rfl,q⟩) hc
end
end TL
namespace TL
open PySem L2
def spS(K:aO)(n:Nat)(G:List T->Sto->Option (T×Sto)):Sp:=fun vs H Q _=>∃H₀ Z ρ τ C σ ts r C',Rel K H₀ Z ρ τ C σ H/\RTs K (mask H Z ρ) ρ ts vs/\ts.length=n/\G ts C=some (r,C')/\
 ∀v H' ae,Rel K H₀ Z ae τ C' σ H'->RT K (mask H' Z ae) ae r v->Step H H' ρ ae->Q v H'
def mY(B:FS)(m:Nat)(ts:List T)(C:Sto):Option (T×Sto):=match B (st0 m ts) C with
 |some (.nx,_,C')=>some (.non,C')
 |some (.rt r,_,C')=>some (r,C')
 |_=>none
section
variable {K:aO}{W:XW}{σ:St}{H:Hp}{Q:VK}{D:Ends}
variable{G:List T->Sto->Option (T×Sto)}{fa:FN}{cls:String}{Ca:Addr}
theorem i7{n:Nat}:∀vs H Q E,spS K n G vs H Q E->vs.length=n:=fun vs H Q E zz=>by obtain⟨H₀,Z,ρ,τ,C,σ,ts,r,C',R,rr,h,_⟩:=zz;rw[rr.length,h]
theorem Rel.back{H₀:Hp}{Z:Addr->Prop}{ρ ae:Rho}{τ ag:TSt}{C C':Sto}{ah:St}{H':Hp}(R:Rel K H₀ Z ρ τ C σ H)(R':Rel K H₀ Z ae ag C' ah H')(s:Step H H' ρ ae):Rel K H₀ Z ae τ C' σ H':=
 ⟨R'.old,R'.frs,R'.nd,R'.zd,fun i t e=>let ⟨v,h1,h2⟩:=R.loc i t e;⟨v,h1,h2.step s⟩,R'.cel,R'.len,R.lnt⟩
theorem jY{n m:Nat}{F:FS}{vs:List V}{E:XK}(h:spS K n (mY F m) vs H Q E):
 trS K W F {nx:=fun _ H'=>Q .non H',rt:=Q} (vs.map some++aT (m - vs.length) none) H:=by
 obtain⟨H₀,Z,ρ,τ,C,σ0,ts,r,C',R,rr,hn,e,k⟩:=h;unfold mY at e;split at e
 ·rename_i ag C2 hF;cases e
  refine⟨H₀,Z,ρ,st0 m ts,C,.nx,ag,C',R.locals rr,hF,fun ah H' ae R' s'=>?_⟩
  exact k .non H' ae (R.back R' s') .non s'
 ·rename_i u ag C2 hF;cases e
  refine⟨H₀,Z,ρ,st0 m ts,C,.rt r,ag,C',R.locals rr,hF,fun ah H' ae R' s'=>?_⟩
  exact fun v hv=>k v H' ae (R.back R' s') hv s'
 ·cases e
noncomputable def pJ(n:Nat)(G:List T->Sto->Option (T×Sto))(ts:List T)(C:Sto):Option (T×Sto):=if ts.length=n then G ts C else none
abbrev k7(n:Nat)(G:List T->Sto->Option (T×Sto))(fa:FN):FE:=mP fa (pJ n G)
theorem aBA{n:Nat}{vs:List V}{E:XK}(h:∃ts,trV K σ ts vs (pJ n G ts) H Q):spS K n G vs H Q E:=by
 obtain⟨ts,H₀,Z,ρ,τ,C,t,C',R,r,e,k⟩:=h;unfold pJ at e;split at e
 ·rename_i hn
  exact⟨H₀,Z,ρ,τ,C,σ,ts,t,C',R,r,hn,e,fun v H' ae R' rv s=>k v H' ae R' rv s⟩
 ·cases e
theorem aKX{n:Nat}{E:XK}(h:trE K (k7 n G fa) σ H Q):aAi (spS K n G) [] E (trA K fa) σ H Q:=
 n9 (aAx h) fun vs _ q=>by rw[aW];exact aBA q
def kE(cls:String)(m:Str)(n:Nat)(G:List T->Sto->Option (T×Sto))(fo:FE)(fa:FN):FE:=fun τ C=>(fo τ C).bind fun p=>(oc cls p.2 p.1).bind fun x=>match getN m x.2.1 x.2.2 with
 |some _=>none
 |none=>(fa τ p.2).bind fun q=>pJ n G (p.1::q.1) q.2
theorem z8{α β:Type}{f:Str}:∀{ns:List Str}{ts:List α}{vs:List β},ts.length=vs.length->getN f ns ts=none->getN f ns vs=none
 | [],_,_,_,_=>by unfold getN;rfl
 |_::_,[],[],_,_=>by unfold getN;rfl
 |_::_,[],_::_,h,_=>by cases h
 |_::_,_::_,[],h,_=>by cases h
 |n::ns,t::ts,v::vs,h,e=>by
  unfold getN at e|-;split at e
  ·cases e
  ·rename_i hn;rw[if_neg hn];exact z8 (by simpa using h) e
theorem aHZ{m:Str}{n:Nat}{fo:FE}{E:XK}(hc:bX K mainGlobals (Str.ofString cls)=some (some (.ref Ca)))(h:trE K (kE cls m n G fo fa) σ H Q):aHq Ca m (spS K n G) [] E (trE K fo) (trA K fa) σ H Q:=by
 obtain⟨H₀,Z,ρ,τ,C,t,C',R,e,k⟩:=h;unfold kE at e;obtain⟨⟨t1,C1⟩,e1,e⟩:=aK.mp e;obtain⟨⟨c,ns,ts⟩,e2,e⟩:=aK.mp e;dsimp only at e2 e;split at e
 ·cases e
 ·rename_i hm;obtain⟨⟨us,C2⟩,e3,e⟩:=aK.mp e;dsimp only at e3 e
  refine⟨H₀,Z,ρ,τ,C,t1,C1,R,e1,fun x H1 af R1 h1 s1=>?_⟩
  obtain⟨a,Cl,dx,vs,ev,q,hl,hn,hH,hr⟩:=R1.oc h1 e2;rw[hc]at hn;cases hn
  refine⟨a,dx,_,ev,hH,by rw[wE];exact z8 (by rw[hr.length]) hm,?_⟩
  refine⟨H₀,Z,af,τ,C1,us,C2,R1,e3,fun ws H2 ar R2 h2 s2=>?_⟩
  dsimp only;rw[aW]
  exact aBA ⟨t1::us,H₀,Z,ar,τ,C2,t,C',R2,.cons (h1.step s2) h2,e,fun v H3 az R3 h3 s3=>k v H3 az R3 h3 ((s1.trans s2).trans s3)⟩
def sX(cls:String)(n:Nat)(G:List T->Sto->Option (T×Sto))(gk:List T)(fa:FN):FE:=fun τ C=>(fa τ C).bind fun p=>(pJ n G (.cell p.2.length::(p.1++gk)) (p.2++[(.o cls [],[])])).bind fun q=>match q.1 with
 | .non=>some (.cell p.2.length,q.2)
 |_=>none
theorem aMM{n:Nat}{gk:List T}{bh:List V}{E:XK}(hc:bX K mainGlobals (Str.ofString cls)=some (some (.ref Ca)))(hd:∀M ρ,RTs K M ρ gk bh)
 (h:trE K (sX cls n G gk fa) σ H Q):tMake Ca (spS K n G) bh E (trA K fa) σ H Q:=by
 obtain⟨H₀,Z,ρ,τ,C,t,C',R,e,k⟩:=h;unfold sX at e;obtain⟨⟨ts,C1⟩,e1,e⟩:=aK.mp e;obtain⟨⟨r,C2⟩,e2,e⟩:=aK.mp e;dsimp only at e2 e;split at e
 ·cases e
  refine⟨H₀,Z,ρ,τ,C,ts,C1,R,e1,fun vs H1 af R1 h1 s1 x dx hx hdx ba=>?_⟩
  obtain⟨R2,s2⟩:=R1.alloc (o:=.own x) hdx;have hx2:upd H1 dx (.own x) x=none:=by rw[fP (Ne.symm ba)];exact hx
  obtain⟨R3,s3,r3⟩:=R2.alloc_cl (kd:=.o cls []) (ts:=[]) (vs:=[]) (ob:=.ins Ca dx []) hx2 ⟨rfl,Ca,dx,hc,rfl⟩ .nil
  refine aBA (σ:=σ) ⟨.cell C1.length::(ts++gk),H₀,Z,af++[x],τ,C1++[(.o cls [],[])],.non,_,R3,.cons r3 (((h1.step s2).step s3).append (hd _ _)),e2,fun v H4 jm R4 h4 s4=>⟨h4.non_inv,?_⟩⟩
  exact k _ H4 jm R4 (r3.step s4) (((s1.trans s2).trans s3).trans s4)
 ·cases e
end
end TL
namespace L2
open PySem PySem.Spec PyProof.Rows
section
variable {κ:Type}[DecidableEq κ]
variable{p:κ×V}{r kvs:List (κ×V)}{o:Option V}{u:Option Value}
noncomputable def uG(kvs:List (κ×V))(k:κ):Option V:=(kvs.find? fun kv=>decide (kv.1=k)).map (·.2)
noncomputable def putK(kvs:List (κ×V))(k:κ)(v:V):List (κ×V):=
 if(kvs.any fun kv=>decide (kv.1=k))=true then kvs.map (fun kv=>if kv.1=k then(kv.1,v)else kv)else kvs++[(k,v)]
theorem rW{k:κ}(e:p.1=k):uG (p::r) k=some p.2:=by simp[uG,dC,e]
theorem pN{k:κ}(e:¬p.1=k):uG (p::r) k=uG r k:=by simp[uG,dC,e]
theorem aCM(k:κ):∀kvs:List (κ×V),(kvs.any fun kv=>decide (kv.1=k))=(uG kvs k).isSome
 | []=>rfl
 |p::r=>by
  rw[aPd];by_cases e:p.1=k
  ·simp only[rW e,decide_eq_true e,Bool.true_or,Option.isSome_some]
  ·rw[pN e,decide_eq_false e,Bool.false_or];exact aCM k r
theorem pY(kvs:List (κ×V))(k:κ)(v:V):(putK kvs k v).length<=kvs.length+1:=by
 unfold putK;split
 ·rw[aS];lia
 ·rw[bD,aN,aP];lia
theorem pE.isSome_eq(r:pE o u):o.isSome=u.isSome:=by
 cases o with
 |none=>cases u with
  |none=>rfl
  |some _=>exact(show False from r).elim
 |some _=>cases u with
  |none=>exact(show False from r).elim
  |some _=>rfl
theorem pE.getD{d:V}{d':Value}(r:pE o u)(rd:RelV d d'):RelV (o.getD d) (u.getD d'):=by
 cases o with
 |none=>cases u with
  |none=>exact rd
  |some _=>exact(show False from r).elim
 |some _=>cases u with
  |none=>exact(show False from r).elim
  |some _=>exact r
theorem KV.val{vs:List (κ×Value)}(r:KV kvs vs)(k:κ):pE (uG kvs k) (valueAt vs k):=by
 unfold KV at r;induction r with
 |nil=>exact True.intro
 | @cons p q ps qs h t ih=>
   obtain⟨h1,h2⟩:=h;by_cases e:p.1=k
   ·have e':q.1=k:=h1.symm.trans e;have b:valueAt (q::qs) k=some q.2:=by simp[valueAt,dC,e']
    rw[rW e,b];exact h2
   ·have e':¬q.1=k:=fun z=>e (h1.trans z)
    have b:valueAt (q::qs) k=valueAt qs k:=by simp[valueAt,dC,e']
    rw[pN e,b];exact ih
theorem KV.any{vs:List (κ×Value)}(r:KV kvs vs)(k:κ):(kvs.any fun kv=>decide (kv.1=k))=vs.any fun kv=>decide (kv.1=k):=by
 unfold KV at r;induction r with
 |nil=>rfl
 |cons h t ih=>rw[aPd,aPd,ih,h.1]
theorem KV.repl{vs:List (κ×Value)}(r:KV kvs vs)(k:κ){y:V}{u:Value}(ry:RelV y u):
 KV (kvs.map fun kv=>if kv.1=k then(kv.1,y)else kv) (vs.map fun kv=>if kv.1=k then(kv.1,u)else kv):=by
 unfold KV at r|-;induction r with
 |nil=>exact .nil
 | @cons p q ps qs h t ih=>
   rw[aM,aM]
   refine .cons ?_ ih
   obtain⟨h1,h2⟩:=h;by_cases e:p.1=k
   ·rw[if_pos e,if_pos (h1.symm.trans e)];exact⟨h1,ry⟩
   ·rw[if_neg e,if_neg (fun z=>e (h1.trans z))];exact⟨h1,h2⟩
theorem KV.put{vs:List (κ×Value)}(r:KV kvs vs)(k:κ){y:V}{u:Value}(ry:RelV y u):KV (putK kvs k y) (stored vs k u):=by
 unfold putK stored;rw[r.any k];by_cases e:(vs.any fun kv=>decide (kv.1=k))=true
 ·rw[if_pos e,if_pos e];exact r.repl k ry
 ·rw[if_neg e,if_neg e];exact Paired.snoc r ⟨rfl,ry⟩
theorem KV.length{vs:List (κ×Value)}(r:KV kvs vs):kvs.length=vs.length:=Paired.length r
end
variable{u:Value}{kvs:List (List Key×V)}{xs:List (List Key×Addr×Value)}
theorem yU{P:Program}{w:World}{k:Key}(r:RelV (kV k) u):(iW P w).is k u=true:=by
 cases k with
 |inl i=>obtain⟨t,e⟩:=(show∃t,u=Value.int i t from r);subst e;exact aCz P w i t
 |inr x=>obtain⟨t,e⟩:=(show∃t,u=Value.str x t from r);subst e;exact aC8 P w x t
theorem aAf{P:Program}{w:World}:∀{ks:List Key}{us:List Value},Vals (ks.map kV) us->ItemsAre (iW P w) ks us
 | [],_,r=>by rw[bB]at r;cases r;exact .nil
 |k::ks,_,r=>by
  rw[aM]at r;cases r with
  |cons h t=>exact .cons (yU h) (aAf t)
abbrev KT(H:Hp):List (List Key×V)->List (List Key×Addr×Value)->Prop:=Paired fun p q=>p.1=q.1/\H q.2.1=some (.tup (p.1.map kV))/\RelV p.2 q.2.2
theorem KT.val{H:Hp}(r:KT H kvs xs)(k:List Key):pE (uG kvs k) ((atKey xs k).map (·.2)):=by
 induction r with
 |nil=>exact True.intro
 | @cons p q ps qs h t ih=>
   obtain⟨h1,_,h2⟩:=h;by_cases e:p.1=k
   ·have e':q.1=k:=h1.symm.trans e;have b:atKey (q::qs) k=some q.2:=by simp[atKey,dC,e']
    rw[rW e,b];exact h2
   ·have e':¬q.1=k:=fun z=>e (h1.trans z)
    have b:atKey (q::qs) k=atKey qs k:=by simp[atKey,dC,e']
    rw[pN e,b];exact ih
theorem KT.repl{H:Hp}(r:KT H kvs xs)(k:List Key){y:V}(ry:RelV y u):
 KT H (kvs.map fun kv=>if kv.1=k then(kv.1,y)else kv) (xs.map (putAt k u)):=by
 induction r with
 |nil=>exact .nil
 | @cons p q ps qs h t ih=>
   rw[aM,aM]
   refine .cons ?_ ih
   obtain⟨h1,h2,h3⟩:=h;unfold putAt;by_cases e:p.1=k
   ·rw[if_pos e,if_pos (h1.symm.trans e)];exact⟨h1,h2,ry⟩
   ·rw[if_neg e,if_neg (fun z=>e (h1.trans z))];exact⟨h1,h2,h3⟩
theorem KT.put{H:Hp}(r:KT H kvs xs)(k:List Key){b:Addr}{y:V}(hb:H b=some (.tup (k.map kV)))(ry:RelV y u):
 KT H (putK kvs k y) (storedH xs k b u):=by
 have e:(kvs.any fun kv=>decide (kv.1=k))=(atKey xs k).isSome:=by
  rw[aCM,(r.val k).isSome_eq,aPw]
 unfold putK storedH;rw[e];by_cases q:(atKey xs k).isSome=true
 ·rw[if_pos q,if_pos q];exact r.repl k ry
 ·rw[if_neg q,if_neg q];exact Paired.snoc r ⟨rfl,hb,ry⟩
theorem KT.keeps{H H':Hp}(r:KT H kvs xs)(ht:∀b ys,H b=some (.tup ys)->H' b=some (.tup ys)):KT H' kvs xs:=
 Paired.mapP r fun _ _ z=>⟨z.1,ht _ _ z.2.1,z.2.2⟩
section
variable {P:Program}{w:World}{H:Hp}{h:Heap}{a:Addr}
theorem aLl{u:HO}(ok:HOk P w H h)(e:Rd H a u):jP P w H h a u:=e.ok ok
theorem wL{kvs:List (Key×V)}(ok:HOk P w H h)(e:Rd H a (.dK kvs)):kvs.length<=sizeLine/\(a==sysModules)=false/\∃vs,KV kvs vs/\h.DictOf (iW P w) a vs:=
 show jP P w H h a (.dK kvs)from aLl ok e
theorem aFc{kvs:List (Key×V)}(ok:HOk P w H h)(e:H a=some (.dK kvs)):kvs.length<=sizeLine/\(a==sysModules)=false/\∃vs,KV kvs vs/\h.DictOf (iW P w) a vs:=wL ok (.inl e)
theorem uM{ks:List Key}(ok:HOk P w H h)(e:H a=some (.tup (ks.map kV))):(tupleKind (iW P w)).is h ks a:=by
 obtain⟨_,its,r,o,h1,h2,n,h3⟩:=(show jP P w H h a (.tup (ks.map kV))from ok a _ e)
 exact⟨o,its.toArray,n,h1,h2,h3,by simpa using aAf r⟩
theorem xP{kvs:List (List Key×V)}(ok:HOk P w H h)(e:Rd H a (.dT kvs)):kvs.length<=sizeLine/\(a==sysModules)=false/\
 ∃xs,KT H kvs xs/\h.DictOfH (tupleKind (iW P w)) a xs:=by
 obtain⟨z,y,xs,r,o,es,ep,h1,h2,h3,h4,h5⟩:=(show jP P w H h a (.dT kvs)from aLl ok e)
 refine⟨z,y,xs,r,o,es,ep,h1,h2,h3,h4,fun x hx=>?_,h5⟩
 have all:∀{l:List (List Key×V)}{m:List (List Key×Addr×Value)},KT H l m->∀x∈m,(tupleKind (iW P w)).is h x.1 x.2.1:=by
  intro l m q;induction q with
  |nil=>intro x hx;exact nomatch hx
  | @cons p q ps qs hq t ih=>
    intro x hx;rcases bE.mp hx with e|hx
    ·subst e
     exact uM ok (by rw[<-hq.1];exact hq.2.1)
    ·exact ih x hx
 exact all r x hx
theorem aNV{kvs:List (List Key×V)}(ok:HOk P w H h)(e:H a=some (.dT kvs)):kvs.length<=sizeLine/\(a==sysModules)=false/\
 ∃xs,KT H kvs xs/\h.DictOfH (tupleKind (iW P w)) a xs:=xP ok (.inl e)
end
def rO(H:Hp)(a:Addr)(y:V)(r:Option V):Prop:=
 (∃kvs k,Rd H a (.dK kvs)/\y=kV k/\r=uG kvs k)\/∃kvs k b,Rd H a (.dT kvs)/\y=.ref b/\H b=some (.tup (k.map kV))/\r=uG kvs k
def zQ(H:Hp)(a:Addr)(y v:V)(H':Hp):Prop:=
 (∃kvs k,H a=some (.dK kvs)/\y=kV k/\kvs.length<sizeLine/\H'=upd H a (.dK (putK kvs k v)))\/
 ∃kvs k b,H a=some (.dT kvs)/\y=.ref b/\H b=some (.tup (k.map kV))/\kvs.length<sizeLine/\H'=upd H a (.dT (putK kvs k v))
theorem rO.k{H:Hp}{a:Addr}{kvs:List (Key×V)}{k:Key}(e:H a=some (.dK kvs)):rO H a (kV k) (uG kvs k):=.inl ⟨kvs,k,.inl e,rfl,rfl⟩
theorem zQ.k{H:Hp}{a:Addr}{kvs:List (Key×V)}{k:Key}{v:V}(e:H a=some (.dK kvs))(hl:kvs.length<sizeLine):zQ H a (kV k) v (upd H a (.dK (putK kvs k v))):=.inl ⟨kvs,k,e,rfl,hl,rfl⟩
theorem zQ.t{H:Hp}{a b:Addr}{kvs:List (List Key×V)}{k:List Key}{v:V}(e:H a=some (.dT kvs))(eb:H b=some (.tup (k.map kV)))(hl:kvs.length<sizeLine):
 zQ H a (.ref b) v (upd H a (.dT (putK kvs k v))):=.inr ⟨kvs,k,b,e,rfl,eb,hl,rfl⟩
section
variable {X:Cx}{aa:List (Addr×Obj)}{σ:St}{H:Hp}{s:Shared}{a:Addr}{y v:V}{u r:Value}{o:Option V}{A:Around}{E:Value->Shared->Prop}
variable{Q:Value->Shared->Prop}{h':Heap}
theorem Inv.big(I:Inv X aa σ H s):sysModules<s.heap.objs.size:=by
 have h:mainGlobals<s.heap.objs.size:=(I.mod.glob.keeps I.bk).lt
 exact aP0 (by decide) h
theorem aAL(hu:A.units+1<cLine)(I:Inv X aa σ H s)(g:rO H a y (some v))(ry:RelV y u)(h:∀w' s',Inv X aa σ H s'->RelV v w'->Q w' s'):
 wpAny (model X.prog X.w) A (getItem (.ref a) u) Q E s:=by
 rcases g with⟨kvs,k,e,ey,l⟩| ⟨kvs,k,b,e,ey,eb,l⟩
 ·subst ey;obtain⟨z,hd,vs,rel,dd⟩:=wL I.hok e;obtain⟨w',hw,ef⟩:=pE.some_of (v:=v) (o:=valueAt vs k) (by rw[l];exact rel.val k)
  exact wpAny_getItem_of (yU ry) dd.mapOf hw (h w' _ (I.tok _) ef)
 ·subst ey;cases (show u=Value.ref b from ry);obtain⟨z,hd,xs,rel,dd⟩:=xP I.hok e;obtain⟨w',hw,ef⟩:=pE.some_of (v:=v) (o:=(atKey xs k).map (·.2)) (by rw[l];exact rel.val k);obtain⟨p,hp,oj⟩:=aL.mp hw
  refine wpAny_getItem_heap (tupleKind_room_in1 hu) (uM I.hok eb) dd hp ?_
  rw[oj]
  exact h w' _ (I.tok _) ef
theorem aOJ(hu:A.units+1<cLine)(I:Inv X aa σ H s)(g:rO H a y o)(ry:RelV y u)(h:∀s',Inv X aa σ H s'->Q (.bool o.isSome) s'):
 wpAny (model X.prog X.w) A (compareOp .In u (.ref a)) Q E s:=by
 rcases g with⟨kvs,k,e,ey,l⟩| ⟨kvs,k,b,e,ey,eb,l⟩
 ·subst ey;obtain⟨z,hd,vs,rel,dd⟩:=wL I.hok e
  refine wpAny_in_of (yU ry) hd dd.mapOf ?_
  rw[<-(rel.val k).isSome_eq,<-l]
  exact h _ (I.tok _)
 ·subst ey;cases (show u=Value.ref b from ry);obtain⟨z,hd,xs,rel,dd⟩:=xP I.hok e
  refine wpAny_in_heap (tupleKind_room_in1 hu) (uM I.hok eb) hd dd ?_
  have q:=(rel.val k).isSome_eq;rw[aPw]at q;rw[<-q,<-l]
  exact h _ (I.tok _)
theorem aKr(hu:A.units+1<cLine)(I:Inv X aa σ H s)(g:rO H a y o)(ry:RelV y u)(h:∀s',Inv X aa σ H s'->Q (.bool (!o.isSome)) s'):
 wpAny (model X.prog X.w) A (compareOp .NotIn u (.ref a)) Q E s:=by
 rcases g with⟨kvs,k,e,ey,l⟩| ⟨kvs,k,b,e,ey,eb,l⟩
 ·subst ey;obtain⟨z,hd,vs,rel,dd⟩:=wL I.hok e
  refine wpAny_notIn_of (yU ry) hd dd.mapOf ?_
  rw[<-(rel.val k).isSome_eq,<-l]
  exact h _ (I.tok _)
 ·subst ey;cases (show u=Value.ref b from ry);obtain⟨z,hd,xs,rel,dd⟩:=xP I.hok e
  refine wpAny_notIn_heap (tupleKind_room_in1 hu) (uM I.hok eb) hd dd ?_
  have q:=(rel.val k).isSome_eq;rw[aPw]at q;rw[<-q,<-l]
  exact h _ (I.tok _)
theorem wB{t':Nat}{ob:HO}(I:Inv X aa σ H s)(mu:Mut (H a))(hs:Heap.SameBut a s.heap h')(he:∃q,h'.get? a=some q)(new:jP X.prog X.w (upd H a ob) h' a ob):
 Inv X aa σ (upd H a ob) {s with heap:=h',toks:=t'}:=
 I.write (x:=a) (e:=a) mu (.inl rfl) (fun b q hb z=>(hs.2 b hb).trans z) he new
theorem aDc{P:Program}{w:World}{H':Hp}{kvs:List (Key×V)}{vs:List (Key×Value)}(z:kvs.length<=sizeLine)(hd:(a==sysModules)=false)(rel:KV kvs vs)(dd:h'.DictOf (iW P w) a vs):
 jP P w H' h' a (.dK kvs):=⟨z,hd,vs,rel,dd⟩
theorem aAl{H':Hp}{Q:Unit->Shared->Prop}(hu:A.units+1<cLine)(I:Inv X aa σ H s)(g:zQ H a y v H')(ry:RelV y u)(rv:RelV v r)(h:∀s',Inv X aa σ H' s'->Q () s'):
 wpAny (model X.prog X.w) A (setItem (.ref a) u r) Q E s:=by
 rcases g with⟨kvs,k,e,ey,l,eH⟩| ⟨kvs,k,b,e,ey,eb,l,eH⟩
 ·subst ey eH;obtain⟨z,hd,vs,rel,dd⟩:=aFc I.hok e;have hz:vs.length<=sizeLine:=by rw[<-rel.length];exact z
  have hl:(putK kvs k v).length<=sizeLine:=by have:=pY kvs k v;lia
  refine wpAny_setItem_pairs (hsz:=hz) (yU ry) dd fun h' jk hs=>h _ ?_
  have he:∃q,h'.get? a=some q:=let ⟨q,_,_,hq,_⟩:=jk;⟨q,hq⟩
  exact wB I (by rw[e];exact True.intro) hs he (aDc hl hd (rel.put k rv) jk)
 ·subst ey eH;cases (show u=Value.ref b from ry);obtain⟨z,hd,xs,rel,dd⟩:=aNV I.hok e;have hz:xs.length<=sizeLine:=by rw[<-Paired.length rel];exact z
  have hl:(putK kvs k v).length<=sizeLine:=by have:=pY kvs k v;lia
  refine wpAny_setItem_heap (hsz:=hz) (tupleKind_room_in1 hu) (uM I.hok eb) dd fun h' jk hs=>h _ ?_
  obtain⟨q,es,ep,hq,h2,h3,h4,_,h5⟩:=jk
  refine wB I (by rw[e];exact True.intro) hs ⟨q,hq⟩ ⟨hl,hd,_,(rel.put k eb rv).keeps fun c ys ec=>?_,q,es,ep,hq,h2,h3,h4,h5⟩
  rw[fP (nS ec e (fun z=>nomatch z))]
  exact ec
end
section
variable {X:Cx}{aa:List (Addr×Obj)}{σ:St}{H:Hp}{s:Shared}{a:Addr}{kvs:List (Key×V)}{k:Key}{u:Value}{A:Around}{E:Value->Shared->Prop}
end
variable{s:Shared}
def aMs(i:Expr):Prop:=∀ov iv,subscripted i false ov iv=operate [ov,iv] (getItem ov iv)
theorem aJA{prog:Program}{w:World}{A:Around}{E:Value->Shared->Prop}{env:Env}{value slice:Expr}{pos:Pos}{T id:String}{Q:Value->Shared->Prop}
 (hl:typeLookup (.type T) "__getitem__"=pure (some (.builtin id)))(hs:aMs slice)
 (h:wpAny (model prog w) A (eval value env) (fun o aj=>wpAny (model prog w) A (eval slice env) (fun i bi=>bi.TypeIs o T/\wpAny (model prog w) A (getItem o i) Q E bi) E aj) E s):
 wpAny (model prog w) A (eval (.Subscript value slice pos) env) Q E s:=by
 refine Subscript_ (wpAny_mono h (fun o aj bb=>wpAny_mono bb (fun i bi cj=>?_) fun _ _ x=>x) fun _ _ x=>x)
 obtain⟨hT,cj⟩:=cj;unfold subscriptTail
 refine wpAny_bind ?_
 rw[getitemInPython_of_ne hT.not_modules]
 refine wpAny_bind (wpAny_specialOf hT hl ?_)
 have fin:wpAny (model prog w) A (subscripted slice false o i) (fun r bw=>wpAny (model prog w) A (letTemporaryGo value o r>>=fun _=>pure r) Q E bw) E bi:=by
  rw[hs o i]
  exact wpAny_operating (wpAny_mono cj (fun r bw jq=>wpAny_bind (wpAny_letTemporaryGo (wpAny_pure jq))) fun _ _ x=>x)
 first
  |exact wpAny_pure (wpAny_bind fin)
  |exact wpAny_bind (wpAny_pure (wpAny_bind fin))
  |exact wpAny_bind fin
theorem aCv{X:Cx}{aa:List (Addr×Obj)}{σ:St}{H:Hp}{a:Addr}{y:V}{o:Option V}(I:Inv X aa σ H s)(g:rO H a y o):s.TypeIs (.ref a) "dict":=by
 rcases g with⟨kvs,k,e,_,_⟩| ⟨kvs,k,b,e,_,_,_⟩
 ·obtain⟨_,_,vs,_,dd⟩:=wL I.hok e
  exact dd.typeIs
 ·obtain⟨_,_,xs,_,dd⟩:=xP I.hok e
  exact dd.typeIs
noncomputable def tDGet(td ty:TE):TE:=fun σ H Q=>td σ H fun x H1=>ty σ H1 fun y H2=>∃a v,x=.ref a/\rO H2 a y (some v)/\Q v H2
noncomputable def tDIn(ty td:TE):TE:=fun σ H Q=>ty σ H fun y H1=>td σ H1 fun x H2=>∃a o,x=.ref a/\rO H2 a y o/\Q (.bl o.isSome) H2
noncomputable def tDNotIn(ty td:TE):TE:=fun σ H Q=>ty σ H fun y H1=>td σ H1 fun x H2=>∃a o,x=.ref a/\rO H2 a y o/\Q (.bl (!o.isSome)) H2
noncomputable def sDPut(td ty tv:TE):TS:=fun D σ H=>tv σ H fun v H1=>td σ H1 fun x H2=>ty σ H2 fun y H3=>∃a H4,x=.ref a/\zQ H3 a y v H4/\D.nx σ H4
def sDAug(td ty tv:TE)(rd:V->V->Hp->VK->Prop):TS:=fun D σ H=>td σ H fun x H1=>ty σ H1 fun y H2=>∃a v,x=.ref a/\rO H2 a y (some v)/\
 tv σ H2 fun y2 H3=>rd v y2 H3 fun z H4=>∃H5,zQ H4 a y z H5/\D.nx σ H5
section
variable {X:Cx}{o i e value:Expr}{pos ao aw:Pos}{td ty tv:TE}
theorem aJj(hu:X.A.units+1<cLine)(ho:PE X o td)(hi:PE X i ty)(hs:aMs i):PE X (.Subscript o i pos) (tDGet td ty):=by
 intro aa s σ H Q I h
 refine aJA PySem.F.slot_dict_getitem.lookup hs (thn (ho aa s σ H _ I h) fun u s1 ⟨x,H1,I1,rx,q1⟩=>thn (hi aa s1 σ H1 _ I1 q1) fun iv s2 zz=>?_)
 obtain⟨y,H2,I2,ry,a,v,ex,g,q2⟩:=zz;subst ex;obtain rfl:u=Value.ref a:=rx
 exact⟨aCv I2 g,aAL hu I2 g ry fun w' s3 I3 ef=>⟨v,H2,I3,ef,q2⟩⟩
theorem aME(hu:X.A.units+1<cLine)(hi:PE X i ty)(ho:PE X o td):PC X .In i o (tDIn ty td):=by
 intro aa s σ H Q I h
 refine thn (hi aa s σ H _ I h) fun iv s1 ⟨y,H1,I1,ry,q1⟩=>thn (ho aa s1 σ H1 _ I1 q1) fun u s2 zz=>?_
 obtain⟨x,H2,I2,rx,a,ov,ex,g,q2⟩:=zz;subst ex;obtain rfl:u=Value.ref a:=rx
 exact aOJ hu I2 g ry fun s3 I3=>⟨.bl ov.isSome,H2,I3,rfl,q2⟩
theorem aFF(hu:X.A.units+1<cLine)(hi:PE X i ty)(ho:PE X o td):PC X .NotIn i o (tDNotIn ty td):=by
 intro aa s σ H Q I h
 refine thn (hi aa s σ H _ I h) fun iv s1 ⟨y,H1,I1,ry,q1⟩=>thn (ho aa s1 σ H1 _ I1 q1) fun u s2 zz=>?_
 obtain⟨x,H2,I2,rx,a,ov,ex,g,q2⟩:=zz;subst ex;obtain rfl:u=Value.ref a:=rx
 exact aKr hu I2 g ry fun s3 I3=>⟨.bl (!ov.isSome),H2,I3,rfl,q2⟩
theorem aKI(hu:X.A.units+1<cLine)(ho:PE X o td)(hi:PE X i ty)(hv:PE X value tv)(hs:swapsWith value (some (.Subscript o i ao)) pos.line X.env=pure false):
 PS X (.Assign [.Subscript o i ao] value pos) (sDPut td ty tv):=by
 intro aa s σ H D I h
 refine wpAny_Assign_Subscript (thn (hv aa s σ H _ I h) fun r s1 ⟨v,H1,I1,rv,q1⟩=>thn (ho aa s1 σ H1 _ I1 q1) fun u s2 ⟨x,H2,I2,rx,q2⟩=>thn (hi aa s2 σ H2 _ I2 q2) fun iv s3 ⟨y,H3,I3,ry,a,H4,ex,g,q3⟩=>?_) hs
 subst ex;obtain rfl:u=Value.ref a:=rx
 exact aAl hu I3 g ry rv fun s4 I4=>⟨σ,H4,I4,q3⟩
theorem aJf{op:Operator}{rd:V->V->Hp->VK->Prop}(hu:X.A.units+1<cLine)(ho:PE X o td)(hi:PE X i ty)(hv:PE X value tv)(yd:aKs X op rd)
 (ha:∀ov iv new,augStore i ov iv new=(do holding [new,ov,iv] (setItem ov iv new);release [new,ov,iv] [];pure .next)):PS X (.AugAssign (.Subscript o i aw) op value pos) (sDAug td ty tv rd):=by
 intro aa s σ H D I h
 refine wpAny_AugAssign_SubscriptAny (thn (ho aa s σ H _ I h) fun u s1 ⟨x,H1,I1,rx,q1⟩=>thn (hi aa s1 σ H1 _ I1 q1) fun iv s2 ⟨y,H2,I2,ry,a,v,ex,g,q2⟩=>?_) ha
 subst ex;obtain rfl:u=Value.ref a:=rx
 refine aAL hu I2 g ry fun w' s3 I3 ef=>thn (hv aa s3 σ H2 _ I3 q2) fun w2 s4 ⟨y2,H3,I4,ry2,q3⟩=>thn (yd aa s4 σ H3 v y2 w' w2 _ I4 ef ry2 q3) fun w3 s5 zz=>?_
 obtain⟨z,H4,I5,rz,H5,g5,q4⟩:=zz
 exact aAl hu I5 g5 ry rz fun s6 I6=>⟨σ,H5,I6,q4⟩
end
variable{P:Program}{w:World}
theorem aCF{H:Hp}(h:Heap)(hb:sysModules<h.objs.size):jP P w H (h.push {cls:=.type "dict",data:=.dict #[]}) h.objs.size (.dK []):=
 ⟨dF _,beq_eq_false_iff_ne.mpr (Ne.symm (bW hb)),[],.nil,Heap.DictOf.new h⟩
theorem aHx{H:Hp}(h:Heap)(hb:sysModules<h.objs.size):jP P w H (h.push {cls:=.type "dict",data:=.dict #[]}) h.objs.size (.dT []):=
 ⟨dF _,beq_eq_false_iff_ne.mpr (Ne.symm (bW hb)),[],.nil,_,#[],0,Heap.get?_push_size _ rfl,⟨rfl,rfl,rfl⟩,rfl,rfl,aQk⟩
def tDNewK:TE:=fun _ H Q=>∀p,H p=none->Q (.ref p) (upd H p (.dK []))
def tDNewT:TE:=fun _ H Q=>∀p,H p=none->Q (.ref p) (upd H p (.dT []))
section
variable {X:Cx}{pos:Pos}
theorem aH0:PE X (.Dict [] [] pos) tDNewK:=fun aa s σ H Q I h=>
 wpAny_Dict_empty ⟨.ref s.heap.objs.size,_,I.laid (a:=s.heap.objs.size) (o:=.dK []) (t':=s.toks) (fun _ _ q=>Heap.get?_push_of_some _ q) (bF _) (aCF s.heap I.big),rfl,h _ (I.hok.fresh (bF _))⟩
theorem aI6:PE X (.Dict [] [] pos) tDNewT:=fun aa s σ H Q I h=>
 wpAny_Dict_empty ⟨.ref s.heap.objs.size,_,I.laid (a:=s.heap.objs.size) (o:=.dT []) (t':=s.toks) (fun _ _ q=>Heap.get?_push_of_some _ q) (bF _) (aHx s.heap I.big),rfl,h _ (I.hok.fresh (bF _))⟩
end
variable{X:Cx}{pos:Pos}{jy:List (TE×TE)}
def aDl:List (TE×TE)->St->Hp->(List (V×V)->Hp->Prop)->Prop
 | [],_,H,Q=>Q [] H
 | (tk,tv)::r,σ,H,Q=>tk σ H fun x H1=>tv σ H1 fun y H2=>aDl r σ H2 fun ps H3=>Q ((x,y)::ps) H3
abbrev VV:List (V×V)->List (Value×Value)->Prop:=Paired fun p q=>RelV p.1 q.1/\RelV p.2 q.2
def PPs(X:Cx)(pos:Pos)(keys:List (Option Expr))(values:List Expr)(jy:List (TE×TE)):Prop:=
 ∀(aa:List (Addr×Obj))(s:Shared)(σ:St)(H:Hp)(Q:List (V×V)->Hp->Prop),Inv X aa σ H s->aDl jy σ H Q->
  wpAny (model X.prog X.w) X.A (evalPairs (pairTrees keys values X.env pos)) (fun vs s'=>∃ps H',Inv X aa σ H' s'/\VV ps vs/\Q ps H') X.xe s
theorem aKA:PPs X pos [] [] []:=fun aa s σ H Q I h=>pairTrees_nil_walk ⟨[],H,I,.nil,h⟩
theorem aIH{k v:Expr}{ks:List (Option Expr)}{vs:List Expr}{tk tv:TE}(hk:PE X k tk)(hv:PE X v tv)(hr:PPs X pos ks vs jy):
 PPs X pos (some k::ks) (v::vs) ((tk,tv)::jy):=fun aa s σ H Q I h=>
 pairTrees_cons_walk (thn (hk aa s σ H _ I h) fun u s1 ⟨x,H1,I1,rx,q1⟩=>thn (hv aa s1 σ H1 _ I1 q1) fun w2 s2 ⟨y,H2,I2,ry,q2⟩=>
  thn (hr aa s2 σ H2 _ I2 q2) fun ws s3 ⟨ps,H3,I3,rel,q3⟩=>⟨(x,y)::ps,H3,I3,.cons ⟨rx,ry⟩ rel,q3⟩)
def pS(kvs more:List (Key×V)):List (Key×V):=more.foldl (fun acc kv=>putK acc kv.1 kv.2) kvs
theorem KV.merge:∀{more:List (Key×V)}{rs:List (Key×Value)}{kvs:List (Key×V)}{vs:List (Key×Value)},KV more rs->KV kvs vs->KV (pS kvs more) (merged vs rs):=by
 intro more rs kvs vs r;unfold KV at r;induction r generalizing kvs vs with
 |nil=>intro q;exact q
 | @cons p q ps qs h t ih=>
   intro r0;have e:KV (putK kvs p.1 p.2) (stored vs q.1 q.2):=by
    have:=r0.put p.1 h.2;rw[<-h.1];exact this
   exact ih e
theorem nX:∀(more kvs:List (Key×V)),(pS kvs more).length<=kvs.length+more.length
 | [],kvs=>by show kvs.length<=kvs.length+0;lia
 |p::r,kvs=>by
  have h1:=nX r (putK kvs p.1 p.2);have h2:=pY kvs p.1 p.2;show(pS (putK kvs p.1 p.2) r).length<=_;rw[aN];lia
theorem yX{P:Program}{w:World}:∀{kvs:List (Key×V)}{ws:List (Value×Value)},VV (kvs.map fun kv=>(kV kv.1,kv.2)) ws->∃rs,Carries (iW P w) ws rs/\KV kvs rs
 | [],_,r=>by rw[bB]at r;cases r;exact⟨[],True.intro,.nil⟩
 |p::kvs,_,r=>by
  rw[aM]at r;cases r with
  | @cons a b as bs h t=>
    obtain⟨rs,c,q⟩:=yX (P:=P) (w:=w) t;obtain⟨b1,b2⟩:=b
    exact⟨(p.1,b2)::rs,⟨yU h.1,rfl,c⟩,.cons ⟨rfl,h.2⟩ q⟩
def tDisp(jy:List (TE×TE)):TE:=fun σ H Q=>∀p,H p=none->aDl jy σ (upd H p (.dK [])) fun ps H2=>H2 p=some (.dK [])/\∃kvs:List (Key×V),ps=kvs.map (fun kv=>(kV kv.1,kv.2))/\kvs.length<=15/\Q (.ref p) (upd H2 p (.dK (pS [] kvs)))
theorem aKb{keys:List (Option Expr)}{values:List Expr}(h:PPs X pos keys values jy)(iw:keys.all (·.isSome)=true)(hl:keys.length=values.length)(h0:keys≠[])
 (h15:keys.length<=15):PE X (.Dict keys values pos) (tDisp jy):=by
 intro aa s σ H Q I q;have hn:=I.hok.fresh (bF s.heap.objs.size);have I1:=I.laid (a:=s.heap.objs.size) (o:=.dK []) (h':=s.heap.push {cls:=.type "dict",data:=.dict #[]}) (t':=s.toks) (fun _ _ q=>Heap.get?_push_of_some _ q) (bF _) (aCF s.heap I.big)
 refine wpAny_Dict_walk (knd:=iW X.prog X.w) iw hl h0 h15 (thn (h aa _ σ _ _ I1 (q _ hn)) fun ws s2 zz=>?_)
 obtain⟨ps,H2,I2,rel,e,kvs,ep,lk,q2⟩:=zz;subst ep;obtain⟨rs,c,rk⟩:=yX (P:=X.prog) (w:=X.w) rel;obtain⟨z,hd,vs0,r0,dd⟩:=aFc I2.hok e;cases r0
 refine⟨rs,c,dd,fun h' jk hs=>⟨.ref s.heap.objs.size,_,?_,rfl,q2⟩⟩
 have hz:(pS [] kvs).length<=sizeLine:=by
  have h1:=nX kvs [];rw[aP]at h1;rw[sizeLine_eq];lia
 have he:∃q,h'.get? s.heap.objs.size=some q:=let ⟨q,_,_,hq,_⟩:=jk;⟨q,hq⟩
 exact wB I2 (by rw[e];exact True.intro) hs he (aDc hz hd (rk.merge .nil) jk)
structure M1(X:Cx)(o:Expr)(m:Str)(al:Pos)(e:Expr)(ak:Pos):Prop where
 base:attributeBase o m X.env (eval o X.env)=eval o X.env
 few:((backTo ak (starEach [e] X.env)).all (fun x=> !x.1)&&(backToKw ak (keywordEach [] X.env)).all (fun x=>x.1.isSome)
  &&decide (([e]:List Expr).length+([]:List Keyword).length+(if([]:List Keyword).isEmpty then 0 else 1)<30))=true
 line:(al.endLine==ak.line)=true
 trees:backTo ak (starEach [e] X.env)=[(false,eval e X.env)]
structure M2(X:Cx)(o:Expr)(m:Str)(al:Pos)(e f:Expr)(ak:Pos):Prop where
 base:attributeBase o m X.env (eval o X.env)=eval o X.env
 few:((backTo ak (starEach [e,f] X.env)).all (fun x=> !x.1)&&(backToKw ak (keywordEach [] X.env)).all (fun x=>x.1.isSome)
  &&decide (([e,f]:List Expr).length+([]:List Keyword).length+(if([]:List Keyword).isEmpty then 0 else 1)<30))=true
 line:(al.endLine==ak.line)=true
 trees:backTo ak (starEach [e,f] X.env)=[(false,eval e X.env),(false,eval f X.env)]
def IsD(H:Hp)(a:Addr):Prop:=(∃kvs,Rd H a (.dK kvs))\/∃kvs,Rd H a (.dT kvs)
theorem aHs{aa:List (Addr×Obj)}{σ:St}{H:Hp}{s:Shared}{a:Addr}(I:Inv X aa σ H s)(d:IsD H a):
 s.TypeIs (.ref a) "dict"/\(∀b,Value.ref a=.ref b->∃ob,s.heap.get? b=some ob/\ob.dict=none)/\(a==sysModules)=false:=by
 rcases d with⟨kvs,e⟩| ⟨kvs,e⟩
 ·obtain⟨_,hd,vs,_,dd⟩:=wL I.hok e
  refine⟨dd.typeIs,fun b q=>?_,hd⟩
  cases q;obtain⟨ob,_,_,h1,h2,_⟩:=dd
  exact⟨ob,h1,h2.2.1⟩
 ·obtain⟨_,hd,xs,_,dd⟩:=xP I.hok e
  refine⟨dd.typeIs,fun b q=>?_,hd⟩
  cases q;obtain⟨ob,_,_,h1,h2,_⟩:=dd
  exact⟨ob,h1,h2.2.1⟩
section
variable {X:Cx}{aa:List (Addr×Obj)}{σ:St}{H:Hp}{s:Shared}{a:Addr}{y d:V}{u r:Value}{o:Option V}{A:Around}{E:Value->Shared->Prop}
theorem aNL{Q:Value->Shared->Prop}(hu:A.units+1<cLine)(I:Inv X aa σ H s)(g:rO H a y o)(ry:RelV y u)(rd:RelV d r)(h:∀w' s',Inv X aa σ H s'->RelV (o.getD d) w'->Q w' s'):
 wpAny (model X.prog X.w) A (call (.builtin "dict.get") [.ref a,u,r]) Q E s:=by
 rcases g with⟨kvs,k,e,ey,l⟩| ⟨kvs,k,b,e,ey,eb,l⟩
 ·subst ey;obtain⟨z,hd,vs,rel,dd⟩:=wL I.hok e
  refine call_meetsIn PySem.F.slot_dict_get dd.typeIs PySem.F.entry_dict_get (PySem.F.args_dict_get_3 _ _ _) (meets_dict_get_default (iW X.prog X.w) a (yU ry) hd r) ⟨_,dd.mapOf,h _ _ (I.tok _) ?_⟩
  rw[l]
  exact(rel.val k).getD rd
 ·subst ey;cases (show u=Value.ref b from ry);obtain⟨z,hd,xs,rel,dd⟩:=xP I.hok e
  refine call_meetsIn PySem.F.slot_dict_get dd.typeIs PySem.F.entry_dict_get (PySem.F.args_dict_get_3 _ _ _) (meetsH_dict_get_default (tupleKind (iW X.prog X.w)) a b hd r) ⟨tupleKind_room_in1 hu,k,xs,uM I.hok eb,dd,h _ _ (I.tok _) ?_⟩
  rw[l]
  exact(rel.val k).getD rd
end
noncomputable def tDGet2(td ty tx:TE):TE:=fun σ H Q=>td σ H fun x H1=>∃a,x=.ref a/\IsD H1 a/\ty σ H1 fun y H2=>tx σ H2 fun z H3=>∃o,rO H3 a y o/\Q (o.getD z) H3
section
variable {X:Cx}{o e f:Expr}{al ak:Pos}{td ty tx:TE}
theorem aHk(hu:X.A.units+1<cLine)(ho:PE X o td)(he:PE X e ty)(hf:PE X f tx)(m:M2 X o "get" al e f ak):PE X (.Call (.Attribute o "get" al) [e,f] [] ak) (tDGet2 td ty tx):=by
 intro aa s σ H Q I h
 refine wpAny_Call_method m.base m.few m.line PySem.F.plainAttrs_dict PySem.F.slot_dict_get PySem.F.type_dict_get (thn (ho aa s σ H _ I h) fun u s1 zz=>?_)
 obtain⟨x,H1,I1,rx,a,ex,d,q1⟩:=zz;subst ex;obtain rfl:u=Value.ref a:=rx;obtain⟨t1,t2,_⟩:=aHs I1 d
 refine⟨t1,t2,?_⟩
 rw[m.trees]
 refine Calls.callWith_builtin rfl (Calls.evalArgs_plain (Calls.spliced_cons (thn (he aa s1 σ H1 _ I1 q1) fun iv s2 ⟨y,H2,I2,ry,q2⟩=>
  Calls.spliced_cons (thn (hf aa s2 σ H2 _ I2 q2) fun fv s3 ⟨z,H3,I3,rz,ov,g,q3⟩=>Calls.spliced_nil ?_))))
 exact aNL hu I3 g ry rz fun w' s4 I4 ef=>⟨_,H3,I4,ef,q3⟩
end
section
variable {X:Cx}{aa:List (Addr×Obj)}{σ:St}{H:Hp}{s:Shared}{a:Addr}{kvs:List (Key×V)}{A:Around}{E:Value->Shared->Prop}
end
section
variable {X:Cx}{aa:List (Addr×Obj)}{σ:St}{H:Hp}{s:Shared}{a:Addr}{y:V}{u:Value}{A:Around}{E:Value->Shared->Prop}
end
end L2
namespace TL
open PySem L2
section
variable {κ:Type}[DecidableEq κ]{α:Type}
variable{ks:List κ}
noncomputable def vl(l:List (κ×α))(k:κ):Option α:=(l.find? fun kv=>decide (kv.1=k)).map (·.2)
noncomputable def pkK(k:κ)(ks:List κ):List κ:=if k∈ks then ks else ks++[k]
noncomputable def pvK(k:κ)(v:α)(ks:List κ)(vs:List α):List α:=if k∈ks then(ks.zip vs).map fun kv=>if kv.1=k then v else kv.2 else vs++[v]
theorem aEx{k:κ}:∀{ks:List κ}{vs:List α},ks.length=vs.length->((ks.zip vs).any fun kv=>decide (kv.1=k))=decide (k∈ks)
 | [],_,_=>rfl
 |_::_,[],h=>by cases h
 |x::ks,v::vs,h=>by
  rw[cD,aPd,aEx (by simpa using h)];by_cases e:x=k
  ·simp[e]
  ·simp[e,Ne.symm e]
theorem uW{k:κ}{v:α}:∀{ks:List κ}{vs:List α},ks.length=vs.length->(ks.zip vs).map (fun kv=>if kv.1=k then(kv.1,v)else kv)=ks.zip ((ks.zip vs).map fun kv=>if kv.1=k then v else kv.2)
 | [],_,_=>rfl
 |_::_,[],h=>by cases h
 |x::ks,w::vs,h=>by
  rw[cD,aM,aM,cD,uW (by simpa using h)];dsimp only;split<;>rfl
theorem wP{k:κ}{v:V}{vs:List V}(h:ks.length=vs.length):putK (ks.zip vs) k v=(pkK k ks).zip (pvK k v ks vs):=by
 unfold putK pkK pvK;rw[aEx h];by_cases e:k∈ks
 ·rw[if_pos (decide_eq_true e),if_pos e,if_pos e,uW h]
 ·rw[if_neg (by simpa using e),if_neg e,if_neg e,List.zip_append h];rfl
theorem aEc{k:κ}{v:α}{vs:List α}(h:ks.length=vs.length):(pkK k ks).length=(pvK k v ks vs).length:=by
 unfold pkK pvK;split
 ·rw[aS,dG,<-h,Nat.min_self]
 ·simp[h]
end
section
variable {K:aO}{M:Hp}{ρ:Rho}{κ:Type}[DecidableEq κ]
theorem RTs.vl{k:κ}:∀{ks:List κ}{ts:List T}{vs:List V},RTs K M ρ ts vs->∀{t:T},TL.vl (ks.zip ts) k=some t->∃v,uG (ks.zip vs) k=some v/\RT K M ρ t v
 | [],_,_,_,_,e=>by cases e
 |_::_,[],_,_,_,e=>by cases e
 |x::ks,u::ts,vs,h,t,e=>by
  obtain⟨v,r,rfl,h1,h2⟩:=h.cons_inv;rw[cD];rw[cD]at e;unfold TL.vl at e;rw[dC]at e;by_cases q:x=k
  ·rw[show decide ((x,u).1=k)=true from decide_eq_true q]at e;cases e
   exact⟨v,rW q,h1⟩
  ·rw[show decide ((x,u).1=k)=false from decide_eq_false q]at e;rw[pN (p:=(x,v)) q]
   exact RTs.vl h2 e
theorem RTs.vlN{k:κ}:∀{ks:List κ}{ts:List T}{vs:List V},RTs K M ρ ts vs->TL.vl (ks.zip ts) k=none->uG (ks.zip vs) k=none
 | [],_,_,_,_=>rfl
 |_::_,[],vs,h,_=>by rw[h.nil_inv];rfl
 |x::ks,u::ts,vs,h,e=>by
  obtain⟨v,r,rfl,h1,h2⟩:=h.cons_inv;rw[cD]at e|-;unfold TL.vl at e;rw[dC]at e;by_cases q:x=k
  ·rw[show decide ((x,u).1=k)=true from decide_eq_true q]at e;cases e
  ·rw[show decide ((x,u).1=k)=false from decide_eq_false q]at e;rw[pN (p:=(x,v)) q]
   exact RTs.vlN h2 e
theorem RTs.pvK{k:κ}{t:T}{v:V}(h0:RT K M ρ t v){ks:List κ}{ts:List T}{vs:List V}(h:RTs K M ρ ts vs):RTs K M ρ (TL.pvK k t ks ts) (TL.pvK k v ks vs):=by
 unfold TL.pvK;split
 ·have:∀{ks:List κ}{ts:List T}{vs:List V},RTs K M ρ ts vs->RTs K M ρ ((ks.zip ts).map fun kv=>if kv.1=k then t else kv.2) ((ks.zip vs).map fun kv=>if kv.1=k then v else kv.2):=by
   intro ks;induction ks with
   |nil=>intro ts vs _;exact .nil
   |cons x ks ih=>
    intro ts vs h;cases ts with
    |nil=>rw[h.nil_inv];exact .nil
    |cons u ts=>
     obtain⟨w,r,rfl,h1,h2⟩:=h.cons_inv;rw[cD,cD,aM,aM]
     refine .cons ?_ (ih h2)
     dsimp only;split
     ·exact h0
     ·exact h1
  exact this h
 ·exact h.append (.cons h0 .nil)
end
variable{c:Nat}{ks:List (List Key)}
noncomputable def kyT:T->Option Key
 | .int i=>some (.inl i)
 |_=>none
def aKy:List T->Option (List Key)
 | []=>some []
 |t::ts=>(kyT t).bind fun k=>(aKy ts).map fun ks=>k::ks
def ktT:T->Option (List Key)
 | .tup ts=>aKy ts
 |_=>none
noncomputable def dkc(C:Sto):T->Option (Nat×List Key×List T)
 | .cell c=>(C[c]?).bind fun x=>match x.1 with
   | .dk ks=>some (c,ks,x.2)
   |_=>none
 |_=>none
noncomputable def dtc(C:Sto):T->Option (Nat×List (List Key)×List T)
 | .cell c=>(C[c]?).bind fun x=>match x.1 with
   | .dt ks=>some (c,ks,x.2)
   |_=>none
 |_=>none
noncomputable def dzc(C:Sto):T->Option (Nat×List (List Key)×List T)
 | .cell c=>(C[c]?).bind fun x=>match x.1 with
   | .dt ks=>some (c,ks,x.2)
   | .dz ks=>some (c,ks,x.2)
   |_=>none
 |_=>none
theorem aB9{C:Sto}{t:T}{ks:List Key}{ts:List T}(h:dkc C t=some (c,ks,ts)):t=.cell c/\C[c]?=some (.dk ks,ts):=by
 unfold dkc at h;split at h
 ·obtain⟨⟨k,us⟩,e,h⟩:=aK.mp h;dsimp only at h;split at h
  ·cases h;exact⟨rfl,e⟩
  ·cases h
 ·cases h
theorem aIg{C:Sto}{t:T}{ts:List T}(h:dtc C t=some (c,ks,ts)):t=.cell c/\C[c]?=some (.dt ks,ts):=by
 unfold dtc at h;split at h
 ·obtain⟨⟨k,us⟩,e,h⟩:=aK.mp h;dsimp only at h;split at h
  ·cases h;exact⟨rfl,e⟩
  ·cases h
 ·cases h
theorem aGL{C:Sto}{t:T}{ts:List T}(h:dzc C t=some (c,ks,ts)):t=.cell c/\(C[c]?=some (.dt ks,ts)\/C[c]?=some (.dz ks,ts)):=by
 unfold dzc at h;split at h
 ·obtain⟨⟨k,us⟩,e,h⟩:=aK.mp h;dsimp only at h;split at h
  ·cases h;exact⟨rfl,.inl e⟩
  ·cases h;exact⟨rfl,.inr e⟩
  ·cases h
 ·cases h
section
variable {K:aO}{W:XW}{σ:St}{H:Hp}{Q:VK}{D:Ends}{M:Hp}{ρ:Rho}
variable{fk fv fd:FE}{td tk:T}
theorem aAX{t:T}{v:V}{k:Key}(h:RT K M ρ t v)(e:kyT t=some k):v=kV k:=by
 unfold kyT at e;split at e
 ·cases e;exact h.int_inv
 ·cases e
theorem aEC:∀{ts:List T}{vs:List V}{ks:List Key},RTs K M ρ ts vs->aKy ts=some ks->vs=ks.map kV
 | [],_,_,h,e=>by cases e;exact h.nil_inv
 |t::ts,vs,ks,h,e=>by
  obtain⟨v,r,rfl,h1,h2⟩:=h.cons_inv;unfold aKy at e;obtain⟨k,e1,e⟩:=aK.mp e;obtain⟨ks',e2,e⟩:=aL.mp e;cases e;rw[aAX h1 e1,aEC h2 e2];rfl
theorem aIx{Z:Addr->Prop}{t:T}{v:V}{k:List Key}(h:RT K (mask H Z ρ) ρ t v)(e:ktT t=some k):∃b,v=.ref b/\H b=some (.tup (k.map kV)):=by
 unfold ktT at e;split at e
 ·unfold RT at h;obtain⟨a,vs,e1,q,r⟩:=h
  exact⟨a,e1,by rw[(lB.mp q).2.2,aEC r e]⟩
 ·cases e
theorem Rel.dk{H₀:Hp}{Z:Addr->Prop}{τ:TSt}{C:Sto}{t:T}{v:V}{c:Nat}{ks:List Key}{ts:List T}(R:Rel K H₀ Z ρ τ C σ H)(h:RT K (mask H Z ρ) ρ t v)(e:dkc C t=some (c,ks,ts)):
 ∃a vs,v=.ref a/\ρ[c]?=some a/\ks.length=vs.length/\H a=some (.dK (ks.zip vs))/\RTs K (mask H Z ρ) ρ ts vs:=by
 obtain⟨rfl,e0⟩:=aB9 e;unfold RT at h;obtain⟨a,ev,q⟩:=h;obtain⟨x,vs,ob,h1,h2,h3,h4⟩:=R.cel c a q;rw[e0]at h1;cases h1;obtain⟨hl,rfl⟩:=h3
 exact⟨a,vs,ev,q,hl,h2,h4⟩
theorem Rel.dt{H₀:Hp}{Z:Addr->Prop}{τ:TSt}{C:Sto}{t:T}{v:V}{c:Nat}{ks:List (List Key)}{ts:List T}(R:Rel K H₀ Z ρ τ C σ H)(h:RT K (mask H Z ρ) ρ t v)(e:dtc C t=some (c,ks,ts)):
 ∃a vs,v=.ref a/\ρ[c]?=some a/\ks.length=vs.length/\H a=some (.dT (ks.zip vs))/\RTs K (mask H Z ρ) ρ ts vs:=by
 obtain⟨rfl,e0⟩:=aIg e;unfold RT at h;obtain⟨a,ev,q⟩:=h;obtain⟨x,vs,ob,h1,h2,h3,h4⟩:=R.cel c a q;rw[e0]at h1;cases h1;obtain⟨hl,rfl⟩:=h3
 exact⟨a,vs,ev,q,hl,h2,h4⟩
theorem Rel.dz{H₀:Hp}{Z:Addr->Prop}{τ:TSt}{C:Sto}{t:T}{v:V}{c:Nat}{ks:List (List Key)}{ts:List T}(R:Rel K H₀ Z ρ τ C σ H)(h:RT K (mask H Z ρ) ρ t v)(e:dzc C t=some (c,ks,ts)):
 ∃a vs,v=.ref a/\ρ[c]?=some a/\ks.length=vs.length/\Rd H a (.dT (ks.zip vs))/\RTs K (mask H Z ρ) ρ ts vs:=by
 obtain⟨rfl,e0⟩:=aGL e;unfold RT at h;obtain⟨a,ev,q⟩:=h;obtain⟨x,vs,ob,h1,h2,h3,h4⟩:=R.cel c a q;rcases e0 with e0|e0
 ·rw[e0]at h1;cases h1;obtain⟨hl,rfl⟩:=h3
  exact⟨a,vs,ev,q,hl,.inl h2,h4⟩
 ·rw[e0]at h1;cases h1;obtain⟨hl,o,rfl⟩:=h3
  exact⟨a,vs,ev,q,hl,.inr ⟨o,h2⟩,h4⟩
noncomputable def vG(kd:Kd):FE:=fun _ C=>some (.cell C.length,C++[(kd,[])])
theorem aKw(h:trE K (vG (.dk [])) σ H Q):tDNewK σ H Q:=by
 obtain⟨H₀,Z,ρ,τ,C,t,C',R,e,k⟩:=h;cases e;intro p hp;obtain⟨R1,s1,r1⟩:=R.alloc_cl (kd:=.dk []) (ts:=[]) (vs:=[]) (ob:=.dK []) hp ⟨rfl,rfl⟩ .nil
 exact k _ _ _ R1 r1 s1
theorem aK0(h:trE K (vG (.dt [])) σ H Q):tDNewT σ H Q:=by
 obtain⟨H₀,Z,ρ,τ,C,t,C',R,e,k⟩:=h;cases e;intro p hp;obtain⟨R1,s1,r1⟩:=R.alloc_cl (kd:=.dt []) (ts:=[]) (vs:=[]) (ob:=.dT []) hp ⟨rfl,rfl⟩ .nil
 exact k _ _ _ R1 r1 s1
def tZ(fk fv:FE):FE:=fun τ C=>(fk τ (C++[(.dk [],[])])).bind fun p=>(fv τ p.2).bind fun q=>(kyT p.1).bind fun k=>match dkc q.2 (.cell C.length)with
 |some (_,[],[])=>some (.cell C.length,q.2.set C.length (.dk [k],[q.1]))
 |_=>none
theorem aJQ(h:trE K (tZ fk fv) σ H Q):tDisp [(trE K fk,trE K fv)] σ H Q:=by
 obtain⟨H₀,Z,ρ,τ,C,t,C',R,e,k⟩:=h;intro p hp;unfold tZ at e;obtain⟨⟨t1,C1⟩,e1,e⟩:=aK.mp e;obtain⟨⟨t2,C2⟩,e2,e⟩:=aK.mp e;obtain⟨ky,e3,e⟩:=aK.mp e;dsimp only at e2 e;split at e
 ·rename_i e4;cases e;obtain⟨R1,s1,r1⟩:=R.alloc_cl (kd:=.dk []) (ts:=[]) (vs:=[]) (ob:=.dK []) hp ⟨rfl,rfl⟩ .nil
  refine⟨H₀,Z,_,τ,_,t1,C1,R1,e1,fun x H1 af ur h1 s2=>?_⟩
  refine⟨H₀,Z,af,τ,C1,t2,C2,ur,e2,fun y H2 ar R2 h2 s3=>?_⟩
  have r3:=(r1.step s2).step s3;obtain⟨a,vs,ev,q,hl,hH,hr⟩:=R2.dk r3 e4;have ec:=(aB9 e4).1;cases ec;cases ev;rw[hr.nil_inv]at hH
  refine⟨hH,[(ky,y)],by rw[aAX h1 e3];rfl,by simp,?_⟩
  obtain⟨w1,w2⟩:=R2.put (kd:=.dk [ky]) (ts:=[t2]) (vs:=[y]) (ob:=.dK [(ky,y)]) q (by rw[hH];trivial) ⟨rfl,rfl⟩ (.cons h2 .nil)
  exact k _ _ ar w1 (r3.step w2) (((s1.trans s2).trans s3).trans w2)
 ·cases e
def dval(C:Sto)(td tk:T):Option (Option T):=match dkc C td with
 |some x=>(kyT tk).map fun k=>vl (x.2.1.zip x.2.2) k
 |none=>(dzc C td).bind fun x=>(ktT tk).map fun k=>vl (x.2.1.zip x.2.2) k
theorem Rel.dval{H₀:Hp}{Z:Addr->Prop}{τ:TSt}{C:Sto}{x y:V}{o:Option T}(R:Rel K H₀ Z ρ τ C σ H)(h1:RT K (mask H Z ρ) ρ td x)(h2:RT K (mask H Z ρ) ρ tk y)(e:TL.dval C td tk=some o):
 ∃a w,x=.ref a/\IsD H a/\rO H a y w/\match o with
  |some t=>∃v,w=some v/\RT K (mask H Z ρ) ρ t v
  |none=>w=none:=by
 unfold TL.dval at e;split at e
 ·rename_i z hz;obtain⟨c,ks,ts⟩:=z;obtain⟨k,e1,e⟩:=aL.mp e;obtain⟨a,vs,ev,q,hl,hH,hr⟩:=R.dk h1 hz
  refine⟨a,_,ev,.inl ⟨_,.inl hH⟩,by rw[aAX h2 e1];exact rO.k hH,?_⟩
  cases o with
  |some t=>exact hr.vl e
  |none=>exact hr.vlN e
 ·obtain⟨⟨c,ks,ts⟩,hz,e⟩:=aK.mp e;obtain⟨k,e1,e⟩:=aL.mp e;obtain⟨a,vs,ev,q,hl,hH,hr⟩:=R.dz h1 hz;obtain⟨b,eb,hb⟩:=aIx h2 e1
  refine⟨a,_,ev,.inr ⟨_,hH⟩,.inr ⟨_,k,b,hH,eb,hb,rfl⟩,?_⟩
  cases o with
  |some t=>exact hr.vl e
  |none=>exact hr.vlN e
def aE7(td tk:T)(C:Sto):Option (T×Sto):=match dval C td tk with
 |some (some t)=>some (t,C)
 |_=>none
abbrev aAI(fd fk:FE):FE:=iV fd fk aE7
theorem aM1(h:trE K (aAI fd fk) σ H Q):tDGet (trE K fd) (trE K fk) σ H Q:=by
 refine iK (aEF h) fun x H1 q=>iK q fun y H2 q=>?_
 obtain⟨t1,t2,H₀,Z,ρ,τ,C,t,C',R,r,e,k⟩:=q;obtain⟨_,_,z,r1,r⟩:=r.cons_inv;cases z;obtain⟨_,_,z,r2,r⟩:=r.cons_inv;cases z;unfold aE7 at e;split at e
 ·rename_i u hu;cases e;obtain⟨a,w,ex,_,g,v,ew,rv⟩:=R.dval r1 r2 hu;subst ew
  exact⟨a,v,ex,g,k v H2 ρ R rv .refl⟩
 ·cases e
def wX(b:Bool)(tk td:T)(C:Sto):Option (T×Sto):=(dval C td tk).map fun o=>(.bl (o.isSome==b),C)
theorem aLA{x y:V}{H2:Hp}(b:Bool)(q:∃t1 t2,trV K σ [t1,t2] [y,x] (wX b t1 t2) H2 Q):∃a o,x=.ref a/\rO H2 a y o/\Q (.bl (o.isSome==b)) H2:=by
 obtain⟨t1,t2,H₀,Z,ρ,τ,C,t,C',R,r,e,k⟩:=q;obtain⟨_,_,z,r1,r⟩:=r.cons_inv;cases z;obtain⟨_,_,z,r2,r⟩:=r.cons_inv;cases z;unfold wX at e;obtain⟨o,e1,e⟩:=aL.mp e;cases e;obtain⟨a,w,ex,_,g,hw⟩:=R.dval r2 r1 e1
 refine⟨a,w,ex,g,?_⟩
 cases o with
 |some t=>obtain⟨v,ew,rv⟩:=hw;subst ew;exact k _ H2 ρ R .bl .refl
 |none=>subst hw;exact k _ H2 ρ R .bl .refl
theorem aOi(h:trE K (iV fk fd (wX true)) σ H Q):tDIn (trE K fk) (trE K fd) σ H Q:=by
 refine iK (aEF h) fun x H1 q=>iK q fun y H2 q=>?_
 obtain⟨a,o,ex,g,q⟩:=aLA true q
 exact⟨a,o,ex,g,by cases o<;>exact q⟩
theorem aMW(h:trE K (iV fk fd (wX false)) σ H Q):tDNotIn (trE K fk) (trE K fd) σ H Q:=by
 refine iK (aEF h) fun x H1 q=>iK q fun y H2 q=>?_
 obtain⟨a,o,ex,g,q⟩:=aLA false q
 exact⟨a,o,ex,g,by cases o<;>exact q⟩
def isDc(C:Sto)(t:T):Bool:=(dkc C t).isSome||(dzc C t).isSome
theorem Rel.isDc{H₀:Hp}{Z:Addr->Prop}{τ:TSt}{C:Sto}{t:T}{v:V}(R:Rel K H₀ Z ρ τ C σ H)(h:RT K (mask H Z ρ) ρ t v)(e:TL.isDc C t=true):∃a,v=.ref a/\IsD H a:=by
 unfold TL.isDc at e;rcases Bool.or_eq_true_iff.mp e with e|e
 ·obtain⟨⟨c,ks,ts⟩,e⟩:=cO.mp e;obtain⟨a,vs,ev,q,hl,hH,hr⟩:=R.dk h e
  exact⟨a,ev,.inl ⟨_,.inl hH⟩⟩
 ·obtain⟨⟨c,ks,ts⟩,e⟩:=cO.mp e;obtain⟨a,vs,ev,q,hl,hH,hr⟩:=R.dz h e
  exact⟨a,ev,.inr ⟨_,hH⟩⟩
def uK(fd fk fx:FE):FE:=fun τ C=>(fd τ C).bind fun p=>if isDc p.2 p.1=true then(fk τ p.2).bind fun q=>(fx τ q.2).bind fun r=>(dval r.2 p.1 q.1).map fun o=>(o.getD r.1,r.2)else none
theorem aKQ{fx:FE}(h:trE K (uK fd fk fx) σ H Q):tDGet2 (trE K fd) (trE K fk) (trE K fx) σ H Q:=by
 obtain⟨H₀,Z,ρ,τ,C,t,C',R,e,k⟩:=h;unfold uK at e;obtain⟨⟨t1,C1⟩,e1,e⟩:=aK.mp e;dsimp only at e;split at e
 ·rename_i hd;obtain⟨⟨t2,C2⟩,e2,e⟩:=aK.mp e;obtain⟨⟨t3,C3⟩,e3,e⟩:=aK.mp e;obtain⟨o,e4,e⟩:=aL.mp e;cases e;dsimp only at e3 e4
  refine⟨H₀,Z,ρ,τ,C,t1,C1,R,e1,fun x H1 af R1 h1 s1=>?_⟩
  obtain⟨a,ea,hD⟩:=R1.isDc h1 hd
  refine⟨a,ea,hD,?_⟩
  refine⟨H₀,Z,af,τ,C1,t2,C2,R1,e2,fun y H2 ar R2 h2 s2=>?_⟩
  refine⟨H₀,Z,ar,τ,C2,t3,C3,R2,e3,fun z H3 az R3 h3 s3=>?_⟩
  obtain⟨a',w,ex,_,g,hw⟩:=R3.dval ((h1.step s2).step s3) (h2.step s3) e4;rw[ea]at ex;cases ex
  refine⟨w,g,?_⟩
  cases o with
  |some u=>obtain⟨v,ew,rv⟩:=hw;subst ew;exact k _ H3 az R3 rv ((s1.trans s2).trans s3)
  |none=>subst hw;exact k _ H3 az R3 h3 ((s1.trans s2).trans s3)
 ·cases e
def dput(C:Sto)(td tk tv:T):Option Sto:=match dkc C td with
 |some x=>(kyT tk).bind fun k=>if x.2.1.length<lim then some (C.set x.1 (.dk (pkK k x.2.1),pvK k tv x.2.1 x.2.2))else none
 |none=>(dtc C td).bind fun x=>(ktT tk).bind fun k=>if x.2.1.length<lim then some (C.set x.1 (.dt (pkK k x.2.1),pvK k tv x.2.1 x.2.2))else none
theorem Rel.dput(hz:lim<=sizeLine){H₀:Hp}{Z:Addr->Prop}{τ:TSt}{C C':Sto}{tv:T}{x y v:V}(R:Rel K H₀ Z ρ τ C σ H)(h1:RT K (mask H Z ρ) ρ td x)(h2:RT K (mask H Z ρ) ρ tk y)(h3:RT K (mask H Z ρ) ρ tv v)(e:TL.dput C td tk tv=some C'):
 ∃a H',x=.ref a/\zQ H a y v H'/\Rel K H₀ Z ρ τ C' σ H'/\Step H H' ρ ρ:=by
 unfold TL.dput at e;split at e
 ·rename_i z xk;obtain⟨c,ks,ts⟩:=z;obtain⟨k,e1,e⟩:=aK.mp e;dsimp only at e;split at e
  ·rename_i fm;cases e;obtain⟨a,vs,ev,q,hl,hH,hr⟩:=R.dk h1 xk;obtain⟨w1,w2⟩:=R.put (kd:=.dk (pkK k ks)) (ob:=.dK ((pkK k ks).zip (pvK k v ks vs))) q (by rw[hH];trivial) ⟨aEc hl,rfl⟩ (hr.pvK (k:=k) (ks:=ks) h3)
   refine⟨a,_,ev,?_,w1,w2⟩
   rw[aAX h2 e1,<-wP hl]
   exact zQ.k hH (by rw[dG];lia)
  ·cases e
 ·obtain⟨⟨c,ks,ts⟩,xk,e⟩:=aK.mp e;obtain⟨k,e1,e⟩:=aK.mp e;dsimp only at e;split at e
  ·rename_i fm;cases e;obtain⟨a,vs,ev,q,hl,hH,hr⟩:=R.dt h1 xk;obtain⟨w1,w2⟩:=R.put (kd:=.dt (pkK k ks)) (ob:=.dT ((pkK k ks).zip (pvK k v ks vs))) q (by rw[hH];trivial) ⟨aEc hl,rfl⟩ (hr.pvK (k:=k) (ks:=ks) h3);obtain⟨b,eb,hb⟩:=aIx h2 e1
   refine⟨a,_,ev,?_,w1,w2⟩
   rw[eb,<-wP hl]
   exact zQ.t hH hb (by rw[dG];lia)
  ·cases e
def zB(fd fk fv:FE):FS:=fun τ C=>(fv τ C).bind fun p=>(fd τ p.2).bind fun q=>(fk τ q.2).bind fun r=>(dput r.2 q.1 r.1 p.1).map fun C'=>(.nx,τ,C')
theorem aMJ(hz:lim<=sizeLine)(h:trS K W (zB fd fk fv) D σ H):sDPut (trE K fd) (trE K fk) (trE K fv) D σ H:=by
 obtain⟨H₀,Z,ρ,τ,C,fl,ag,C',R,e,k⟩:=h;unfold zB at e;obtain⟨⟨t1,C1⟩,e1,e⟩:=aK.mp e;obtain⟨⟨t2,C2⟩,e2,e⟩:=aK.mp e;obtain⟨⟨t3,C3⟩,e3,e⟩:=aK.mp e;obtain⟨C4,e4,e⟩:=aL.mp e;cases e;dsimp only at e2 e3 e4
 refine⟨H₀,Z,ρ,τ,C,t1,C1,R,e1,fun v H1 af R1 h1 s1=>?_⟩
 refine⟨H₀,Z,af,τ,C1,t2,C2,R1,e2,fun x H2 ar R2 h2 s2=>?_⟩
 refine⟨H₀,Z,ar,τ,C2,t3,C3,R2,e3,fun y H3 az R3 h3 s3=>?_⟩
 obtain⟨a,H4,ex,g,R4,s4⟩:=R3.dput hz (h2.step s3) h3 ((h1.step s2).step s3) e4
 exact⟨a,H4,ex,g,k σ H4 az R4 (((s1.trans s2).trans s3).trans s4)⟩
def aAQ(g:Int->Int->Int)(fd fk fv:FE):FS:=fun τ C=>(fd τ C).bind fun p=>(fk τ p.2).bind fun q=>match dval q.2 p.1 q.1 with
 |some (some (.int i))=>(fv τ q.2).bind fun r=>match r.1 with
  | .int j=>(dput r.2 p.1 q.1 (.int (g i j))).map fun C'=>(.nx,τ,C')
  |_=>none
 |_=>none
theorem aLT(hz:lim<=sizeLine){g:Int->Int->Int}{rd:V->V->Hp->VK->Prop}(rj:∀i j H Q,Q (.int (g i j)) H->rd (.int i) (.int j) H Q)(h:trS K W (aAQ g fd fk fv) D σ H):sDAug (trE K fd) (trE K fk) (trE K fv) rd D σ H:=by
 obtain⟨H₀,Z,ρ,τ,C,fl,ag,C',R,e,k⟩:=h;unfold aAQ at e;obtain⟨⟨t1,C1⟩,e1,e⟩:=aK.mp e;obtain⟨⟨t2,C2⟩,e2,e⟩:=aK.mp e;dsimp only at e2 e;split at e
 ·rename_i i hv;obtain⟨⟨t3,C3⟩,e3,e⟩:=aK.mp e;dsimp only at e;split at e
  ·rename_i j;obtain⟨C4,e4,e⟩:=aL.mp e;cases e
   refine⟨H₀,Z,ρ,τ,C,t1,C1,R,e1,fun x H1 af R1 h1 s1=>?_⟩
   refine⟨H₀,Z,af,τ,C1,t2,C2,R1,e2,fun y H2 ar R2 h2 s2=>?_⟩
   obtain⟨a,w,ex,_,gg,v,ew,rv⟩:=R2.dval (h1.step s2) h2 hv;subst ew
   refine⟨a,v,ex,gg,?_⟩
   refine⟨H₀,Z,ar,τ,C2,_,C3,R2,e3,fun z H3 az R3 h3 s3=>?_⟩
   rw[rv.int_inv,h3.int_inv]
   refine rj i j H3 _ ?_
   obtain⟨a',H4,zm,g4,R4,s4⟩:=R3.dput hz ((h1.step s2).step s3) (h2.step s3) (v:=.int (g i j)) (.int) e4;rw[ex]at zm;cases zm
   exact⟨H4,g4,k σ H4 az R4 (((s1.trans s2).trans s3).trans s4)⟩
  ·cases e
 ·cases e
end
noncomputable def od{α:Type}:List α->List α
 |_::y::r=>y::od r
 |_=>[]
def aGb(f:FE):FN:=fun τ C=>(f τ C).bind fun p=>(liT p.2 p.1).map fun ts=>(od ts,p.2)
section
variable {K:aO}{W:XW}{σ:St}{H:Hp}{Q:VK}{D:Ends}{M:Hp}{ρ:Rho}
variable{H1:Hp}{af:Rho}
theorem RTs.od:∀{ts:List T}{vs:List V},RTs K M ρ ts vs->RTs K M ρ (TL.od ts) (TL.od vs)
 | [],_,h=>by rw[h.nil_inv];exact .nil
 | [t],vs,h=>by
   obtain⟨v,r,rfl,_,h2⟩:=h.cons_inv;rw[h2.nil_inv];exact .nil
 |t::u::ts,vs,h=>by
  obtain⟨v,r,rfl,_,h2⟩:=h.cons_inv;obtain⟨w,r,rfl,h3,h4⟩:=h2.cons_inv;unfold TL.od
  exact .cons h3 (RTs.od h4)
theorem aNZ{f:FE}(h:trN K (aGb f) σ H Q):trE K f σ H fun x H1=>∃a xs,x=.ref a/\SqL K H1 a xs/\∀p,H1 p=none->Q (.ref p) (upd H1 p (.lst (od xs))):=by
 obtain⟨H₀,Z,ρ,τ,C,ys,C',R,e,q⟩:=h;unfold aGb at e;obtain⟨⟨t,C1⟩,e1,e⟩:=aK.mp e;obtain⟨ts,e2,e⟩:=aL.mp e;cases e
 refine⟨H₀,Z,ρ,τ,C,t,_,R,e1,fun v H1 af R1 h1 s1=>?_⟩
 obtain⟨a,vs,ev,qa,r⟩:=R1.li h1 e2
 exact⟨a,vs,ev,qa,fun p hp=>q p H1 af _ R1 hp r.od s1⟩
def Ite(K:aO)(l:Addr):It:=
 ⟨fun i H=>∃xs x,SqL K H l xs/\xs[i]?=some x,fun i H v H'=>∃p x,H p=none/\v=.ref p/\H'=upd H p (.tup [.int i,x])/\∀xs,SqL K H l xs->xs[i]?=some x,fun i H=>∃xs,SqL K H l xs/\xs.length<=i⟩
def iEnum(K:aO)(t:TA):TI:=fun σ H R=>t σ H fun vs H1=>∃l,vs=[.ref l]/\(∃xs,SqL K H1 l xs)/\R (Ite K l) H1
noncomputable def aBj(ts:List T):List T:=ts.zipIdx.map fun p=>.tup [.int p.2,p.1]
theorem aHz{ts:List T}{i:Nat}:(aBj ts)[i]?=(ts[i]?).map fun t=>.tup [.int i,t]:=by
 unfold aBj;rw[bH,aPe];cases ts[i]?<;>simp
theorem aH1{ts:List T}:(aBj ts).length=ts.length:=by simp[aBj]
theorem aHH{Z:Addr->Prop}{H₀:Hp}{τ:TSt}{C:Sto}{σ:L2.St}{t:T}{ts:List T}{a:Addr}(R1:Rel K H₀ Z af τ C σ H1)(h1:RT K (mask H1 Z af) af t (.ref a))(e1:liT C t=some ts):
 Wlk K (Ite K a) Z H1 af (aBj ts) (stays t ts):=by
 refine⟨fun i t' H₀ Z' ae ag C' σ H ht R' sm ix ax _=>?_,fun H₀ Z' ae ag C' σ H R' sm ix ax _=>?_⟩
 ·obtain⟨ws,q1,r1⟩:=lU R1 h1 e1 R' sm ix ax;rw[aHz]at ht;obtain⟨u,z1,rfl⟩:=aL.mp ht;obtain⟨v1,lm,wj⟩:=r1.get z1
  refine⟨⟨ws,v1,q1,lm⟩,fun x H' hy=>?_⟩
  obtain⟨p,y,hp,rfl,rfl,k1⟩:=hy;have w1:=k1 ws q1;rw[lm]at w1;cases w1
  exact⟨fun b u h=>by rw[fP (fun z=>by rw[z,hp]at h;cases h)];exact h,R'.alloc_tup hp (.cons .int (.cons wj .nil))⟩
 ·obtain⟨ws,q1,r1⟩:=lU R1 h1 e1 R' sm ix ax
  exact⟨ws,q1,by rw[r1.length,aH1];exact bF _⟩
def yA(f:FE)(g:FG)(F:FS):FS:=fun τ C=>(f τ C).bind fun p=>(liT p.2 p.1).bind fun ts=>kK (stays p.1 ts) g F (aBj ts) τ p.2
theorem aM6{f:FE}{g:FG}{F:FS}(h:trS K W (yA f g F) D σ H):aIZ (iEnum K (trA K (eX f fH))) (trG K g) (trS K W F) D σ H:=by
 obtain⟨H₀,Z,ρ,τ,C,fl,ag,C',R,e,k⟩:=h;unfold yA at e;obtain⟨⟨t,C1⟩,e1,e⟩:=aK.mp e;obtain⟨ts,e2,e⟩:=aK.mp e
 refine⟨H₀,Z,ρ,τ,C,[t],C1,R,by simp[eX,fH,e1],fun vs H1 af R1 h1 s1=>?_⟩
 obtain⟨v,r,rfl,q1,q2⟩:=h1.cons_inv;rw[q2.nil_inv];obtain⟨a,vs,ea,qa,ra⟩:=R1.li q1 e2;subst ea
 exact⟨a,rfl,⟨vs,qa⟩,v9 R1 (pF e2) e (aHH R1 q1 e2) fun ah H' ae R' s'=>k ah H' ae R' (s1.trans s')⟩
def mrgK{α:Type}:List Key->List α->List Key×List α->List Key×List α
 |k::ks,v::vs,x=>mrgK ks vs (pkK k x.1,pvK k v x.1 x.2)
 |_,_,x=>x
theorem aEA:∀{ks':List Key}{vs':List V}{ks:List Key}{vs:List V},ks.length=vs.length->ks'.length=vs'.length->
 pS (ks.zip vs) (ks'.zip vs')=(mrgK ks' vs' (ks,vs)).1.zip (mrgK ks' vs' (ks,vs)).2/\(mrgK ks' vs' (ks,vs)).1.length=(mrgK ks' vs' (ks,vs)).2.length
 | [],_,ks,vs,h,_=>by unfold mrgK;exact⟨rfl,h⟩
 |_::_,[],ks,vs,h,h'=>by cases h'
 |k::ks',v::vs',ks,vs,h,h'=>by
  rw[cD];show pS (putK (ks.zip vs) k v) (ks'.zip vs')=_/\_;rw[wP h];unfold mrgK
  exact aEA (aEc h) (by simpa using h')
theorem RTs.mrgK:∀{ks':List Key}{cg:List T}{vs':List V}{ks:List Key}{ts:List T}{vs:List V},RTs K M ρ cg vs'->RTs K M ρ ts vs->(TL.mrgK ks' cg (ks,ts)).1=(TL.mrgK ks' vs' (ks,vs)).1/\RTs K M ρ (TL.mrgK ks' cg (ks,ts)).2 (TL.mrgK ks' vs' (ks,vs)).2
 | [],_,_,ks,ts,vs,_,h=>by unfold TL.mrgK;exact⟨rfl,h⟩
 |_::_,[],vs',ks,ts,vs,h',h=>by rw[h'.nil_inv];unfold TL.mrgK;exact⟨rfl,h⟩
 |k::ks',t::cg,vs',ks,ts,vs,h',h=>by
  obtain⟨v,r,rfl,h1,h2⟩:=h'.cons_inv;unfold TL.mrgK
  exact RTs.mrgK h2 (h.pvK (k:=k) (ks:=ks) h1)
def tDUpd(td te:TE):TE:=fun σ H Q=>td σ H fun x H1=>∃a,x=.ref a/\IsD H1 a/\te σ H1 fun y H2=>∃b kvs more,y=.ref b/\a≠b/\H2 a=some (.dK kvs)/\H2 b=some (.dK more)/\kvs.length+more.length<=sizeLine/\Q .non (upd H2 a (.dK (pS kvs more)))
def zD(fd fe:FE):FE:=fun τ C=>(fd τ C).bind fun p=>if isDc p.2 p.1=true then(fe τ p.2).bind fun q=>(dkc q.2 p.1).bind fun x=>(dkc q.2 q.1).bind fun y=>if x.1≠y.1/\x.2.1.length+y.2.1.length<=lim then
 some (.non,q.2.set x.1 (.dk (mrgK y.2.1 y.2.2 (x.2.1,x.2.2)).1,(mrgK y.2.1 y.2.2 (x.2.1,x.2.2)).2))else none else none
theorem aMu(hz:lim<=sizeLine){fd fe:FE}(h:trE K (zD fd fe) σ H Q):tDUpd (trE K fd) (trE K fe) σ H Q:=by
 obtain⟨H₀,Z,ρ,τ,C,t,C',R,e,k⟩:=h;unfold zD at e;obtain⟨⟨t1,C1⟩,e1,e⟩:=aK.mp e;dsimp only at e;split at e
 ·rename_i hd;obtain⟨⟨t2,C2⟩,e2,e⟩:=aK.mp e;obtain⟨⟨c,ks,ts⟩,e3,e⟩:=aK.mp e;obtain⟨⟨c',ks',cg⟩,e4,e⟩:=aK.mp e;dsimp only at e3 e4 e;split at e
  ·rename_i hl;cases e
   refine⟨H₀,Z,ρ,τ,C,t1,C1,R,e1,fun x H1 af R1 h1 s1=>?_⟩
   obtain⟨a,ea,hD⟩:=R1.isDc h1 hd
   refine⟨a,ea,hD,?_⟩
   refine⟨H₀,Z,af,τ,C1,t2,C2,R1,e2,fun y H2 ar R2 h2 s2=>?_⟩
   obtain⟨a',vs,ev,q,kl,hH,hr⟩:=R2.dk (h1.step s2) e3;rw[ea]at ev;cases ev;obtain⟨b,vs',gy,q',ly,vx,xz⟩:=R2.dk h2 e4;have ox:a≠b:=fun z=>by
    subst z;obtain⟨i1,j1⟩:=aQ.mp q;obtain⟨i2,j2⟩:=aQ.mp q'
    exact hl.1 ((aPz R2.nd).mp (j1.trans j2.symm))
   refine⟨b,_,_,gy,ox,hH,vx,by rw[dG,dG];lia,?_⟩
   obtain⟨z1,z2⟩:=aEA (ks':=ks') (vs':=vs') kl ly;obtain⟨z3,z4⟩:=RTs.mrgK (ks':=ks') (ks:=ks) xz hr;rw[z1];obtain⟨w1,w2⟩:=R2.put (kd:=.dk (mrgK ks' cg (ks,ts)).1) (ob:=.dK ((mrgK ks' vs' (ks,vs)).1.zip (mrgK ks' vs' (ks,vs)).2)) q (by rw[hH];trivial) ⟨by rw[z3];exact z2,by rw[z3]⟩ z4
   exact k _ _ ar w1 .non ((s1.trans s2).trans w2)
  ·cases e
 ·cases e
def Itd(a:Addr)(ob:Obj)(kvs:List (List Key×V)):It:=
 ⟨fun i H=>H a=some (.frz ob (.dT kvs))/\i<kvs.length,fun i H x H'=>H'=H/\∃b k v,x=.ref b/\kvs[i]?=some (k,v)/\H b=some (.tup (k.map kV)),fun i H=>H a=some (.frz ob (.dT kvs))/\kvs.length<=i⟩
def iDict(B:Addr->Prop)(t:TE):TI:=fun σ H R=>t σ H fun x H1=>∃a kvs,x=.ref a/\H1 a=some (.dT kvs)/\(B a->∀ob,R (Itd a ob kvs) (upd H1 a (.frz ob (.dT kvs))))
def thaw(B:Addr->Prop)(t:(VK->Prop))(Q:VK):Prop:=t fun v H=>∃a ob u,B a/\H a=some (.frz ob u)/\Q v (upd H a u)
noncomputable def kT:Key->T
 | .inl i=>.int i
 | .inr x=>.str x
def aGQ(k:List Key):T:=.tup (k.map kT)
theorem aOw{k:Key}:RT K M ρ (kT k) (kV k):=by cases k<;>(unfold kT RT;rfl)
theorem aHD:∀{k:List Key},RTs K M ρ (k.map kT) (k.map kV)
 | []=>.nil
 |k::ks=>.cons aOw aHD
theorem aGu{Z:Addr->Prop}{a:Addr}{ob:Obj}{ks:List (List Key)}{vs:List V}(hl:ks.length=vs.length)(h1:H1 a=some (.frz ob (.dT (ks.zip vs)))):Wlk K (Itd a ob (ks.zip vs)) Z H1 af (ks.map aGQ) (fun _=>True):=by
 have hz:(ks.zip vs).length=ks.length:=by rw[dG];lia
 refine⟨fun i t' H₀ Z' ae ag C' σ H ht R' sm ix ax fz=>?_,fun H₀ Z' ae ag C' σ H R' sm ix ax fz=>?_⟩
 ·rw[bH]at ht;obtain⟨k,hk,rfl⟩:=aL.mp ht
  refine⟨⟨fz _ _ _ h1,by rw[hz];exact(aQ.mp hk).1⟩,fun x H' hy=>?_⟩
  obtain⟨rfl,b,k',v,rfl,hk',hb⟩:=hy;obtain⟨z1,_⟩:=dX.mp hk';rw[hk]at z1;cases z1
  refine⟨.refl _,?_⟩
  unfold aGQ RT
  refine⟨b,_,rfl,l4 (fun z=>?_) (fun z=>?_) hb,aHD⟩
  ·have:=R'.zd b z;rw[hb]at this;exact this
  ·have:=R'.cel_some z;rw[hb]at this;exact this
 ·exact⟨fz _ _ _ h1,by rw[aS,hz];exact bF _⟩
def tX(f:FE)(k:Nat)(is:List Nat)(g:FG)(tc:FB)(fe:FE):FN:=fun τ C=>(f τ C).bind fun p=>(dtc p.2 p.1).bind fun x=>if x.2.1.length<lim/\x.2.1.length=x.2.2.length then
 (jX g tc fe (scT k is τ) (x.2.1.map aGQ) (p.2.set x.1 (.dz x.2.1,x.2.2))).bind fun r=>match r.2[x.1]?with
  |some (.dz ks,ts)=>some (r.1,r.2.set x.1 (.dt ks,ts))
  |_=>none else none
theorem aKB{f:FE}{k:Nat}{is:List Nat}{g:FG}{tc:FB}{fe:FE}{B:Addr->Prop}(hg:Own k g)(h:trN K (tX f k is g tc fe) σ H Q):thaw B (aAS (iDict B (trE K f)) (scV k is) (trG K g) (trT K tc) (trE K fe) σ H) Q:=by
 obtain⟨H₀,Z,ρ,τ,C,ys,C',R,e,q⟩:=h;unfold tX at e;obtain⟨⟨t,C1⟩,e1,e⟩:=aK.mp e;obtain⟨⟨c,ks,ts⟩,e2,e⟩:=aK.mp e;dsimp only at e2 e;split at e
 ·rename_i hl;obtain⟨⟨zs,C2⟩,e3,e⟩:=aK.mp e;dsimp only at e;split at e
  ·rename_i ks' cg e4;cases e
   refine⟨H₀,Z,ρ,τ,C,t,C1,R,e1,fun v H1 af R1 h1 s1=>?_⟩
   obtain⟨a,vs,ev,qa,hlv,hH,hr⟩:=R1.dt h1 e2;subst ev
   refine⟨a,_,rfl,hH,fun hB ob D hD=>?_⟩
   obtain⟨Rf,sf⟩:=R1.put (kd:=.dz ks) (ob:=.frz ob (.dT (ks.zip vs))) qa (by rw[hH];trivial) ⟨hlv,ob,rfl⟩ hr
   refine tP (Q:=fun v H=>∃a ob u,B a/\H a=some (.frz ob u)/\Q v (upd H a u)) (P:=fun _=>True) Rf hg (aGu hlv i6) trivial (fun _ _ _ _=>trivial) (by simpa using hl.1) e3 hD fun p H' ae ws R' hp rv s'=>?_
   have nl:=s'.idx _ _ qa;have hf:=s'.fz a ob _ i6;obtain⟨x,us,o2,c1,c2,c4,c3⟩:=R'.cel c a nl;rw[e4]at c1;cases c1;rw[hf]at c2;cases c2;obtain⟨ly,ob2,z⟩:=c4;have z2:ks.zip vs=ks'.zip us:=by
    injection z with _ z
    injection z
   have wy:a≠p:=fun z=>by rw[z,hp]at hf;cases hf
   refine⟨a,ob,.dT (ks.zip vs),hB,by rw[fP wy];exact hf,?_⟩
   obtain⟨Rt,em⟩:=R'.put0 (kd:=.dt ks') (ob:=.dT (ks.zip vs)) nl ⟨ly,by rw[z2]⟩ c3;have ua:upd (upd H' p (.lst ws)) a (.dT (ks.zip vs))=upd (upd H' a (.dT (ks.zip vs))) p (.lst ws):=by
    funext b;unfold upd;by_cases h1:b=a
    ·subst h1;rw[if_pos rfl,if_neg wy,if_pos rfl]
    ·by_cases h2:b=p
     ·rw[if_neg h1,if_pos h2,if_pos h2]
     ·rw[if_neg h1,if_neg h2,if_neg h2,if_neg h1]
   rw[ua];have am:a∈af:=bC qa;have am':a∈ae:=bC nl
   refine q p _ ae ws Rt (by rw[fP (Ne.symm wy)];exact hp) (by rw[em];exact rv) (s1.trans ⟨fun b o z n=>?_,s'.pre,fun b o u z=>?_⟩)
   ·have ne:b≠a:=fun z=>n (by rw[z];exact am)
    have:=s'.kept b o (by rw[fP ne];exact z) n
    exact⟨this.1,by rw[fP ne];exact this.2⟩
   ·have ne:b≠a:=fun y=>by rw[y,hH]at z;cases z
    rw[fP ne]
    exact s'.fz b o u (by rw[fP ne];exact z)
  ·cases e
 ·cases e
end
end TL
namespace TL
open PySem PySem.Spec PyProof.Rows L2
structure vM(P:Program)(w:World)(K:aO)(mg:Str->Option Value)(base:Heap)(k:Nat)(x:Str)(n:Nat)(G:List T->Sto->Option (T×Sto)):Prop where
 ex:∃f fd ps,mQ P w K mg base CX0 k f fd ps (spS K n G)/\mg x=some (.ref f)/\cG K (.ref f)=true/\Binds K fd ps []
structure nZ(P:Program)(w:World)(K:aO)(mg:Str->Option Value)(base:Heap)(k:Nat)(cls:String)(m:Str)(n:Nat)(G:List T->Sto->Option (T×Sto)):Prop where
 ex:∃C f fd ps,bX K mainGlobals (Str.ofString cls)=some (some (.ref C))/\Cls K C/\Meth K C m f/\mQ P w K mg base CX0 k f fd ps (spS K n G)/\Binds K fd ps []
structure aFv(P:Program)(w:World)(K:aO)(mg:Str->Option Value)(base:Heap)(k:Nat)(cls:String)(n:Nat)(G:List T->Sto->Option (T×Sto))(gk:List T)(bh:List V):Prop where
 ex:∃C f fd ps ds,bX K mainGlobals (Str.ofString cls)=some (some (.ref C))/\mg (Str.ofString cls)=some (.ref C)/\Mk K C f/\mQ P w K mg base CX0 k f fd ps (spS K n G)/\Binds K fd ps ds/\Vals bh ds
 rt:∀M ρ,RTs K M ρ gk bh
section
variable {X:Cx}{e o:Expr}{es:List Expr}{fo fa:FE}{fr:FN}{p pos ao al:Pos}
variable{G:List T->Sto->Option (T×Sto)}{cls:String}{pl:Sem Bool}
theorem k6{k n:Nat}{x:Str}(D:vM X.prog X.w X.K X.mg X.base k x n G)(hr:Room k X.A)(ha:QA X (e::es) fr)(hg:Gl X x:=by rfl)(cc:(x==("__debug__":Str))=false:=by decide)
 (he:starEach (e::es) X.env=(false,eval e X.env)::starEach es X.env:=by rfl)(av:(backTo pos (starEach es X.env)).any (·.1)=false:=by rfl):QE X (.Call (.Name x p) (e::es) [] pos) (k7 n G fr):=by
 obtain⟨f,fd,ps,F,hm,hk,hb⟩:=D.ex
 exact(sJ (E:=fun _ _ _=>False) F hr hg hm hk hb .nil (fun _ _ _ _ _ _ _ h=>h.elim) ha cc he av).imp fun _ _ _=>aKX
theorem zK{k n:Nat}{m:Str}(D:nZ X.prog X.w X.K X.mg X.base k cls m n G)(hr:Room k X.A)(ho:QE X o fo)(ha:QA X (e::es) fr)
 (bc:starEach (e::es) X.env=(false,eval e X.env)::starEach es X.env:=by rfl)(av:(backTo pos (starEach es X.env)).any (·.1)=false:=by rfl)
 (ht:eval (.Call (.Attribute o m al) (e::es) [] pos) X.env=(do
  let ov<-eval o X.env
  standAt al.atName
  let (f,first)<-holding [ov] (getMethod ov m pl)
  callWith pos f first (backTo pos (starEach (e::es) X.env)) (backToKw pos (keywordEach [] X.env))):=by rfl):QE X (.Call (.Attribute o m al) (e::es) [] pos) (kE cls m n G fo fr):=by
 obtain⟨C,f,fd,ps,hc,c,hm,F,hb⟩:=D.ex
 exact(aJG (E:=fun _ _ _=>False) (pl:=pl) ho c hm F hr hb .nil (fun _ _ _ _ _ _ _ h=>h.elim) ha bc av ht).imp fun _ _ _=>aHZ hc
theorem aB0{k n:Nat}{m:Str}(D:nZ X.prog X.w X.K X.mg X.base k cls m n G)(hr:Room k X.A)(ho:QE X o fo)
 (ht:eval (.Call (.Attribute o m al) [] [] pos) X.env=(do
  let ov<-eval o X.env
  standAt al.atName
  let (f,first)<-holding [ov] (getMethod ov m pl)
  callWith pos f first (backTo pos (starEach [] X.env)) (backToKw pos (keywordEach [] X.env))):=by rfl):QE X (.Call (.Attribute o m al) [] [] pos) (kE cls m n G fo fH):=by
 obtain⟨C,f,fd,ps,hc,c,hm,F,hb⟩:=D.ex
 refine(aIU (E:=fun _ _ _=>False) (pl:=pl) ho c hm F hr hb .nil (fun _ _ _ _ _ _ _ h=>h.elim) ht).imp fun _ _ _ h=>?_
 exact iK (aHZ hc h) fun x H1 ⟨a,dx,fs,q1,q2,q3,q4⟩=>⟨a,dx,fs,q1,q2,q3,aLE q4⟩
theorem aBn{k n:Nat}{gk:List T}{bh:List V}(D:aFv X.prog X.w X.K X.mg X.base k cls n G gk bh)(hr:Room (k+1) X.A)(ha:QA X (e::es) fr)(hg:Gl X (Str.ofString cls):=by rfl)
 (cc:(Str.ofString cls==("__debug__":Str))=false:=by decide)(he:starEach (e::es) X.env=(false,eval e X.env)::starEach es X.env:=by rfl)(av:(backTo pos (starEach es X.env)).any (·.1)=false:=by rfl):
 QE X (.Call (.Name (Str.ofString cls) p) (e::es) [] pos) (sX cls n G gk fr):=by
 obtain⟨C,f,fd,ps,ds,hc,hm,M,F,hb,hd⟩:=D.ex
 exact(aKS (E:=fun _ _ _=>False) M F hr hg hm hb hd (fun _ _ _ _ _ _ _ h=>h.elim) ha cc he av).imp fun _ _ _=>aMM hc D.rt
end
section
variable {X:Cx}{o i e f value k v:Expr}{fo fi fe fx:FE}{p pos ao aw al ak:Pos}
theorem aJB:QE X (.Dict [] [] pos) (vG (.dk [])):=aH0.imp fun _ _ _=>aKw
theorem aK2:QE X (.Dict [] [] pos) (vG (.dt [])):=aI6.imp fun _ _ _=>aK0
theorem aK3(hk:QE X k fi)(hv:QE X v fe):QE X (.Dict [some k] [v] pos) (tZ fi fe):=(aKb (aIH hk hv aKA) rfl rfl (by simp) (by simp)).imp fun _ _ _=>aJQ
theorem aA3(hu:X.A.units+20<cLine)(ho:QE X o fo)(hi:QE X i fi)(hs:aMs i:=by exact fun _ _=>rfl):QE X (.Subscript o i pos) (aAI fo fi):=(aJj (by lia) ho hi hs).imp fun _ _ _=>aM1
theorem aJL(hu:X.A.units+20<cLine)(ho:QE X o fo)(he:QE X e fe)(hf:QE X f fx)(m:M2 X o "get" al e f ak:=by exact⟨rfl,rfl,rfl,rfl⟩):QE X (.Call (.Attribute o "get" al) [e,f] [] ak) (uK fo fe fx):=
 (aHk (by lia) ho he hf m).imp fun _ _ _=>aKQ
theorem aEt(hu:X.A.units+20<cLine)(ho:QE X o fo)(hi:QE X i fi)(hv:QE X value fe)(hs:swapsWith value (some (.Subscript o i ao)) pos.line X.env=pure false:=by rfl):QS X (.Assign [.Subscript o i ao] value pos) (zB fo fi fe):=(aKI (by lia) ho hi hv hs).imp fun _ _ _=>aMJ lF
theorem aDS(hu:X.A.units+20<cLine)(ho:QE X o fo)(hi:QE X i fi)(hv:QE X value fe)(ha:∀ov iv new,augStore i ov iv new=(do holding [new,ov,iv] (setItem ov iv new);release [new,ov,iv] [];pure .next):=by intro _ _ _;rfl):
 QS X (.AugAssign (.Subscript o i aw) .Sub value pos) (aAQ (fun i j=>i - j) fo fi fe):=(aJf (by lia) ho hi hv aIl ha).imp fun _ _ _=>aLT lF fun i j H Q q=>⟨i,j,rfl,rfl,q⟩
theorem aOp(hu:X.A.units+20<cLine)(hi:QE X i fi)(ho:QE X o fo)(hm:behindInMarks .In o=false:=by rfl):QT X (.Compare i [.In] [o] pos) (iH (iV fi fo (wX true))):=(aIr (aME (by lia) hi ho) hm).imp fun _ _ _=>aIk fun _ _ _=>aOi
theorem aHN(hu:X.A.units+20<cLine)(hi:QE X i fi)(ho:QE X o fo)(hm:behindInMarks .NotIn o=false:=by rfl):QT X (.Compare i [.NotIn] [o] pos) (iH (iV fi fo (wX false))):=(aIr (aFF (by lia) hi ho) hm).imp fun _ _ _=>aIk fun _ _ _=>aMW
end
theorem aF3{P:Program}{w:World}{K:aO}{ts:List Expr}{k:Nat}{pos:Pos}(e it l:Addr)(D:e≠it):
 Turn P w K (.Tuple ts k pos) (Ite K l) [e,it] e (fun i h=>(∃old,IsEnum h e it i old)/\h.IsListIter it l i) where
 mem:=by simp
 obj:=fun i h st b hb=>by
  obtain⟨⟨old,he⟩,⟨o1,e1,c1,d1⟩⟩:=st;simp only[bE,cA,or_false]at hb;rcases hb with rfl|rfl
  ·exact⟨_,he,fun v z=>by simp at z⟩
  ·exact⟨o1,e1,fun v z=>by rw[d1]at z;cases z⟩
 keep:=fun i h h' st kk=>by
  obtain⟨⟨old,he⟩,h1⟩:=st
  exact⟨⟨old,kk e (by simp) _ he⟩,h1.at fun o e'=>kk it (by simp) o e'⟩
 item:=by
  intro X hP hw hK hc i aa s σ H E I hf st hg;subst hP hw hK;obtain⟨⟨old,he⟩,h1⟩:=st;obtain⟨xs,x,q1,g1⟩:=hg;obtain⟨its,rv,p1,z1⟩:=I.list q1;obtain⟨u,hu,ru⟩:=rv.get g1
  refine wpAny_pyNext_enum_item he h1 p1.isList (x:=u) (by simpa using hu) D fun h' a1 a2 a3 a4 hk=>?_
  refine⟨_,rfl,wpAny_letOwnedTupleGo_enum (s:={s with heap:=h',toks:=s.toks+1}) a1 fun ju yz bz=>?_⟩
  have bd:e≠s.heap.objs.size:=bW (Heap.lt_size he);have kk:∀b ob,b∉[e,it]->s.heap.get? b=some ob->ju.get? b=some ob:=fun b ob hb q=>by
   simp only[bE,cA,or_false,not_or]at hb
   exact(bz.2 b hb.1).trans (hk b ob hb.1 hb.2 q)
  have hT:ju.get? s.heap.objs.size=some {cls:=.type "tuple",data:=.seq #[.int i s.toks,u]}:=(bz.2 _ (Ne.symm bd)).trans a3;have I1:Inv X aa σ (upd H s.heap.objs.size (.tup [.int i,x])) {s with heap:=ju,toks:=s.toks+1}:=aCl I hf kk (bF _)
   (show jP X.prog X.w _ ju _ (.tup [.int i,x])from⟨by show 2<=sizeLine;decide,[.int i s.toks,u],.cons ⟨_,rfl⟩ (.cons ru .nil),⟨_,hT,rfl,_,rfl⟩⟩)
  refine⟨.ref s.heap.objs.size,_,I1,rfl,⟨_,x,I.fresh,rfl,rfl,fun zs hz=>by rw[I.list_inj hz q1];exact g1⟩,?_,fun b hb=>?_⟩
  ·exact⟨⟨u,by exact_mod_cast yz⟩,a2.at fun o q=>(bz.2 _ (Ne.symm D)).trans q⟩
  ·have ue:=(hf b hb).1;rw[fP]
   ·exact ue
   ·rintro rfl;have:∃o,s.heap.get? s.heap.objs.size=some o:=by
     simp only[bE,cA,or_false]at hb;obtain⟨o1,e1,_⟩:=h1;rcases hb with h|h
     ·rw[h];exact⟨_,he⟩
     ·rw[h];exact⟨_,e1⟩
    obtain⟨o,q⟩:=this
    exact absurd (Heap.lt_size q) (cP _)
 done:=by
  intro X hP hw hK hc i aa s σ H E I hf st hg;subst hP hw hK;obtain⟨⟨old,he⟩,h1⟩:=st;obtain⟨xs,q1,tz⟩:=hg;obtain⟨its,rv,p1,z1⟩:=I.list q1;have l1:=rv.length
  refine wpAny_pyNext_enum_end (I.ok.hd hc) he h1 p1.isList (by simp;lia) fun h' hk=>⟨rfl,aAC (t':=s.toks) I hf fun b ob hb q=>?_⟩
  simp only[bE,cA,or_false,not_or]at hb
  exact hk b ob hb.2 q
 self:=fun _ _ _ _ _ st h=>wpAny_pyIter_enum st.1.choose_spec h
section
variable {X:Cx}{a b e:Expr}{es:List Expr}{fa fb:FE}{fr:FN}{pos p p2:Pos}
variable{aw:Pos}
theorem aKT{ts:List Expr}{k:Nat}{ta:TA}(hg:Gl X "enumerate")(hm:X.mg "enumerate"=none)(ha:PA X [a] ta)(hs:starEach [a] X.env=[(false,eval a X.env)]:=by rfl):
 PI X (.Tuple ts k aw) (.Call (.Name "enumerate" p) [a] [] pos) (iEnum X.K ta):=by
 intro aa s σ H R I h
 refine Call_ (pQ I hg hm boot_enumerate (dD (thn (ha pos aa s σ H _ I h) fun us s1 ⟨vs,H1,I1,r1,q1⟩=>?_) (by rw[hs];rfl) rfl))
 obtain⟨l,ev,⟨xs,qx⟩,q⟩:=q1;subst ev;obtain⟨u,rfl,ru⟩:=r1.one;cases ru;obtain⟨its,rv,p1,z1⟩:=I1.list qx
 refine call_enumerate_list p1.isList fun h' he hit hsz hk=>wpAny_pyIter_enum he ?_
 have I2:Inv X aa σ H1 {s1 with heap:=h'}:=I1.kept (t':=s1.toks) hk
 refine⟨s1.heap.objs.size+1,[s1.heap.objs.size+1,s1.heap.objs.size],_,_,H1,rfl,I2,aF3 _ _ l (Nat.succ_ne_self _),⟨⟨_,he⟩,hit⟩,fun b hb=>?_,q⟩
 have hle:s1.heap.objs.size<=b:=by
  simp only[bE,cA,or_false]at hb;rcases hb with rfl|rfl
  ·exact aOT _ _
  ·exact bF _
 exact I1.fpOk hle (I1.hok.fresh hle)
theorem aE3{ts:List Expr}{k:Nat}{bj:List Stmt}{g:FG}{F:FS}(hm:X.mg "enumerate"=none)(hc:X.calm=true)(hi:QE X a fa)(hg:QG X (.Tuple ts k aw) g)(hb:QSs X bj F)(cb:Gl X "enumerate":=by rfl)
 (bc:starEach [a] X.env=[(false,eval a X.env)]:=by rfl)(hp:PassesOwn (model X.prog X.w) X.A X.env X.xe:=by first|exact PassesOwn.never|exact PassesOwn.leaving|exact PassesOwn.looking)
 (hs:∀x,foldedSetIterable (.Call (.Name "enumerate" p) [a] [] p2) X.env x=pure x:=by intro _;rfl):QS X (.For (.Tuple ts k aw) (.Call (.Name "enumerate" p) [a] [] p2) bj [] pos) (yA fa g F):=
 (aAU hp hc (aKT cb hm (eV hi fA (by rw[bc];rfl)) bc) hg hb hs).imp fun _ _ _=>aM6
section
variable {own frs:List Str}{is:List Nat}{scope:Scope}{cl:List (Str×Addr)}{ts:List Expr}{tk:Nat}{aw:Pos}{bd:Expr}{ifs:List Expr}{fe:FE}{g:FG}{gt:FB}
end
end
section
variable {X:Cx}{o e:Expr}{al ak:Pos}{td te:TE}{fo fe:FE}
theorem aKF(ho:PE X o td)(he:PE X e te)(m:M1 X o "update" al e ak):PE X (.Call (.Attribute o "update" al) [e] [] ak) (tDUpd td te):=by
 intro aa s σ H Q I h
 refine wpAny_Call_method m.base m.few m.line PySem.F.plainAttrs_dict PySem.F.slot_dict_update PySem.F.type_dict_update (thn (ho aa s σ H _ I h) fun u s1 zz=>?_)
 obtain⟨x,H1,I1,rx,a,ex,d,q1⟩:=zz;subst ex;obtain rfl:u=Value.ref a:=rx;obtain⟨t1,t2,_⟩:=aHs I1 d
 refine⟨t1,t2,?_⟩
 rw[m.trees]
 refine Calls.callWith_builtin rfl (Calls.evalArgs_plain (Calls.spliced_cons (thn (he aa s1 σ H1 _ I1 q1) fun iv s2 ⟨y,H2,I2,ry,b,kvs,more,ey,ox,ha,hb,hl,q2⟩=>Calls.spliced_nil ?_)))
 subst ey;obtain rfl:iv=Value.ref b:=ry;obtain⟨z,hd,vs,rel,dd⟩:=aFc I2.hok ha;obtain⟨z',jg,vs',qk,jk⟩:=aFc I2.hok hb
 refine call_meetsIn PySem.F.slot_dict_update dd.typeIs PySem.F.entry_dict_update (PySem.F.args_dict_update_2 _ _) (meets_dict_update (iW X.prog X.w) a b ox jg)
  ⟨vs,vs',dd,jk,by rw[<-rel.length,<-qk.length];exact hl,fun h' d1 d2 hs=>⟨.non,_,?_,rfl,q2⟩⟩
 have hq:∃q,h'.get? a=some q:=let ⟨q,_,_,hq,_⟩:=d1;⟨q,hq⟩
 exact wB (t':=s2.toks) I2 (by rw[ha];exact True.intro) hs hq (aDc (cB (nX _ _) hl) hd (qk.merge rel) d1)
theorem aNb(ho:QE X o fo)(he:QE X e fe)(m:M1 X o "update" al e ak:=by exact⟨rfl,rfl,rfl,rfl⟩):QE X (.Call (.Attribute o "update" al) [e] [] ak) (zD fo fe):=(aKF ho he m).imp fun _ _ _=>aMu lF
end
theorem aHL{α:Type}:∀(l:List α),(bI (l.length/2)).filterMap (fun k=>l[1+2*k]?)=od l
 | []=>by simp[od]
 | [_]=>by simp[od]
 |a::b::r=>by
  have ih:=aHL r;have e:(a::b::r).length/2=r.length/2+1:=by simp only[aN];lia
  rw[e,eB,aOX];simp only[Nat.mul_zero,aQv,bU,bT];unfold od;rw[aPU,<-ih];congr 1
theorem aIn{α:Type}:∀(l:List α),(od l).length<=l.length
 | []=>bF _
 | [_]=>dF _
 |a::b::r=>by
  have:=aIn r;unfold od;simp only[aN];lia
theorem aIv(items:Array Value):slicePick items (some 1) none (some 2)=(od items.toList).toArray:=by
 unfold slicePick;have hb:sliceBounds (some 1) none (some 2) items.size=(max 0 (min 1 (items.size:Int)),(items.size:Int),2):=rfl;rw[hb];show((sliceRange (max 0 (min 1 (items.size:Int))) (items.size:Int) 2).filterMap (items[·]?)).toArray=_;congr 1;have hr:sliceRange (max 0 (min 1 (items.size:Int))) (items.size:Int) 2=(bI (items.size/2)).map fun k=>1+2*k:=by
  unfold sliceRange;by_cases h:items.size<2
  ·have h0:items.size/2=0:=by lia
   have h1:¬(max 0 (min 1 (items.size:Int))<(items.size:Int)):=by lia
   simp only[show(2:Int)>0 by decide,if_true,h1,if_false,h0];rfl
  ·have h1:max 0 (min 1 (items.size:Int))=1:=by lia
   rw[h1];have h2:(1:Int)<(items.size:Int):=by lia
   have h3:(((items.size:Int) - 1+2 - 1)/2).toNat=items.size/2:=by lia
   simp only[show(2:Int)>0 by decide,if_true,h2,h3];apply cL;intro k _
   lia
 rw[hr,aPU];have:=aHL items.toList;rw[b7]at this;rw[<-this];congr 1;funext k;simp[d3]
section
variable {X:Cx}{a e:Expr}{te:TE}{fa:FE}{pos p2 p3 p4:Pos}
def aM5(K:aO)(x:V)(H:Hp)(Q:VK):Prop:=∃a xs,x=.ref a/\SqL K H a xs/\∀p,H p=none->Q (.ref p) (upd H p (.lst (od xs)))
theorem Vals.od:∀{xs:List V}{us:List Value},Vals xs us->Vals (TL.od xs) (TL.od us)
 | [],_,h=>by cases h;exact .nil
 | [x],_,h=>by cases h with|cons _ t=>cases t;exact .nil
 |x::y::r,_,h=>by
  cases h with
  |cons h1 t=>
   cases t with
   |cons h2 t=>unfold TL.od;exact .cons h2 (Vals.od t)
theorem aNy{j k}(he:PE X e te):PE X (.Subscript e (.Slice (some (.Constant (.int 1) j p3)) none (some (.Constant (.int 2) k p4)) p2) pos) (fun σ H Q=>te σ H fun x H1=>aM5 X.K x H1 Q):=by
 intro aa s σ H Q I h
 refine Subscript_ (thn (he aa s σ H _ I h) fun v s1 zz=>?_)
 obtain⟨x,H1,I1,r1,q1⟩:=zz;have h1:PE X (.Constant (.int 1) j p3) (tC (.int 1)):=aDR;have h2:PE X (.Constant (.int 2) k p4) (tC (.int 2)):=aDR
 refine wpAny_Slice ?_
 refine thn ((aBg h1) aa s1 σ H1 (fun o H2=>o=some 1/\aM5 X.K x H2 Q) I1 ⟨1,rfl,rfl,q1⟩) fun vl s2 zz=>?_
 obtain⟨o,H2,I2,pk,eo,q2⟩:=zz;subst eo;rw[evalPart_none]
 refine wpAny_pure ?_
 refine thn ((aBg h2) aa s2 σ H2 (fun o H3=>o=some 2/\aM5 X.K x H3 Q) I2 ⟨2,rfl,rfl,q2⟩) fun vk s3 zz=>?_
 obtain⟨o,H3,I3,pk2,eo,q3⟩:=zz;subst eo;obtain⟨l,xs,rfl,hx,q⟩:=q3;cases r1;have I4:Inv X aa σ H3 {s3 with heap:=s3.heap.push {cls:=.type "slice",data:=.fields #[vl,.none,vk]}}:=I3.kept (t':=s3.toks) fun b ob q=>Heap.get?_push_of_some _ q
 obtain⟨its,r,ht,hz⟩:=I4.list hx;have ai:=r.length;have hg:wpAny (model X.prog X.w) X.A (getItem (.ref l) (.ref s3.heap.objs.size)) (EP X aa σ Q) X.xe {s3 with heap:=s3.heap.push {cls:=.type "slice",data:=.fields #[vl,.none,vk]}}:=by
  refine wpAny_getItem_list_slice ht.isList (Heap.IsSliceOf.new ..) pk .none pk2 (by decide) ?_ (by rw[bG]<;>lia)
  rw[aIv]
  refine⟨.ref _,_,I4.laid (t':=s3.toks) (o:=.lst (od xs)) (fun b ob q=>Heap.get?_push_of_some _ q) (bF _) ?_,rfl,q _ (I4.hok.fresh (bF _))⟩
  exact⟨cB (aIn _) hz,_,0,Vals.od r,Heap.get?_push_size _ rfl⟩
 show wpAny (model X.prog X.w) X.A (subscriptTail e _ (.ref l) (.ref s3.heap.objs.size)) (EP X aa σ Q) X.xe _
 exact tail_any (ops:=[.ref l,.ref s3.heap.objs.size]) ht.isList.typeIs slot_list_getitem.lookup hg (by with_unfolding_all rfl)
theorem aOm{j k}(ha:QE X a fa):QN X (.Subscript a (.Slice (some (.Constant (.int 1) j p3)) none (some (.Constant (.int 2) k p4)) p2) pos) (aGb fa):=(aNy ha).imp fun _ _ _=>aNZ
end
section
variable {X:Cx}{aa:List (Addr×Obj)}{σ:L2.St}{H:Hp}{s:Shared}{a:Addr}{ob:Obj}
theorem aIL{kvs:List (List Key×V)}(I:L2.Inv X aa σ H s)(h:H a=some (.dT kvs))(ho:s.heap.get? a=some ob):L2.Inv X aa σ (upd H a (.frz ob (.dT kvs))) s:=by
 have ne:∀b,H b=none->b≠a:=fun b n z=>by rw[z,h]at n;cases n
 refine⟨I.ok,I.os,I.bare,⟨I.base.keep,I.base.slot,fun b o q n hx=>by have e:=I.base.free b o q n hx;rw[fP (ne b e)];exact e,I.base.there,fun b xs q=>?_,fun b o u q=>?_,fun b ps q=>?_⟩,I.loc,I.cell,by rw[fP (ne _ I.free)];exact I.free,fun x c q=>by rw[fP (ne _ (I.freeC x c q))];exact I.freeC x c q,fun p hp=>?_,fun b o q=>?_,I.len⟩
 ·have e:=I.base.tups b xs q;rw[fP (nS e h (fun z=>nomatch z))];exact e
 ·have e:=I.base.frzs b o u q;rw[fP (nS e h (fun z=>nomatch z))];exact e
 ·obtain⟨m,e⟩:=I.base.tbls b ps q
  exact⟨m,by rw[fP (nS e h (fun z=>nomatch z))];exact e⟩
 ·obtain⟨p1,p2,p3⟩:=I.pin p hp
  exact⟨p1,by rw[fP (ne _ p2)];exact p2,p3⟩
 ·by_cases hb:b=a
  ·subst hb;rw[i6]at q;cases q
   exact⟨ho,(I.hok b _ h).stay (fun c v _ q=>q) (fun c q=>by rw[fP (nS q h (fun z=>nomatch z))];exact q) fun c xs q=>by rw[fP (nS q h (fun z=>nomatch z))];exact q⟩
  ·rw[fP hb]at q
   exact(I.hok b o q).stay (fun c v _ q=>q) (fun c q=>by rw[fP (nS q h (fun z=>nomatch z))];exact q) fun c xs q=>by rw[fP (nS q h (fun z=>nomatch z))];exact q
theorem aI5{u:HO}(I:L2.Inv X aa σ H s)(h:H a=some (.frz ob u))(h0:∀o v,X.H₀ a≠some (.frz o v)):L2.Inv X aa σ (upd H a u) s:=by
 have ne:∀b,H b=none->b≠a:=fun b n z=>by rw[z,h]at n;cases n
 refine⟨I.ok,I.os,I.bare,⟨I.base.keep,I.base.slot,fun b o q n hx=>by have e:=I.base.free b o q n hx;rw[fP (ne b e)];exact e,I.base.there,fun b xs q=>?_,fun b o u q=>?_,fun b ps q=>?_⟩,I.loc,I.cell,by rw[fP (ne _ I.free)];exact I.free,fun x c q=>by rw[fP (ne _ (I.freeC x c q))];exact I.freeC x c q,fun p hp=>?_,fun b o q=>?_,I.len⟩
 ·have e:=I.base.tups b xs q;rw[fP (nS e h (fun z=>nomatch z))];exact e
 ·have e:=I.base.frzs b o u q;rw[fP (by rintro rfl;exact h0 _ _ q)];exact e
 ·obtain⟨m,e⟩:=I.base.tbls b ps q
  exact⟨m,by rw[fP (nS e h (fun z=>nomatch z))];exact e⟩
 ·obtain⟨p1,p2,p3⟩:=I.pin p hp
  exact⟨p1,by rw[fP (ne _ p2)];exact p2,p3⟩
 ·by_cases hb:b=a
  ·subst hb;rw[i6]at q;cases q
   exact((I.hok b _ h).2).stay (fun c v _ q=>q) (fun c q=>by rw[fP (nS q h (fun z=>nomatch z))];exact q) fun c xs q=>by rw[fP (nS q h (fun z=>nomatch z))];exact q
  ·rw[fP hb]at q
   exact(I.hok b o q).stay (fun c v _ q=>q) (fun c q=>by rw[fP (nS q h (fun z=>nomatch z))];exact q) fun c xs q=>by rw[fP (nS q h (fun z=>nomatch z))];exact q
end
section
variable {P:Program}{w:World}{A:Around}{E:Value->Shared->Prop}{s:Shared}{d it:Addr}{o:Obj}{es:Array DictEntry}{ep i:Nat}
variable{Q:Option Value->Shared->Prop}
theorem aHp{Q:Value->Shared->Prop}(hd:(d==sysModules)=false)(ho:s.heap.get? d=some o)(hx:o.ExactDict)(bq:o.data=.dict es ep)
 (hQ:Q (.ref s.heap.objs.size) {s with heap:=s.heap.push {cls:=.type "dict_keyiterator",data:=.fields #[.ref d,.int 0 0,.int es.size 0,.int ep 0]}}):wpAny (model P w) A (pyIter (.ref d)) Q E s:=by
 have hT:s.TypeIs (.ref d) "dict":=⟨o,ho,hx.1⟩
 refine wpAny_pyIter_slot hT F.slot_dict_iter (wpAny_call_entry F.slot_dict_iter hT F.entry_dict_iter ?_ (F.args_dict_iter_1 _));unfold Builtin.«dict.__iter__»;refine wpAny_bind ?_
 unfold Builtin.Dict.dictSlotNone;refine wpAny_bind (wpAny_notOrdered_dict hT ?_);show wpAny _ _ (pure (Value.ref d)) _ _ s;refine wpAny_pure ?_;show wpAny _ _ (Builtin.Dict.showsAll d>>=_) _ _ s;unfold Builtin.Dict.showsAll;rw[if_neg (by rw[hd];exact bY)];refine wpAny_bind (wpAny_pure ?_)
 refine wpAny_bind (wpAny_dictEntries ho bq (wpAny_bind (wpAny_dictEpoch ho bq ?_)))
 refine wpAny_bind (wpAny_newObj_type (wpAny_pure ⟨_,rfl,"dict_keyiterator",_,⟨_,Heap.get?_push_size _ rfl,rfl⟩,F.slot_dict_keyiterator_next.lookup,?_⟩));simpa[rawInt]using hQ
theorem aHP{e:DictEntry}(hit:s.heap.IsKeyIter it d i es.size ep)(ho:s.heap.get? d=some o)(bq:o.data=.dict es ep)(he:es[i]?=some e)
 (hQ:∀h',h'.IsKeyIter it d (i+1) es.size ep->Heap.SameBut it s.heap h'->Q (some e.key) {s with heap:=h'}):wpAny (model P w) A (pyNext (.ref it)) Q E s:=by
 obtain⟨oi,hi,hc,hd⟩:=id hit;unfold pyNext;refine wpAny_bind (wpAny_attempt (wpAny_callSpecial?_slot (name:=Str.ofString "__next__") hit.typeIs F.slot_dict_keyiterator_next (wpAny_call_entry F.slot_dict_keyiterator_next hit.typeIs F.entry_dict_keyiterator_next ?_ (F.args_dict_keyiterator_next_1 _))))
 refine wpAny_bind (wpAny_pure (wpAny_bind (wpAny_bind ?_)))
 first|refine wpAny_bind (wpAny_typeNameOfWhole_keyiter hit.typeIs (wpAny_pure (wpAny_bind (wpAny_fieldsOf hi hd ?_))))|refine wpAny_bind (wpAny_typeNameOf_keyiter hit.typeIs (wpAny_pure (wpAny_bind (wpAny_fieldsOf hi hd ?_))))
 simp only[show Builtin.Dict_items.ownsTuple "dict_keyiterator"=false by decide,b9,if_false];show wpAny _ _ (if(Value.ref d==Value.none)=true then _ else _) _ _ s;rw[if_neg (show¬((Value.ref d==Value.none)=true)from bY)]
 refine wpAny_bind (wpAny_pure (wpAny_bind (wpAny_dictEntries ho bq ?_)));rw[if_neg (by simp)];refine wpAny_bind (wpAny_pure (wpAny_bind (wpAny_dictEpoch ho bq ?_)));rw[if_neg (by simp)];refine wpAny_pure ?_
 simp only[show¬((i:Int)<0)from by lia,if_false,c9,he];refine wpAny_bind ?_;first|refine wpAny_bind (wpAny_typeNameOfWhole_keyiter hit.typeIs (wpAny_pure (wpAny_bind (wpAny_isOneOf_keyiter hit.typeIs ?_))))|refine wpAny_bind (wpAny_typeNameOf_keyiter hit.typeIs (wpAny_pure (wpAny_bind (wpAny_isOneOf_keyiter hit.typeIs ?_))))
 show wpAny _ _ (setField (.ref it) 1 (rawInt ((i:Int)+1))>>=_) _ _ s;refine wpAny_bind (wpAny_setField hi hd (by simp) ?_);have tm:(s.heap.update it (Obj.mapFields (·.setIfInBounds 1 (rawInt ((i:Int)+1))))).IsKeyIter it d (i+1) es.size ep:=⟨_,Heap.get?_update_self _ hi (Obj.isFreed_of_fields (Obj.data_mapFields hd _)),(Obj.cls_mapFields ..).trans hc,by rw[Obj.data_mapFields hd];simp[rawInt]⟩
 refine wpAny_bind (wpAny_holding (wpAny_bind (wpAny_isOneOf_keyiter (s:={s with heap:=s.heap.update it (Obj.mapFields (·.setIfInBounds 1 (rawInt ((i:Int)+1))))}) tm.typeIs ?_)))
 show wpAny _ _ (pure e.key) _ _ _;exact wpAny_pure (wpAny_pure ⟨_,rfl,wpAny_pure (hQ _ tm (Heap.SameBut.update ..))⟩)
theorem aGN(hh:A.handled=none)(hit:s.heap.IsKeyIter it d i es.size ep)(ho:s.heap.get? d=some o)(bq:o.data=.dict es ep)(he:es[i]?=none)
 (hQ:∀h',Heap.ExtBut it s.heap h'->Q none {s with heap:=h'}):wpAny (model P w) A (pyNext (.ref it)) Q E s:=by
 obtain⟨oi,hi,hc,hd⟩:=id hit;unfold pyNext;refine wpAny_bind (wpAny_attempt (wpAny_callSpecial?_slot (name:=Str.ofString "__next__") hit.typeIs F.slot_dict_keyiterator_next (wpAny_call_entry F.slot_dict_keyiterator_next hit.typeIs F.entry_dict_keyiterator_next ?_ (F.args_dict_keyiterator_next_1 _))))
 refine wpAny_bind (wpAny_pure (wpAny_bind (wpAny_bind ?_)))
 first|refine wpAny_bind (wpAny_typeNameOfWhole_keyiter hit.typeIs (wpAny_pure (wpAny_bind (wpAny_fieldsOf hi hd ?_))))|refine wpAny_bind (wpAny_typeNameOf_keyiter hit.typeIs (wpAny_pure (wpAny_bind (wpAny_fieldsOf hi hd ?_))))
 simp only[show Builtin.Dict_items.ownsTuple "dict_keyiterator"=false by decide,b9,if_false];show wpAny _ _ (if(Value.ref d==Value.none)=true then _ else _) _ _ s;rw[if_neg (show¬((Value.ref d==Value.none)=true)from bY)]
 refine wpAny_bind (wpAny_pure (wpAny_bind (wpAny_dictEntries ho bq ?_)));rw[if_neg (by simp)];refine wpAny_bind (wpAny_pure (wpAny_bind (wpAny_dictEpoch ho bq ?_)));rw[if_neg (by simp)];refine wpAny_pure ?_
 simp only[show¬((i:Int)<0)from by lia,if_false,c9,he];refine wpAny_bind ?_;first|refine wpAny_bind (wpAny_typeNameOfWhole_keyiter hit.typeIs (wpAny_pure ?_))|refine wpAny_bind (wpAny_typeNameOf_keyiter hit.typeIs (wpAny_pure ?_))
 show wpAny _ _ (setField (.ref it) 0 .none>>=_) _ _ s;refine wpAny_bind (wpAny_setField hi hd (by simp) ?_);show wpAny _ _ (newExc (.type "StopIteration") []>>=_) _ _ _;refine wpAny_bind ?_;simp only[newExc,newTuple]
 refine wpAny_bind (wpAny_newObj_type (wpAny_bind (m:=firstArgMember _ _) (wpAny_of_eq (a:=Value.none) (by first|rfl| (simp only[firstArgMember];rfl)) ?_)) (by size_fits))
 refine wpAny_newObj_type ?_ (by size_fits);simp only[raiseNew];refine wpAny_bind (wpAny_handled ?_)
 rw[show A.in1.handled=none from hh];refine wpAny_bind (wpAny_pure (wpAny_throw ?_));refine wpAny_bind (wpAny_isInstance (T:="StopIteration") (b:=true) ⟨_,Heap.get?_push_size _ rfl,rfl⟩ isSubtype_stop ?_)
 exact wpAny_pure (hQ _ (((Heap.SameBut.update ..).extBut.push _).push _))
end
theorem aAs{α β:Type}{F:α->β->Prop}:∀{gn:List α}{gm:List β},Paired F gn gm->∀(i:Nat)(h1:i<gn.length)(h2:i<gm.length),F gn[i] gm[i]
 |_,_,.cons h _,0,_,_=>h
 |_,_,.cons _ t,i+1,h1,h2=>aAs t i (by simpa using h1) (by simpa using h2)
theorem aFU{P:Program}{w:World}{K:aO}{tg:Expr}{a it:Addr}{ob:Obj}{es:Array DictEntry}{ep:Nat}{kvs:List (List Key×V)}(hx:ob.ExactDict)(bq:ob.data=.dict es ep)(hl:es.size=kvs.length):
 Turn P w K tg (Itd a ob kvs) [it] it (fun i h=>h.IsKeyIter it a i es.size ep) where
 mem:=by simp
 obj:=fun i h st b hb=>by
  have e:b=it:=by simpa using hb
  subst e;obtain⟨o,e,c,d⟩:=st
  exact⟨o,e,fun v z=>by rw[d]at z;cases z⟩
 keep:=fun i h h' st k=>st.at fun o e=>k it (by simp) o e
 item:=by
  intro X hP hw hK hc i aa s σ H E I hf st hg;subst hP hw hK;obtain⟨hH,hi⟩:=hg;obtain⟨ho,_,_,xs,rel,o2,es2,ep2,e1,e2,e3,e4,e5⟩:=(show jP X.prog X.w H s.heap a (.frz ob (.dT kvs))from I.hok a _ hH);rw[ho]at e1;cases e1;rw[bq]at e3;cases e3;obtain⟨f0,f1,f2,f3,f4,f5⟩:=hf it (by simp);have hlx:xs.length=kvs.length:=(Paired.length rel).symm;have hix:i<xs.length:=by rw[hlx];exact hi
  have mf:es[i]?=some (entryOfKey (tupleKind (iW X.prog X.w)) xs[i]):=by
   rw[<-Array.getElem?_toList,e4,bH,bA hix];rfl
  refine aHP st ho bq mf fun h' ax sb=>?_
  have I1:L2.Inv X aa σ H {s with heap:=h'}:=I.turned (t':=s.toks) (fun b o hb e=>(sb.2 b hb).trans e) f0 f1 f3 f4 f5;obtain⟨o,e,c,d⟩:=id ax;obtain⟨r1,r2,r3⟩:=aAs rel i hi hix
  refine⟨_,rfl,aGX (s:={s with heap:=h'}) e c d (by decide) ⟨.ref xs[i].2.1,H,I1,rfl,⟨rfl,xs[i].2.1,kvs[i].1,kvs[i].2,rfl,bA hi,r2⟩,ax,fun b hb=>(hf b hb).1⟩⟩
 done:=by
  intro X hP hw hK hc i aa s σ H E I hf st hg;subst hP hw hK;obtain⟨hH,hi⟩:=hg;have ho:=(show jP X.prog X.w H s.heap a (.frz ob (.dT kvs))from I.hok a _ hH).1;obtain⟨f0,f1,f2,f3,f4,f5⟩:=hf it (by simp)
  exact aGN (I.ok.hd hc) st ho bq (by simp;lia) fun h' eb=>⟨rfl,I.turned (t':=s.toks) (fun b o hb e=>eb b o hb e) f0 f1 f3 f4 f5⟩
 self:=fun _ _ _ _ _ st h=>wpAny_pyIter_keyiter st h
section
variable {X:Cx}{iter:Expr}{fa:FE}{p pos p2:Pos}
abbrev Bare(X:Cx)(a:Addr):Prop:=∀o v,X.H₀ a≠some (.frz o v)
theorem aJ6{tg l:Expr}{tl:TE}(hl:PE X l tl):PI X tg l (iDict (Bare X) tl):=by
 intro aa s σ H R I h
 refine thn (hl aa s σ H _ I h) fun v s1 zz=>?_
 obtain⟨x,H1,I1,r1,q1⟩:=zz;obtain⟨a,kvs,e,ha,q⟩:=q1;subst e;cases r1;obtain⟨_,hd,xs,rel,o,es,ep,e1,e2,e3,e4,e5⟩:=(show jP X.prog X.w H1 s1.heap a (.dT kvs)from I1.hok a _ ha);have hB:Bare X a:=fun o v z=>by
  have:=I1.base.frzs a o v z;rw[ha]at this;cases this
 have hsz:es.size=kvs.length:=by rw[<-b7,e4,aS];exact(Paired.length rel).symm
 have I2:L2.Inv X aa σ H1 {s1 with heap:=s1.heap.push {cls:=.type "dict_keyiterator",data:=.fields #[.ref a,.int 0 0,.int es.size 0,.int ep 0]}}:=I1.kept (t':=s1.toks) fun b o e=>Heap.get?_push_of_some _ e
 refine aHp hd e1 e2 e3 ⟨s1.heap.objs.size,[s1.heap.objs.size],_,_,_,rfl,aIL I2 ha (Heap.get?_push_of_some _ e1),aFU (a:=a) (kvs:=kvs) e2 e3 hsz,⟨_,Heap.get?_push_size _ rfl,rfl,rfl⟩,fun b hb=>?_,q hB o⟩
 have e:b=s1.heap.objs.size:=by simpa using hb
 subst e
 refine I1.fpOk (bF _) ?_
 rw[fP (Ne.symm (bW (Heap.lt_size e1)))]
 exact I1.hok.fresh (bF _)
section
variable {own frs:List Str}{is:List Nat}{scope:Scope}{cl:List (Str×Addr)}{tg bd:Expr}{ifs:List Expr}{fe:FE}{g:FG}{gt:FB}
theorem aKk(hc:X.calm=true)(k:mG X own frs is scope cl)(h1:QE X iter fa)(ho:Own own.length g)(hg:∀C s3 H3 fp,QG (gP X (own++frs) scope cl C s3 H3 fp) tg g)(ht:∀C s3 H3 fp,QTs (gP X (own++frs) scope cl C s3 H3 fp) ifs gt)
 (he:∀C s3 H3 fp,QE (gP X (own++frs) scope cl C s3 H3 fp) bd fe)(hs:∀x,foldedSetIterable iter X.env x=pure x:=by intro _;rfl):
 QN X (.ListComp bd [⟨tg,iter,ifs,0⟩] scope pos) (tX fa own.length is g gt fe):=by
 intro aa s σ H Q I h
 refine thn (v4 hc k (aJ6 h1) hg ht he hs aa s σ H _ I (aKB (B:=Bare X) ho h)) fun u s' zz=>?_
 obtain⟨v,H',I',r,a,ob,w,hB,hf,q⟩:=zz
 exact⟨v,_,aI5 I' hf hB,r,q⟩
end
end
theorem aGm:∀{ns:List Int},ns≠[]->uJ ns∈ns/\∀a∈ns,uJ ns<=a:=by
 have key:∀(ns:List Int)(n:Int),(ns.foldl (fun a b=>if b<a then b else a) n=n\/ns.foldl (fun a b=>if b<a then b else a) n∈ns)/\ns.foldl (fun a b=>if b<a then b else a) n<=n/\∀a∈ns,ns.foldl (fun a b=>if b<a then b else a) n<=a:=by
  intro ns;induction ns with
  |nil=>intro n;exact⟨.inl rfl,bR _,fun a h=>nomatch h⟩
  |cons m ns ih=>
   intro n;rw[aPg];obtain⟨h1,h2,h3⟩:=ih (if m<n then m else n);by_cases hm:m<n
   ·rw[if_pos hm]at h1 h2 h3|-
    refine⟨?_,by lia,fun a ha=>?_⟩
    ·rcases h1 with h1|h1
     ·rw[h1];simp
     ·exact .inr (aZ _ h1)
    ·rcases bE.mp ha with rfl|ha
     ·exact h2
     ·exact h3 a ha
   ·rw[if_neg hm]at h1 h2 h3|-
    refine⟨?_,h2,fun a ha=>?_⟩
    ·rcases h1 with h1|h1
     ·exact .inl h1
     ·exact .inr (aZ _ h1)
    ·rcases bE.mp ha with rfl|ha
     ·lia
     ·exact h3 a ha
 intro ns ba;cases ns with
 |nil=>exact absurd rfl ba
 |cons n ns=>
  obtain⟨h1,h2,h3⟩:=key ns n
  refine⟨?_,fun a ha=>?_⟩
  ·rcases h1 with h1|h1
   ·show aPT (fun a b=>if b<a then b else a) n ns∈n::ns;rw[h1];simp
   ·exact aZ _ h1
  ·rcases bE.mp ha with rfl|ha
   ·exact h2
   ·exact h3 a ha
section
variable {X:Cx}{e:Expr}{es:List Expr}{fr:FN}{p pos:Pos}
theorem aFq(hc:X.calm=true):nV X (.builtin "min") (aCW X.K (fun ns=> !ns.isEmpty) uJ):=by
 intro aa s σ H xs us Q I r h;obtain⟨p,ns,rfl,hq,ba,q⟩:=h;obtain⟨u,rfl,ru⟩:=vals1 r;cases ru;obtain⟨its,rv,pl,hz⟩:=I.list hq;have hi:=oX rv;have io:ns≠[]:=by rintro rfl;simp at ba
 obtain⟨ys,hx⟩:=hi.allInts.items;have dq:s.heap.IsList p (intItems ys):=hx ▸ pl.isList;have fj:ns=ys.toList.map (·.1):=by
  rw[<-nums_intItems,<-hx]
  exact(show numsOf its.toArray.toList=ns from hi.numsOf).symm
 have hsz:0<ys.size:=by
  have h3:0<ns.length:=d7.mpr io;rw[fj,aS,b7]at h3;exact h3
 refine min_intList (I.ok.hd hc) dq hsz fun v h' tk hv hk=>?_
 obtain⟨t,rfl⟩:=intItems_at hv;obtain⟨h1,h2⟩:=argBest_lt (numAt ys) (ys.size - 1);obtain⟨m1,m2⟩:=aGm io;obtain⟨M,hM⟩:∃M,M=uJ ns:=⟨_,rfl⟩;rw[<-hM]at m1 m2 q;have e:numAt ys (argBest (fun i j=>decide (numAt ys i<numAt ys j)) (ys.size - 1))=M:=by
  apply aO0
  ·have qr:=m1;rw[fj]at qr;obtain⟨j,hj,ej⟩:=mem_getD qr;rw[aS,b7]at hj;rw[<-ej,<-numAt_eq];exact h2 j (by lia)
  ·refine m2 _ ?_
   rw[fj,numAt_eq];exact getD_mem (by rw[aS,b7];lia)
 exact⟨.int M,H,I.kept hk,⟨_,by rw[e]⟩,q⟩
theorem aHg(hm:X.mg "min"=none)(hc:X.calm=true)(ha:QA X (e::es) fr)(hg:Gl X "min":=by rfl)(he:starEach (e::es) X.env=(false,eval e X.env)::starEach es X.env:=by rfl)(av:(backTo pos (starEach es X.env)).any (·.1)=false:=by rfl):
 QE X (.Call (.Name "min" p) (e::es) [] pos) (aGI fr):=aDk (aFq hc) (fun _ _ _ _=>aDU) boot_min hm hg ha (by decide) (by decide) he av
end
theorem lW{X:Cx}{pos:Pos}{x:Str}{i:Int}(hm:∃t,X.mg x=some (.int i t))(hg:Gl X x:=by rfl)(hd:(x==("__debug__":Str))=false:=by decide):QE X (.Name x pos) (fC (.int i)):=by
 obtain⟨t,hm⟩:=hm
 exact(aJ7 hg hm (v:=.int i) ⟨t,rfl⟩ hd).imp fun _ _ _=>i_C fun _ _=>.int
structure aIe(K:aO)(x qual:Str)(st:Stmt)(f:Addr)(fd:FuncData)(dV:Value):Prop where
 ex:∃(oc:Value)(od:Option Addr)(kV doc pm:Value)(an:Option Addr)(ay ct:Value)(eh:Array (Option Value)),
  fd=cK x qual (jU st) (i8 st) (gH st) dV kV doc pm an ay ct/\K.lookup f=some ⟨oc,od,.func fd,eh⟩/\dM K ay qual=true
section
variable {P:Program}{w:World}{K:aO}{mg:Str->Option Value}{base:Heap}
variable{qual:Str}{st:Stmt}{fd:FuncData}{dV oc:Value}{ps:List Str}{od:Option Addr}{eh:Array (Option Value)}
theorem aIe.ok{x:Str}{f:Addr}{N:List Str}{k:Nat}{sp:Sp}(F:aIe K x qual st f fd dV)(S:qB N ps (gH st))(len:∀vs H Q E,sp vs H Q E->vs.length=ps.length)
 (db:∀(ay:Value)(A:Around)(outer:List Env)(s:Shared)(H:Hp)(vs:List V)(Q:VK)(E:XK),Room k (A.deeper (envOfC qual (gH st) s.heap.objs.size f ay))->sp vs H Q E->
  ∃t,PSs (aAT CX0 P w K mg base N qual (gH st) f ay A outer s H E).nox (i8 st) t/\t {nx:=fun _ H'=>Q .non H',rt:=Q} (start N vs) H):mQ P w K mg base CX0 (k+1) f fd ps sp:=by
 obtain⟨oc,od,kV,doc,pm,an,ay,ct,eh,e,lk,iu⟩:=F.ex;subst e
 refine aLG lk iu S len fun A outer s H vs Q E hr fg=>?_
 obtain⟨t,h,q⟩:=db ay A outer s H vs Q E hr fg
 exact⟨t,h.nox,q⟩
theorem aJS{x:Str}{f:Addr}{an:Option Addr}{kV doc pm ay ct:Value}(l:K.lookup f=some ⟨oc,od,.func (cK x qual (jU st) (i8 st) (gH st) dV kV doc pm an ay ct),eh⟩)
 (c:dM K ay qual=true):aIe K x qual st f (cK x qual (jU st) (i8 st) (gH st) dV kV doc pm an ay ct) dV:=⟨⟨oc,od,kV,doc,pm,an,ay,ct,eh,rfl,l,c⟩⟩
theorem aDr(m:Nat){T:Addr}{its:Array Value}{n:Nat}{ds:List Value}(hd:fd.defaults=.ref T)(lk:K.lookup T=some ⟨oc,od,.seq its n,eh⟩)
 (hm:m+ds.length=ps.length)(h:∀us:List Value,us.length=m->∃k:Option (Array Value)->Sem (List (Str×Value)),bindArgs fd ⟨us,[]⟩=seqItems? fd.defaults>>=k/\k (some its)=pure (ps.zip (us++ds))):Binds K fd ps ds:=fun s us hk hl=>by
 obtain⟨k,h1,h2⟩:=h us (by rw[bD]at hl;lia)
 exact .of_defaults hd (hk T _ lk) rfl h1 h2
end
theorem iO.of{K:aO}{cls:String}{f:Str}{C:Addr}(e:bX K mainGlobals (Str.ofString cls)=some (some (.ref C)))(c:Cls K C)(n:oU K C f):iO K cls f:=fun C' h=>by
 rw[e]at h;cases h;exact⟨c,n⟩
section
variable {P:Program}{w:World}{K:aO}{mg:Str->Option Value}{base h:Heap}{f:Addr}{fd:FuncData}{x ql:Str}{t:Stmt}{N ps:List Str}{k n:Nat}{sp:Sp}{B:FS}{cls:String}{C:Addr}
variable{oc kV dc pm cd ct:Value}{od an:Option Addr}{sl:Array (Option Value)}{Q:List Value->Prop}
abbrev hB(K:aO)(N:List Str)(sp:Sp)(B:FS):Prop:=∀{W:XW}{vs:List V}{H:Hp}{Q:VK}{E:XK},sp vs H Q E->trS K W B {nx:=fun _ H'=>Q .non H',rt:=Q} (vs.map some++aT (N.length - vs.length) none) H
abbrev hY(P:Program)(w:World)(K:aO)(mg:Str->Option Value)(base:Heap)(N:List Str)(ql:Str)(t:Stmt)(f:Addr)(k:Nat)(B:FS):Prop:=∀{ay:Value}{A:Around}{outer:List Env}{s:Shared}{H:Hp}{E:XK},N.Nodup->Room k (A.deeper (envOfC ql (gH t) s.heap.objs.size f ay))->
 PSs (aAT CX0 P w K mg base N ql (gH t) f ay A outer s H E).nox (i8 t) (trS K (wish (Cx.nox (aAT CX0 P w K mg base N ql (gH t) f ay A outer s H E))) B)
theorem okB(F:Fun K x ql t f fd)(len:∀vs H Q E,sp vs H Q E->vs.length=ps.length)(b:hB K N sp B)(y:hY P w K mg base N ql t f k B)(S:qB N ps (gH t):=by exact⟨rfl,rfl,rfl,by decide+kernel,rfl,by decide+kernel,by decide+kernel⟩):mQ P w K mg base CX0 (k+1) f fd ps sp:=
 F.ok S len fun ay A outer s H vs Q E hr z=>⟨_,y S.nd hr,b z⟩
theorem okD{dV:Value}(F:aIe K x ql t f fd dV)(len:∀vs H Q E,sp vs H Q E->vs.length=ps.length)(b:hB K N sp B)(y:hY P w K mg base N ql t f k B)(S:qB N ps (gH t):=by exact⟨rfl,rfl,rfl,by decide+kernel,rfl,by decide+kernel,by decide+kernel⟩):mQ P w K mg base CX0 (k+1) f fd ps sp:=
 F.ok S len fun ay A outer s H vs Q E hr z=>⟨_,y S.nd hr,b z⟩
theorem rdn{A:Around}{j:Nat}(hr:Room k A)(h:j<=k:=by decide):Room j A:=hr.mono h
structure Nm(K:aO)(x:Str)(t:Stmt):Prop where
 ex:∃f fd,bX K mainGlobals x=some (some (.ref f))/\Fun K x x t f fd
theorem Nm.of(a:bX K mainGlobals x=some (some (.ref f)))(l:K.lookup f=some ⟨oc,od,.func (cK x x (jU t) (i8 t) (gH t) .none kV dc pm an cd ct),sl⟩)
 (c:dM K cd x=true)(k:cG K (.ref f)=true):Nm K x t:=⟨_,_,a,aDW l c k⟩
structure Cm(K:aO)(cls:String)(C:Addr):Prop where
 e:bX K mainGlobals (Str.ofString cls)=some (some (.ref C))
 c:Cls K C
 mi:aPG K C=true
 kp:cG K (.ref C)=true
structure Mm(K:aO)(C:Addr)(x ql:Str)(t:Stmt):Prop where
 ex:∃f fd,b6 K (.ref C) x=some (some (.ref f))/\aO4 K (.ref f)=true/\Fun K x ql t f fd
theorem Mm.of(a:b6 K (.ref C) x=some (some (.ref f)))(l:K.lookup f=some ⟨oc,od,.func (cK x ql (jU t) (i8 t) (gH t) .none kV dc pm an cd ct),sl⟩)
 (c:dM K cd ql=true)(k:cG K (.ref f)=true)(n:aO4 K (.ref f)=true):Mm K C x ql t:=⟨_,_,a,n,aDW l c k⟩
theorem len1(h:∀a,Q [a]):∀us:List Value,us.length=1->Q us
 | [a],_=>h a
theorem zP{n:Nat}(h:∀a us,us.length=n->Q (a::us)):∀us:List Value,us.length=n+1->Q us
 |a::us,e=>h a us (Nat.succ.inj e)
abbrev Bd(x ql:Str)(t:Stmt)(ps:List Str):Prop:=∀(kV doc pm:Value)(an:Option Addr)(ay ct:Value)(us:List Value),us.length=ps.length->bindArgs (cK x ql (jU t) (i8 t) (gH t) .none kV doc pm an ay ct) ⟨us,[]⟩=pure (ps.zip us)
abbrev Ky(P:Program)(w:World)(K:aO)(mg:Str->Option Value)(base:Heap)(x ql:Str)(t:Stmt)(ps:List Str)(k:Nat)(sp:Sp):Prop:=∀{f:Addr}{fd:FuncData},Fun K x ql t f fd->mQ P w K mg base CX0 k f fd ps sp
section
variable (X:K.In h)(G:h.Ns mainGlobals mg)
include X G
variable{R:List T->Sto->Option (T×Sto)}
theorem Nm.df(a:Nm K x t)(o:Ky P w K mg base x x t ps k sp)(b:Bd x x t ps):∃f fd ps,mQ P w K mg base CX0 k f fd ps sp/\mg x=some (.ref f)/\cG K (.ref f)=true/\Binds K fd ps []:=
 let ⟨f,fd,a,F⟩:=a.ex
 ⟨f,fd,ps,o F,aOY X G a,F.kp,F.binds b⟩
theorem mkT{R:List T->Option T}(a:Nm K x t)(o:Ky P w K mg base x x t ps k (spT K n R))(b:Bd x x t ps:=by walk_at "bq"):jO P w K mg base k x n R:=⟨a.df X G o b⟩
theorem mkM{R:List T->Option (Option (List T))}(a:Nm K x t)(o:Ky P w K mg base x x t ps k (spM K n R))(b:Bd x x t ps:=by walk_at "bq"):aMq P w K mg base k x n R:=⟨a.df X G o b⟩
theorem mkRc{R:List T->Option (T×Sto)}(a:Nm K x t)(o:Ky P w K mg base x x t ps k (aCQ K n R))(b:Bd x x t ps:=by walk_at "bq"):aE5 P w K mg base k x n R:=⟨a.df X G o b⟩
theorem mkWc{R:List T->Sto->Option Sto}(a:Nm K x t)(o:Ky P w K mg base x x t ps k (aEa K n R))(b:Bd x x t ps:=by walk_at "bq"):aG2 P w K mg base k x n R:=⟨a.df X G o b⟩
theorem mkS(a:Nm K x t)(o:Ky P w K mg base x x t ps k (spS K n R))(b:Bd x x t ps:=by walk_at "bq"):vM P w K mg base k x n R:=⟨a.df X G o b⟩
theorem mkI(c:Cm K cls C)(a:Mm K C "__init__" ql t)(o:Ky P w K mg base "__init__" ql t ps k (spS K n R))(b:Bd "__init__" ql t ps:=by walk_at "bq"):aFv P w K mg base k cls n R [] []:=
 let ⟨f,fd,a,i,F⟩:=a.ex
 ⟨⟨C,f,fd,ps,[],c.e,aOY X G c.e,⟨c.mi,a,i,c.kp⟩,o F,F.binds b,.nil⟩,fun _ _=>.nil⟩
end
theorem mkMe{R:List T->Sto->Option (T×Sto)}(c:Cm K cls C)(a:Mm K C x ql t)(o:Ky P w K mg base x ql t ps k (spS K n R))(b:Bd x ql t ps:=by walk_at "bq"):nZ P w K mg base k cls x n R:=
 let ⟨f,fd,a,i,F⟩:=a.ex
 ⟨C,f,fd,ps,c.e,c.c,⟨a,i,F.kp⟩,o F,F.binds b⟩
end
section
variable {X:Cx}{e:Expr}{fe:FE}{pos:Pos}
theorem aFS{x:Str}{ao:Pos}(hN:X.N.Nodup)(i:Nat)(he:QE X e fe)(hi:X.N[i]?=some x:=by rfl)(hx:Loc X.env.scope x:=by first|exact aQm rfl|exact aP8 rfl)(hf:X.fn x=true\/X.env.scope.names.lookup x=some .local:=by first|exact .inl rfl|exact .inr rfl):
 QS X (.AugAssign (.Name x ao) .Add e pos) (fZ (iV (jF i) fe (gI fun i j=>.int (i+j))) (gN i)):=(aNr hN hi hx he aIF hf).imp fun _ _ _ h=>by
 obtain⟨v,e1,q⟩:=aLo (vJ (fun _ _ _ _ _=>o_I (g:=fun i j=>.int (i+j)) fun _ _ _ _=>.int) (iK (aB2 h) fun _ _ q=>wJ q))
 exact⟨v,e1,q⟩
end
end TL
namespace Lib
open PySem L2 TL
def aAG:FS:=
 (fN (fIf (iH (fLt Y1 (pC (eX Y0 fH)))) (hV (fIx Y0 Y1)) i0)
  (hV (fI 0)))
def iY:List T->Option T:=jL aAG 2
def aAB:FS:=
 (hV (fLeLt (fI 0) Y1 Y0))
def lA:List T->Option T:=jL aAB 2
def aEB:FS:=
 (hV (yJ (vK "int" Y0) (aAm (vK "bool" Y0))))
def lL:List T->Option T:=jL aEB 1
def oM:FS:=
 (fN (fIf (oK (lN (nB (f7 2 lA (eX Y0 (eX Y3 fH))))) (lN (nB (f7 2 lA (eX Y0 (eX Y4 fH)))))) aBF i0)
  (fIf (iH (aKV Y3 (fIx Y2 Y4))) (qQ (fIx Y2 Y4) (eX Y3 fH)) i0))
def pZ:FS:=
 (fN (fZ (iU (kA Y0 1 [] (gN 0) hW (iU (gJ fH)))) (gN 2))
  (fN (nK Y1 (gU [3,4])
   oM)
  (hV Y2)))
def gQ:List T->Option T:=jL pZ 5
def o6:FS:=
 (fIf (qY (iH (aKV Y2 Y1)) (nB (aNp (eX (fV (jR (fIx Y0 Y2) 1 [1] (gN 0) hW (fIn Y0 Y1))) fH)))) (hV Y2) i0)
def qV:FS:=
 (fN (mE (pC (eX Y0 fH)) (gN 2)
  o6)
  aBF)
def l6:List T->Option T:=jL qV 3
def sU:FS:=
 (qQ Y3 (eX (f7 2 l6 (eX Y2 (eX Y3 fH))) fH))
def xH:FS:=
 (fN (fZ (f7 2 gQ (eX Y0 (eX Y1 fH))) (gN 2))
  (fN (fZ (iU (gJ fH)) (gN 3))
  (fN (lD (iH (fLt (pC (eX Y3 fH)) Y0)) sU 10)
  (hV Y3))))
def m8:List T->Option T:=jL xH 4
def pO:FS:=
 (hV (fV (rK Y0 Y1 2 [] (gU [0,1]) hW (j0 Y0 Y1))))
def kG:List T->Option T:=jL pO 2
def sS:FS:=
 (qZ (aH5 (fV (jR (fIx Y3 Y5) 1 [4,0] (gN 0) hW (j0 (fIx Y1 Y0) (fIx Y2 Y0)))) (fI 0)) Y4 Y5)
def zA:FS:=
 (fN (fZ (f7 2 m8 (eX (pC (eX Y0 fH)) (eX Y1 fH))) (gN 2))
  (fN (fZ (f7 2 gQ (eX (pC (eX Y0 fH)) (eX Y1 fH))) (gN 3))
  (fN (fZ (iU (jR Y2 1 [] (gN 0) hW (fI 0))) (gN 4))
  (fN (nK Y2 (gN 5)
   sS)
  (hV Y4)))))
def lR:List T->Option T:=jL zA 6
def aBX:FS:=
 (hV (aH5 (f7 2 kG (eX (f7 2 lR (eX Y0 (eX Y1 fH))) (eX Y0 fH))) (fI 0)))
def kI:List T->Option T:=jL aBX 2
def tO:FS:=
 (fN (fIf (oK (lN (nB (f7 2 lA (eX Y0 (eX Y3 fH))))) (lN (nB (f7 2 lA (eX Y0 (eX Y4 fH)))))) (fRaise "NoOrder" (eX (fC (.str "a need names a number that is no work")) fH)) i0)
  (fIf (iH (aKV Y3 (fIx Y2 Y4))) (qQ (fIx Y2 Y4) (eX Y3 fH)) i0))
def o8:FS:=
 (fN (fZ (iU (kA Y0 1 [] (gN 0) hW (iU (gJ fH)))) (gN 2))
  (fN (nK Y1 (gU [3,4])
   tO)
  (hV Y2)))
def vP:List T->Option T:=jL o8 5
def uO:List T->Option String:=aNN o8 5
def uH:FS:=
 (fIf (qY (iH (aKV Y2 Y1)) (nB (aNp (eX (fV (jR (fIx Y0 Y2) 1 [1] (gN 0) hW (fIn Y0 Y1))) fH)))) (hV Y2) i0)
def pV:FS:=
 (fN (mE (pC (eX Y0 fH)) (gN 2)
  uH)
  (fRaise "NoOrder" (eX (fC (.str "a work would have to be done ahead of itself")) fH)))
def xA:List T->Option T:=jL pV 3
def vL:List T->Option String:=aNN pV 3
def zM:FS:=
 (fX (xApp Y3 (xCall 2 vL (eX Y2 (eX Y3 fH)))) (qQ Y3 (eX (f7 2 xA (eX Y2 (eX Y3 fH))) fH)))
def aCI:FS:=
 (fN (fX (xCall 2 uO (eX Y0 (eX Y1 fH))) (fZ (f7 2 vP (eX Y0 (eX Y1 fH))) (gN 2)))
  (fN (fZ (iU (gJ fH)) (gN 3))
  (fN (lD (iH (fLt (pC (eX Y3 fH)) Y0)) zM 10)
  (hV Y3))))
def aBh:List T->Option String:=aNN aCI 4
def u5:FS:=
 (aAa Y2 Y4 (fIx Y3 (fI 0)))
def uX:FS:=
 (nK (fV (fSl Y3 (tR (fI 1)) nQ)) (gN 4)
  u5)
def aAv:FS:=
 (fN (fZ (iU (kA Y0 1 [] (gN 0) hW (fI 0))) (gN 2))
  (fN (nK Y1 (gN 3)
   uX)
  (hV Y2)))
def m4:List T->Option T:=jL aAv 5
def rV:FS:=
 (fN (fIf (iH (fLe Y1 (fIx Y0 (fI 2)))) (hV (oB Y1 (fIx Y0 (fI 0)))) i0)
  (hV (j0 (oB (fIx Y0 (fI 2)) (pD (fIx Y0 (fI 0)) (fIx Y0 (fI 1)))) (oB Y1 (fIx Y0 (fI 1))))))
def lH:List T->Option T:=jL rV 2
def aEz:FS:=
 (fN (fZ (f7 2 m4 (eX (pC (eX Y0 fH)) (eX Y1 fH))) (gN 3))
  (fN (fZ (aH3 (eX (fV (rK Y0 Y3 2 [] (gU [0,1]) hW (f7 2 lH (eX Y0 (eX Y1 fH))))) fH)) (gN 4))
  (hV (pD Y4 (oB Y2 (aH3 (eX (fV (jR Y1 1 [] (gN 0) hW (fIx Y0 (fI 0)))) fH)))))))
def v3:List T->Option T:=jL aEz 5
def aCX:FS:=
 (fN (fZ (j4 (j0 (j0 (oB Y0 (fI 48271)) (oB (oB Y1 Y1) (fI 69621))) (fI 3)) (fI 2147483647)) (gN 2))
  (fN (fZ (j4 (oB Y2 Y2) (fI 2147483629)) (gN 2))
  (hV (j4 (oB Y2 Y2) (fI 2147483587)))))
def kH:List T->Option T:=jL aCX 3
def tD:FS:=
 (fN (fZ (j4 Y2 (fI 40)) (gN 3))
  (qZ (f7 2 kH (eX (j0 (fIx Y1 Y3) (fIx Y0 Y2)) (eX Y2 fH))) Y1 Y3))
def xJ:FS:=
 (fN (fZ (iU (kA (fI 40) 1 [0] (gN 0) hW (f7 2 kH (eX (f7 2 iY (eX Y1 (eX (fI 0) fH))) (eX (j0 (fI 90) Y0) fH))))) (gN 1))
  (fN (p5 (fI 2) (yH (eX (fI 63) (eX (pC (eX Y0 fH)) fH))) (gN 2)
   tD)
  (hV Y1)))
def nE:List T->Option T:=jL xJ 4
def xN:FS:=
 (aJY Y2 (eX (j4 (f7 2 kH (eX Y0 (eX Y3 fH))) (j0 Y3 (fI 1))) (eX Y3 fH)))
def aCZ:FS:=
 (fN (fZ (iU (gJ fH)) (gN 2))
  (fN (mE Y1 (gN 3)
   xN)
  (hV Y2)))
def tL:List T->Option T:=jL aCZ 4
def sR:FS:=
 (fN (fZ (f7 2 iY (eX Y0 (eX (j0 (fI 3) Y5) fH))) (gN 6))
  (fN (fZ (j4 Y6 (fIx (fV (gJ (eX (fI 5) (eX Y3 fH)))) (tQ (eX (fGt Y3 (fI 1)) fH)))) (gN 7))
  (fN (fZ (aAq Y6 (fIx (fV (gJ (eX (fI 5) (eX Y3 fH)))) (tQ (eX (fGt Y3 (fI 1)) fH)))) (gN 6))
  (fN (fZ (j4 Y6 (fIx (fV (gJ (eX (fI 6) (eX Y3 fH)))) (tQ (eX (fGt Y3 (fI 1)) fH)))) (gN 8))
  (fN (fZ (aAq Y6 (fIx (fV (gJ (eX (fI 6) (eX Y3 fH)))) (tQ (eX (fGt Y3 (fI 1)) fH)))) (gN 6))
  (qQ Y4 (eX (fV (gJ (eX (j0 Y7 Y8) (eX Y7 (eX (j4 Y6 (fIx (fV (gJ (eX (fI 5) (eX Y3 fH)))) (tQ (eX (fGt Y3 (fI 1)) fH)))) fH))))) fH)))))))
def tJ:FS:=
 (fN (aJY Y9 (eX (j4 Y6 (j0 Y5 (fI 1))) (eX Y5 fH)))
  (fZ (aAq Y6 (j0 Y5 (fI 1))) (gN 6)))
def sN:FS:=
 (fN (fIf (iH (fEq (j4 Y6 (fI 2)) (fI 1))) (qQ Y10 (eX (fV (gJ (eX Y11 (eX (fIx Y9 Y5) fH)))) fH)) i0)
  (fZ (qR Y6 (fI 2)) (gN 6)))
def sK:FS:=
 (nK (fV (fSl Y9 nQ (tR Y5))) (gN 11)
  sN)
def yB:FS:=
 (fN (fZ (fIx (fV (gJ (eX (fI 1) (eX (oB Y2 (fPow (fI 10) (fI 9))) fH)))) (j4 (qR (f7 2 iY (eX Y0 (eX (fI 1) fH))) (fI 576)) (fI 2))) (gN 3))
  (fN (fZ (iU (gJ fH)) (gN 4))
  (fN (mE Y1 (gN 5)
   sR)
  (fN (fZ (f7 2 iY (eX Y0 (eX (fI 2) fH))) (gN 6))
  (fN (fZ (iU (gJ fH)) (gN 9))
  (fN (mE Y1 (gN 5)
   tJ)
  (fN (fZ (iU (gJ fH)) (gN 10))
  (fN (mE Y1 (gN 5)
   sK)
  (hV (vC (eX Y4 (eX Y10 fH))))))))))))
def oZ:List T->Option T:=jL yB 12
def aE0:FS:=
 (fN (fZ (j4 Y0 (fI 5)) (gN 5))
  (fN (fZ (j4 Y1 (fI 6)) (gN 6))
  (fN (fZ (j4 Y2 (fI 5)) (gN 7))
  (fN (fIf (iH (fEq Y3 (fI 1))) (fN (fZ (j0 (oB Y0 Y4) (j4 Y1 (fI 97))) (gN 5))
  (fN (fZ (oB (oB Y1 Y4) (tQ (eX (fGt (j4 Y1 (fI 4)) (fI 0)) fH))) (gN 6))
  (fZ (j0 (oB Y2 Y4) (j4 Y0 (fI 89))) (gN 7)))) i0)
  (fN (fIf (iH (fEq Y3 (fI 2))) (fN (fZ (oB (j4 Y1 (fI 3)) (j4 (qR Y1 (fI 3)) (fI 50))) (gN 6))
  (fZ (fIx (fV (gJ (eX (fI 0) (eX (fI 3) (eX (fI 3) (eX (j0 (fI 1) (j4 Y2 (fI 40))) fH)))))) (j4 (qR Y2 (fI 64)) (fI 4))) (gN 7))) i0)
  (fN (fIf (qY (iH (fEq Y3 (fI 3))) (iH (fEq (j4 Y0 (fI 3)) (fI 0)))) (fZ (fI 0) (gN 5)) i0)
  (hV (fV (gJ (eX (j0 Y5 Y6) (eX Y5 (eX Y7 fH))))))))))))
def sH:List T->Option T:=jL aE0 8
def aEV:FS:=
 (fIf (iH (fGt Y6 (fI 1))) (fN (fZ (j0 (fI 1) (j4 (fIx Y3 Y11) (pD Y6 (fI 1)))) (gN 12))
  (fN (fZ (j4 (qR (fIx Y3 Y11) (fI 16)) (yH (eX Y12 (eX (fIx (fV (gJ (eX (fI 1) (eX (fI 2) (eX (fI 8) fH))))) (j4 (qR Y7 (fI 16)) (fI 3))) fH)))) (gN 13))
  (fN (fZ (fIx (fV (gJ (eX (pD (pD Y12 (fI 1)) Y13) (eX Y13 fH)))) (j4 (qR Y7 (fI 48)) (fI 2))) (gN 14))
  (aJY Y10 (eX (j4 (qR (fIx Y3 Y11) (fI 256)) (j0 (pC (eX Y10 fH)) (fI 1))) (eX (fV (gJ (eX (fIx Y9 Y14) (eX (fIx Y9 Y12) fH)))) fH)))))) i0)
def aLs:FS:=
 (fN (fZ (f7 1 nE (eX Y0 fH)) (gN 3))
  (fN (fZ (f7 2 iY (eX Y0 (eX (fI 0) fH))) (gN 4))
  (fN (fZ (j4 (qR Y4 (fI 4)) (yH (eX (fI 6) (eX (j0 Y1 (fI 1)) fH)))) (gN 5))
  (fN (fZ (fIx (fV (gJ (eX Y5 (eX (pD Y1 (fIx (fV (gJ (eX (fI 0) (eX (fI 0) (eX (fI 1) (eX (fI 2) fH)))))) (j4 (qR Y4 (fI 4)) (fI 4)))) (eX Y5 (eX (yH (eX Y1 (eX (j0 (fI 3) (j4 (qR Y4 (fI 4)) (fI 3))) fH))) fH)))))) (j4 Y4 (fI 4))) (gN 6))
  (fN (fZ (f7 2 iY (eX Y0 (eX (fI 1) fH))) (gN 7))
  (fN (fIf (iH (fEq (j4 (qR Y7 (fI 288)) (fI 2)) (fI 1))) (hV (f7 3 oZ (eX Y0 (eX (yH (eX Y6 (eX (fIx (fV (gJ (eX (fI 5) (eX (fI 3) fH)))) (tQ (eX (fLt Y1 (fI 5)) fH))) fH))) (eX Y2 fH))))) i0)
  (fN (fZ (fV (kA Y6 1 [3,7,2] (gN 0) hW (f7 5 sH (eX (fIx Y1 Y0) (eX (fIx Y1 (j0 (fI 8) Y0)) (eX (fIx Y1 (j0 (fI 16) Y0)) (eX (j4 Y2 (fI 4)) (eX Y3 fH)))))))) (gN 8))
  (fN (fZ (f7 2 tL (eX (fIx Y3 (fI 39)) (eX Y6 fH))) (gN 9))
  (fN (fZ (iU (gJ fH)) (gN 10))
  (fN (p5 (fI 24) (j0 (fI 24) (yH (eX (fI 14) (eX (j0 Y6 (j4 (qR Y7 (fI 4)) (fI 4))) fH)))) (gN 11)
   aEV)
  (hV (vC (eX Y8 (eX (fV (fSl Y10 (tR (j4 (qR Y7 (fI 96)) (fI 3))) nQ)) fH))))))))))))))
def z6:List T->Option T:=jL aLs 15
def rC:FS:=
 (hV (fV (jR Y0 1 [] (gN 0) hW (fIx Y0 (fI 1)))))
def kX:List T->Option T:=jL rC 1
def tI:FS:=
 (hV (aF0 (iH (fEq (fIx Y0 (fI 2)) (fI 0))) (fIx Y0 (fI 1)) (fIx Y0 (fI 0))))
def lC:List T->Option T:=jL tI 1
def u7:FS:=
 (hV (f7 2 kI (eX (f7 1 kX (eX Y0 fH)) (eX Y1 fH))))
def gZ:List T->Option T:=jL u7 2
def wM:FS:=
 (hV (f7 2 kI (eX (fV (jR Y0 1 [] (gN 0) hW (f7 1 lC (eX Y0 fH)))) (eX Y1 fH))))
def nA:List T->Option T:=jL wM 2
def u3:FS:=
 (qZ (fMax2 (eX (fIx Y2 Y5) (eX (j0 (fIx Y2 Y4) (fIx Y0 Y4)) fH))) Y2 Y5)
def vA:FS:=
 (nK Y1 (gU [4,5])
  u3)
def aAH:FS:=
 (fN (fZ (iU (jR Y0 1 [] (gN 0) hW (fI 0))) (gN 2))
  (fN (mE (pC (eX Y0 fH)) (gN 3)
   vA)
  (hV (fMaxL (eX (fV (aJe (fV (kA (pC (eX Y0 fH)) 1 [2,0] (gN 0) hW (j0 (fIx Y1 Y0) (fIx Y2 Y0)))) (fV (gJ (eX (fI 0) fH))))) fH)))))
def kQ:List T->Option T:=jL aAH 6
def aEQ:FS:=
 (fN (fZ (f7 2 kQ (eX (fV (jR Y0 1 [] (gN 0) hW (fIx Y0 (fI 1)))) (eX Y1 fH))) (gN 2))
  (hV (vC (eX Y2 (eX (f7 2 kQ (eX (fV (jR Y0 1 [] (gN 0) hW (fIx Y0 (tQ (eX (fEq (fIx Y0 (fI 2)) (fI 0)) fH))))) (eX Y1 fH))) fH)))))
def sY:List T->Option T:=jL aEQ 3
def q9:FS:=
 (hV (j0 (oB (fI 2) Y0) (fI 2)))
def iR:List T->Option T:=jL q9 1
def rZ:FS:=
 (hV (j0 (oB (fI 2) Y0) (fI 3)))
def jA:List T->Option T:=jL rZ 1
def aAu:FS:=
 (hV (pD (qR Y0 (fI 2)) (fI 1)))
def qL:List T->Option T:=jL aAu 1
def yE:FS:=
 (fN (nU "Pipe" "tail" Y0 Y1)
  (fN (nU "Pipe" "head" Y0 Y2)
  (fN (nU "Pipe" "hours" Y0 Y3)
  (fN (nU "Pipe" "room" Y0 Y4)
  (nU "Pipe" "back" Y0 (fC .non))))))
def lP:List T->Sto->Option (T×Sto):=mY yE 5
def aAP:FS:=
 (fN (fZ (sX "Pipe" 5 lP [] (eX Y1 (eX Y2 (eX Y3 (eX Y4 fH))))) (gN 5))
  (fN (fZ (sX "Pipe" 5 lP [] (eX Y2 (eX Y1 (eX (aMF Y3) (eX (fI 0) fH))))) (gN 6))
  (fN (nU "Pipe" "back" Y5 Y6)
  (fN (nU "Pipe" "back" Y6 Y5)
  (qQ (kL "Net" "pipes" Y0) (eX Y5 fH))))))
def jJ:List T->Sto->Option (T×Sto):=mY aAP 7
def nN:FS:=
 (fN (mJ (kE "Net" "lay" 5 jJ Y0 (eX (fI 0) (eX (f7 1 iR (eX Y5 fH)) (eX (fI 0) (eX Y4 fH))))))
  (fN (mJ (kE "Net" "lay" 5 jJ Y0 (eX (f7 1 iR (eX Y5 fH)) (eX (f7 1 jA (eX Y5 fH)) (eX (fIx Y6 (fI 0)) (eX (fIx Y6 (fI 2)) fH))))))
  (fN (mJ (kE "Net" "lay" 5 jJ Y0 (eX (f7 1 iR (eX Y5 fH)) (eX (f7 1 jA (eX Y5 fH)) (eX (fIx Y6 (fI 1)) (eX Y4 fH))))))
  (mJ (kE "Net" "lay" 5 jJ Y0 (eX (f7 1 jA (eX Y5 fH)) (eX (fI 1) (eX (fI 0) (eX Y4 fH)))))))))
def uU:FS:=
 (mJ (kE "Net" "lay" 5 jJ Y0 (eX (f7 1 jA (eX Y9 fH)) (eX (f7 1 iR (eX Y7 fH)) (eX (fI 0) (eX Y4 fH))))))
def nW:FS:=
 (nK Y8 (gN 9)
  uU)
def aAd:FS:=
 (fN (nU "Net" "pipes" Y0 (iU (gJ fH)))
  (fN (nU "Net" "places" Y0 (j0 (oB (fI 2) (pC (eX Y1 fH))) (fI 2)))
  (fN (fZ (j0 (j0 (aH3 (eX (fV (jR Y1 1 [] (gN 0) hW (fIx Y0 (fI 2)))) fH)) Y3) (fI 1)) (gN 4))
  (fN (yA Y1 (gU [5,6])
   nN)
  (yA (f7 2 gQ (eX (pC (eX Y1 fH)) (eX Y2 fH))) (gU [7,8])
   nW)))))
def lT:List T->Sto->Option (T×Sto):=mY aAd 10
def n6:FS:=
 (fN (fZ (fV (aJe (kL "Net" "pipes" Y0) (fV (jR (kL "Net" "pipes" Y0) 1 [] (gN 0) hW (kL "Pipe" "back" Y0))))) (gN 1))
  (hV (fV (jR Y1 1 [] (gN 0) (iH (fGt (kL "Pipe" "room" Y0) (fI 0))) Y0))))
def jD:List T->Sto->Option (T×Sto):=mY n6 2
def nP:FS:=
 (fN (fZ (j0 (fIx Y0 (kL "Pipe" "tail" Y3)) (kL "Pipe" "hours" Y3)) (gN 4))
  (fIf (iH (fGt Y4 (fIx Y0 (kL "Pipe" "head" Y3)))) (fN (qZ Y4 Y0 (kL "Pipe" "head" Y3))
  (fZ (fC (.bl true)) (gN 2))) i0))
def pA:FS:=
 (fN (fZ (fC (.bl false)) (gN 2))
  (fN (nK Y1 (gN 3)
   nP)
  (hV Y2)))
def kZ:List T->Sto->Option (T×Sto):=mY pA 5
def vS:FS:=
 i0
def qW:FS:=
 (fN (fZ (iU (kA (kL "Net" "places" Y0) 1 [] (gN 0) hW (fI 0))) (gN 2))
  (fN (qZ Y1 Y2 (fI 1))
  (fN (fZ (kE "Net" "open_pipes" 1 jD Y0 fH) (gN 3))
  (fN (lD (nB (k7 2 kZ (eX Y2 (eX Y3 fH)))) vS (10^200))
  (hV Y2)))))
def jB:List T->Sto->Option (T×Sto):=mY qW 4
def o5:FS:=
 (fIf (qY (iH (iV (kL "Pipe" "tail" Y3) Y0 (wX true))) (iH (iV (kL "Pipe" "head" Y3) Y0 (wX false)))) (zB Y2 (kL "Pipe" "head" Y3) (fV (aJe (aAI Y0 (kL "Pipe" "tail" Y3)) (fV (gJ (eX Y3 fH)))))) i0)
def qU:FS:=
 (fN (fZ (vG (.dk [])) (gN 2))
  (fN (nK Y1 (gN 3)
   o5)
  (hV Y2)))
def l5:List T->Sto->Option (T×Sto):=mY qU 4
def o9:FS:=
 (mJ (zD Y3 (k7 2 l5 (eX Y3 (eX Y2 fH)))))
def qT:FS:=
 (fN (fZ (fV (jR Y0 1 [1] (gN 0) (iH (fEq (j0 (fIx Y1 (kL "Pipe" "tail" Y0)) (kL "Pipe" "hours" Y0)) (fIx Y1 (kL "Pipe" "head" Y0)))) Y0)) (gN 2))
  (fN (fZ (tZ (fI 0) (fV (gJ fH))) (gN 3))
  (fN (lD (iH (iV (fI 1) Y3 (wX false))) o9 40)
  (hV (aAI Y3 (fI 1))))))
def lV:List T->Sto->Option (T×Sto):=mY qT 4
def aAg:FS:=
 (hV (aGI (eX (fV (jR Y0 1 [] (gN 0) hW (kL "Pipe" "room" Y0))) fH)))
def qH:List T->Sto->Option (T×Sto):=mY aAg 1
def aCV:FS:=
 (fN (vE "Pipe" "room" (fun i j=>i - j) Y2 Y1)
  (vE "Pipe" "room" (fun i j=>i+j) (kL "Pipe" "back" Y2) Y1))
def aIK:FS:=
 (nK Y0 (gN 2)
  aCV)
def aBb:List T->Sto->Option (T×Sto):=mY aIK 3
def tG:FS:=
 (fN (fZ (k7 2 lV (eX (kE "Net" "open_pipes" 1 jD Y0 fH) (eX Y2 fH))) (gN 3))
  (fN (mJ (k7 2 aBb (eX Y3 (eX (k7 1 qH (eX Y3 fH)) fH))))
  (fZ (kE "Net" "moments" 2 jB Y0 (eX (fI 0) fH)) (gN 2))))
def x6:FS:=
 (fN (fZ (kE "Net" "moments" 2 jB Y0 (eX (fI 0) fH)) (gN 2))
  (lD (iH (fGt (fIx Y2 (fI 1)) Y1)) tG (10^200)))
def lQ:List T->Sto->Option (T×Sto):=mY x6 4
def tN:FS:=
 (hV (fV (tX Y1 1 [0,1] (gN 0) (qY (iH (fEq (fIx Y0 (fI 0)) Y1)) (iH (fGt (aAI Y2 Y0) (fI 0)))) Y0)))
def lK:List T->Sto->Option (T×Sto):=mY tN 2
def nL:FS:=
 (fN (qQ Y1 (eX (fIx Y2 (fI 0)) fH))
  (fZ (k7 2 lK (eX (fIx (fIx Y2 (fI 0)) (fI 1)) (eX Y0 fH))) (gN 2)))
def pB:FS:=
 (fN (fZ (iU (gJ fH)) (gN 1))
  (fN (fZ (k7 2 lK (eX (fI 0) (eX Y0 fH))) (gN 2))
  (fN (lD (nB Y2) nL 40)
  (hV Y1))))
def j3:List T->Sto->Option (T×Sto):=mY pB 3
def xK:FS:=
 (hV (fV (jR (fV (aGb Y0)) 2 [] (gU [0,1]) hW (f7 1 qL (eX Y0 fH)))))
def oS:List T->Sto->Option (T×Sto):=mY xK 1
def tT:FS:=
 (aAQ (fun i j=>i - j) Y0 Y3 Y2)
def yT:FS:=
 (fN (fZ (aGI (eX (fV (jR Y1 1 [0] (gN 0) hW (aAI Y1 Y0))) fH)) (gN 2))
  (fN (nK Y1 (gN 3)
   tT)
  (hV Y2)))
def o0:List T->Sto->Option (T×Sto):=mY yT 4
def pL:FS:=
 (fN (fZ (vC (eX (kL "Pipe" "tail" Y2) (eX (kL "Pipe" "head" Y2) fH))) (gN 3))
  (zB Y1 Y3 (j0 (uK Y1 Y3 (fI 0)) (kL "Pipe" "room" (kL "Pipe" "back" Y2)))))
def pW:FS:=
 (fN (qQ Y4 (eX (iU (aJe (fV (gJ (eX (k7 2 o0 (eX Y1 (eX Y5 fH))) fH))) (k7 1 oS (eX Y5 fH)))) fH))
  (fZ (k7 1 j3 (eX Y1 fH)) (gN 5)))
def rR:FS:=
 (fN (fZ (vG (.dt [])) (gN 1))
  (fN (nK (kL "Net" "pipes" Y0) (gN 2)
   pL)
  (fN (fZ (iU (gJ fH)) (gN 4))
  (fN (fZ (k7 1 j3 (eX Y1 fH)) (gN 5))
  (fN (lD (nB Y5) pW (10^200))
  (hV Y4))))))
def mL:List T->Sto->Option (T×Sto):=mY rR 6
def tM:FS:=
 (fN (fZ (sX "Net" 4 lT [.int 0] (eX Y0 (eX Y1 fH))) (gN 3))
  (fN (mJ (kE "Net" "fill" 2 lQ Y3 (eX Y2 fH)))
  (hV Y3)))
def mR:List T->Sto->Option (T×Sto):=mY tM 4
def pI:FS:=
 (fN (fIf (iH (fLt Y2 (f7 2 gZ (eX Y0 (eX Y1 fH))))) (hV (fC .non)) i0)
  (hV (kE "Net" "stream" 1 mL (k7 3 mR (eX Y0 (eX Y1 (eX Y2 fH)))) fH)))
def kD:List T->Option (T×Sto):=zY pI 3
def rN:FS:=
 (fN (fIf (iH (fLt Y2 (f7 2 gZ (eX Y0 (eX Y1 fH))))) (hV (fC .non)) i0)
  (hV (f7 3 v3 (eX Y0 (eX (aDZ 3 kD (eX Y0 (eX Y1 (eX Y2 fH)))) (eX Y2 fH))))))
def jE:List T->Option T:=jL rN 3
def uE:FS:=
 (fN (fIf (iH (fLe Y2 (f7 2 gZ (eX Y0 (eX Y1 fH))))) (hV (fC .non)) i0)
  (hV (pD (f7 3 jE (eX Y0 (eX Y1 (eX (pD Y2 (fI 1)) fH)))) (f7 3 jE (eX Y0 (eX Y1 (eX Y2 fH)))))))
def mZ:List T->Option T:=jL uE 3
def nT:FS:=
 (hV (fIx (kE "Net" "moments" 2 jB Y0 (eX (fI 0) fH)) (fI 1)))
def j8:List T->Sto->Option (T×Sto):=mY nT 1
def sC:FS:=
 (hV (aH3 (eX (fV (jR (kL "Net" "pipes" Y0) 1 [] (gN 0) (iH (fEq (kL "Pipe" "tail" Y0) (fI 0))) (kL "Pipe" "room" (kL "Pipe" "back" Y0)))) fH)))
def mO:List T->Sto->Option (T×Sto):=mY sC 1
def u9:FS:=
 (fN (mJ (kE "Net" "fill" 2 lQ Y6 (eX (pD Y3 (fI 1)) fH)))
  (fN (fZ (kE "Net" "open_length" 1 j8 Y6 fH) (gN 7))
  (fN (fZ (j0 Y4 (oB (kE "Net" "amount" 1 mO Y6 fH) (pD Y3 Y7))) (gN 4))
  (fN (fZ Y7 (gN 3))
  (qQ Y5 (eX (iU (gJ (eX Y3 (eX Y4 fH)))) fH))))))
def aAE:FS:=
 (fN (fZ (f7 2 gZ (eX Y0 (eX Y1 fH))) (gN 2))
  (fN (fZ (f7 2 nA (eX Y0 (eX Y1 fH))) (gN 3))
  (fN (fZ (fI 0) (gN 4))
  (fN (fZ (iU (gJ (eX (iU (gJ (eX Y3 (eX Y4 fH)))) fH))) (gN 5))
  (fN (fZ (sX "Net" 4 lT [.int 0] (eX Y0 (eX Y1 fH))) (gN 6))
  (fN (lD (iH (fGt Y3 Y2)) u9 (10^200))
  (hV Y5)))))))
def oE:List T->Option (T×Sto):=zY aAE 8
end Lib
namespace TL
open PySem L2
section
variable {τ:TSt}{C:Sto}{a b c f fe fo fi:FE}{fa fr fn:FN}{fb ga gb:FB}{F G:FS}
def wpE(f:FE)(τ:TSt)(C:Sto)(Q:T->Sto->Prop):Prop:=∃t C',f τ C=some (t,C')/\Q t C'
def wpA(f:FN)(τ:TSt)(C:Sto)(Q:List T->Sto->Prop):Prop:=∃t C',f τ C=some (t,C')/\Q t C'
def wpB(f:FB)(τ:TSt)(C:Sto)(Q:Bool->Sto->Prop):Prop:=∃t C',f τ C=some (t,C')/\Q t C'
def wpS(F:FS)(τ:TSt)(C:Sto)(Q:Fl->TSt->Sto->Prop):Prop:=∃l t C',F τ C=some (l,t,C')/\Q l t C'
def wpO(o:Option (T×Sto))(Q:T->Sto->Prop):Prop:=∃t C',o=some (t,C')/\Q t C'
def wpL(o:Option (List T))(Q:List T->Prop):Prop:=∃t,o=some t/\Q t
def wpC(o:Option (List T×Sto))(Q:List T->Sto->Prop):Prop:=∃t C',o=some (t,C')/\Q t C'
def wpG(g:FG)(t:T)(C:Sto)(τ:TSt)(Q:TSt->Prop):Prop:=∃ag,g t C τ=some ag/\Q ag
def wpR(o:Option T)(Q:T->Prop):Prop:=∃t,o=some t/\Q t
variable {Q:T->Sto->Prop}{QL:List T->Sto->Prop}{QB:Bool->Sto->Prop}{QS:Fl->TSt->Sto->Prop}{QG:TSt->Prop}{Ql:List T->Prop}
variable{i j lo:Int}{u:T}{R:List T->Option T}{P:Sto->Prop}
theorem eY{i:Nat}:wpE (jF i) τ C Q↔∃t,τ[i]?=some (some t)/\Q t C:=by
 unfold wpE jF;constructor
 ·rintro⟨t,C',e,q⟩;split at e
  ·rename_i t' h;cases e;exact⟨_,h,q⟩
  ·cases e
 ·rintro⟨t,e,q⟩
  exact⟨t,C,by rw[e],q⟩
theorem gG{t:T}:wpE (fC t) τ C Q↔Q t C:=by
 unfold wpE fC;constructor
 ·rintro⟨_,_,e,q⟩;cases e;exact q
 ·exact fun q=>⟨_,_,rfl,q⟩
theorem fL{g:T->T->Sto->Option (T×Sto)}:wpE (iV a b g) τ C Q↔wpE a τ C fun x C1=>wpE b τ C1 fun y C2=>wpO (g x y C2) Q:=by
 unfold wpE iV wpO;constructor
 ·rintro⟨t,C',e,q⟩;obtain⟨⟨x,C1⟩,e1,e⟩:=aK.mp e;obtain⟨⟨y,C2⟩,e2,e⟩:=aK.mp e
  exact⟨x,C1,e1,y,C2,e2,t,C',e,q⟩
 ·rintro⟨x,C1,e1,y,C2,e2,t,C',e,q⟩
  exact⟨t,C',by simp[e1,e2,e],q⟩
theorem xG{g:T->Sto->Option (T×Sto)}:wpE (fUn a g) τ C Q↔wpE a τ C fun x C1=>wpO (g x C1) Q:=by
 unfold wpE fUn wpO;constructor
 ·rintro⟨t,C',e,q⟩;obtain⟨⟨x,C1⟩,e1,e⟩:=aK.mp e
  exact⟨x,C1,e1,t,C',e,q⟩
 ·rintro⟨x,C1,e1,t,C',e,q⟩
  exact⟨t,C',by simp[e1,e],q⟩
theorem sT{g:T->T->Sto->Option (List T)}:wpA (xC a b g) τ C QL↔wpE a τ C fun x C1=>wpE b τ C1 fun y C2=>wpL (g x y C2) fun us=>QL us C2:=by
 unfold wpA wpE xC wpL;constructor
 ·rintro⟨t,C',e,q⟩;obtain⟨⟨x,C1⟩,e1,e⟩:=aK.mp e;obtain⟨⟨y,C2⟩,e2,e⟩:=aK.mp e;obtain⟨us,e3,e⟩:=aL.mp e;cases e
  exact⟨x,C1,e1,y,_,e2,_,e3,q⟩
 ·rintro⟨x,C1,e1,y,C2,e2,t,e,q⟩
  exact⟨t,C2,by simp[e1,e2,e],q⟩
theorem fJ:wpA fH τ C QL↔QL [] C:=by
 unfold wpA fH;constructor
 ·rintro⟨_,_,e,q⟩;cases e;exact q
 ·exact fun q=>⟨_,_,rfl,q⟩
theorem e9:wpA (eX a fr) τ C QL↔wpE a τ C fun x C1=>wpA fr τ C1 fun xs C2=>QL (x::xs) C2:=by
 unfold wpA wpE eX;constructor
 ·rintro⟨t,C',e,q⟩;obtain⟨⟨x,C1⟩,e1,e⟩:=aK.mp e;obtain⟨⟨y,C2⟩,e2,e⟩:=aL.mp e;cases e
  exact⟨x,C1,e1,y,_,e2,q⟩
 ·rintro⟨x,C1,e1,y,C2,e2,q⟩
  exact⟨_,C2,by simp[e1,e2],q⟩
theorem gC{g:List T->Sto->Option (T×Sto)}:wpE (mP fa g) τ C Q↔wpA fa τ C fun xs C1=>wpO (g xs C1) Q:=by
 unfold wpE wpA mP wpO;constructor
 ·rintro⟨t,C',e,q⟩;obtain⟨⟨x,C1⟩,e1,e⟩:=aK.mp e
  exact⟨x,C1,e1,t,C',e,q⟩
 ·rintro⟨x,C1,e1,t,C',e,q⟩
  exact⟨t,C',by simp[e1,e],q⟩
theorem sL{g:List T->Sto->Option (List T)}:wpA (vD fa g) τ C QL↔wpA fa τ C fun xs C1=>wpL (g xs C1) fun us=>QL us C1:=by
 unfold wpA vD wpL;constructor
 ·rintro⟨t,C',e,q⟩;obtain⟨⟨x,C1⟩,e1,e⟩:=aK.mp e;obtain⟨us,e3,e⟩:=aL.mp e;cases e
  exact⟨x,_,e1,_,e3,q⟩
 ·rintro⟨x,C1,e1,t,e,q⟩
  exact⟨t,C1,by simp[e1,e],q⟩
theorem hJ:wpA (gJ fa) τ C QL↔wpA fa τ C fun xs C1=>xs.length<=lim/\QL xs C1:=by
 unfold gJ;rw[sL];unfold wpA wpL;constructor
 ·rintro⟨x,C1,e,t,e2,q⟩;split at e2
  ·cases e2;exact⟨_,_,e,‹_›,q⟩
  ·cases e2
 ·rintro⟨x,C1,e,h,q⟩
  exact⟨x,C1,e,x,by rw[if_pos h],q⟩
theorem gE:wpE (fV fn) τ C Q↔wpA fn τ C fun us C1=>Q (.lst us) C1:=by
 unfold wpE wpA fV;constructor
 ·rintro⟨t,C',e,q⟩;obtain⟨⟨x,C1⟩,e1,e⟩:=aL.mp e;cases e
  exact⟨x,_,e1,q⟩
 ·rintro⟨x,C1,e1,q⟩
  exact⟨_,C1,by simp[e1],q⟩
theorem jK:wpE (iU fn) τ C Q↔wpA fn τ C fun us C1=>Q (.cell C1.length) (C1++[(.l,us)]):=by
 unfold wpE wpA iU;constructor
 ·rintro⟨t,C',e,q⟩;obtain⟨⟨x,C1⟩,e1,e⟩:=aL.mp e;cases e
  exact⟨x,_,e1,q⟩
 ·rintro⟨x,C1,e1,q⟩
  exact⟨_,_,by simp[e1],q⟩
theorem jS{g:Int->Int->T}:wpO (gI g (.int i) (.int j) C) Q↔Q (g i j) C:=by
 unfold wpO gI;constructor
 ·rintro⟨_,_,e,q⟩;cases e;exact q
 ·exact fun q=>⟨_,_,rfl,q⟩
theorem aNm{p:Prop}[Decidable p]{o:Option (T×Sto)}:wpO (if p then o else none) Q↔p/\wpO o Q:=by
 by_cases h:p<;>simp[h,wpO]
theorem oH{t:T}:wpO (some (t,C)) Q↔Q t C:=by
 unfold wpO;constructor
 ·rintro⟨_,_,e,q⟩;cases e;exact q
 ·exact fun q=>⟨_,_,rfl,q⟩
theorem oQ{k:Int->Int->Bool}{g:Int->Int->T}:wpO (gIc k g (.int i) (.int j) C) Q↔k i j=true/\Q (g i j) C:=by
 show wpO (if k i j=true then some (g i j,C)else none) Q↔_;rw[aNm,oH]
theorem jG{t:T}:wpO (gIx t (.int i) C) Q↔∃ts,sqT C t=some ts/\∃x,atI ts i=some x/\Q x C:=by
 unfold wpO gIx;constructor
 ·rintro⟨t,C',e,q⟩;obtain⟨ts,e1,e⟩:=aK.mp e;obtain⟨x,e2,e⟩:=aL.mp e;cases e
  exact⟨ts,e1,_,e2,q⟩
 ·rintro⟨ts,e1,x,e2,q⟩
  exact⟨_,C,by simp[e1,e2],q⟩
theorem sZ{t:T}:wpO (aF8 [t] C) Q↔∃ts,sqT C t=some ts/\Q (.int ts.length) C:=by
 unfold wpO aF8;constructor
 ·rintro⟨t,C',e,q⟩;obtain⟨ts,e1,e⟩:=aL.mp e;cases e
  exact⟨ts,e1,q⟩
 ·rintro⟨ts,e1,q⟩
  exact⟨_,C,by simp[e1],q⟩
theorem zC{t:T}:wpL (aEw [t] C) Ql↔∃ts,sqT C t=some ts/\Ql ts:=aPx
theorem wH{t:T}:wpL (aFj t u C) Ql↔∃ts,liT C t=some ts/\∃us,liT C u=some us/\ts.length+us.length<=lim/\Ql (ts++us):=by
 unfold wpL aFj;constructor
 ·rintro⟨t,e,q⟩;obtain⟨ts,e1,e⟩:=aK.mp e;obtain⟨us,e2,e⟩:=aK.mp e;split at e
  ·cases e;exact⟨ts,e1,us,e2,‹_›,q⟩
  ·cases e
 ·rintro⟨ts,e1,us,e2,h,q⟩
  exact⟨_,by simp[e1,e2,h],q⟩
theorem rX{k:List Int->Bool}{g:List Int->Int}{t:T}:wpO (wO k g [t] C) Q↔∃us,liT C t=some us/\∃ns,ints? us=some ns/\k ns=true/\Q (.int (g ns)) C:=by
 unfold wpO wO;constructor
 ·rintro⟨t,C',e,q⟩;obtain⟨ts,e1,e⟩:=aK.mp e;obtain⟨ns,e2,e⟩:=aK.mp e;split at e
  ·cases e;exact⟨ts,e1,ns,e2,‹_›,q⟩
  ·cases e
 ·rintro⟨ts,e1,us,e2,h,q⟩
  exact⟨_,_,by simp[e1,e2,h],q⟩
theorem aKu{g:List Bool->Bool}{t:T}:wpO (aI3 g [t] C) Q↔∃us,liT C t=some us/\∃ns,bls? us=some ns/\Q (.bl (g ns)) C:=by
 unfold wpO aI3;constructor
 ·rintro⟨t,C',e,q⟩;obtain⟨ts,e1,e⟩:=aK.mp e;obtain⟨ns,e2,e⟩:=aL.mp e;cases e;exact⟨ts,e1,ns,e2,q⟩
 ·rintro⟨ts,e1,us,e2,q⟩
  exact⟨_,_,by simp[e1,e2],q⟩
theorem aI1{g:Int->Int->Int}:wpO (gI2 g [.int i,.int j] C) Q↔Q (.int (g i j)) C:=oH
theorem aHG:wpO (gI2 (fun i j=>if j<i then j else i) [.int i,.int j] C) Q↔Q (.int (min i j)) C:=by
 rw[aI1,show(if j<i then j else i)=min i j by lia]
theorem aGV:wpO (gI2 (fun i j=>if j>i then j else i) [.int i,.int j] C) Q↔Q (.int (max i j)) C:=by
 rw[aI1,show(if j>i then j else i)=max i j by lia]
theorem aFz{i:Bool}:wpO (aEL [.bl i] C) Q↔Q (.int (if i then 1 else 0)) C:=oH
theorem aBK:wpO (aG8 (.int i) C) Q↔Q (.int (-i)) C:=oH
theorem aBv{k:String}:wpE (vK k a) τ C Q↔wpE a τ C fun t C1=>∃x,aMK k t=some x/\Q (.bl x) C1:=by
 unfold vK;rw[xG];unfold wpE wpO;constructor
 ·rintro⟨t,C',e,t2,C2,e2,q⟩;obtain⟨x,e3,e2⟩:=aL.mp e2;cases e2
  exact⟨t,_,e,x,e3,q⟩
 ·rintro⟨t,C',e,x,e2,q⟩
  exact⟨t,C',e,_,_,by simp[e2],q⟩
theorem aIi{n:Bool}{t:T}:wpO (gEq n t u C) Q↔∃x,dr 3 C t=some x/\∃y,dr 3 C u=some y/\∃k,eqT 5 x y=some k/\Q (.bl (if n then !k else k)) C:=by
 unfold wpO gEq;constructor
 ·rintro⟨t,C',e,q⟩;obtain⟨x,e1,e⟩:=aK.mp e;obtain⟨y,e2,e⟩:=aK.mp e;obtain⟨k,e3,e⟩:=aL.mp e;cases e
  exact⟨x,e1,y,e2,k,e3,q⟩
 ·rintro⟨x,e1,y,e2,k,e3,q⟩
  exact⟨_,_,by simp[e1,e2,e3],q⟩
theorem aL4{n:Bool}{t:T}:wpO (gIn n t u C) Q↔∃x,dr 3 C t=some x/\∃ts,liT C u=some ts/\∃us,mapO (dr 3 C) ts=some us/\∃k,inL (fun w=>eqT 5 w x) us=some k/\Q (.bl (if n then !k else k)) C:=by
 unfold wpO gIn;constructor
 ·rintro⟨t,C',e,q⟩;obtain⟨x,e1,e⟩:=aK.mp e;obtain⟨y,e2,e⟩:=aK.mp e;obtain⟨z,e4,e⟩:=aK.mp e;obtain⟨k,e3,e⟩:=aL.mp e;cases e
  exact⟨x,e1,y,e2,z,e4,k,e3,q⟩
 ·rintro⟨x,e1,y,e2,z,e4,k,e3,q⟩
  exact⟨_,_,by simp[e1,e2,e3,e4],q⟩
theorem aIP{n:Nat}{ts:List T}(hl:ts.length=n)(hc:CFs ts=true):wpO (iX n R ts C) Q↔wpR (R ts) fun t=>Q t C:=by
 unfold wpO iX wpR;rw[if_pos hl,if_pos hc];constructor
 ·rintro⟨t,C',e,q⟩;obtain⟨x,e1,e⟩:=aL.mp e;cases e;exact⟨_,e1,q⟩
 ·rintro⟨t,e,q⟩
  exact⟨_,_,by simp[e],q⟩
theorem fQ{n:Nat}{ts:List T}{t:T}(e:R ts=some t)(hl:ts.length=n)(hc:CFs ts=true):wpO (iX n R ts C) Q↔Q t C:=by
 rw[aIP hl hc,e];unfold wpR;constructor
 ·rintro⟨_,e,q⟩;cases e;exact q
 ·exact fun q=>⟨_,rfl,q⟩
theorem z5{n:Nat}{ts us:List T}(hl:ts.length=n)(hu:mapO (dr 3 C) ts=some us)(h:wpR (R us) fun t=>sca t=true/\Q t C):wpO (iX n R ts C) Q:=by
 unfold wpO iX;obtain⟨t,e,hs,q⟩:=h;rw[if_pos hl];split
 ·rename_i hc;have:us=ts:=by
   have hi:=aBC.mp hc;clear hl hc e;induction ts generalizing us with
   |nil=>cases hu;rfl
   |cons t ts ih=>
    obtain⟨u,e1,hu⟩:=aK.mp hu;obtain⟨r,e2,hu⟩:=aL.mp hu;cases hu;have h1:=hi t bJ;rw[ih e2 fun t h=>hi t (aZ _ h)];have:u=t:=by
     cases t<;>simp_all [dr,CF]
    rw[this]
  rw[<-this,e]
  exact⟨_,_,rfl,q⟩
 ·rw[hu]
  exact⟨t,C,by simp[e,hs],q⟩
theorem gT:wpB (iH a) τ C QB↔wpE a τ C fun t C1=>∃x,t=.bl x/\QB x C1:=by
 unfold wpB wpE iH;constructor
 ·rintro⟨t,C',e,q⟩;obtain⟨⟨x,C1⟩,e1,e⟩:=aK.mp e;dsimp only at e;split at e
  ·cases e;exact⟨_,_,e1,_,rfl,q⟩
  ·cases e
 ·rintro⟨x,C1,e1,y,rfl,q⟩
  exact⟨y,C1,by simp[e1],q⟩
theorem lZ:wpB (nB a) τ C QB↔wpE a τ C fun t C1=>∃x,aMt C1 t=some x/\QB x C1:=by
 unfold wpB wpE nB;constructor
 ·rintro⟨t,C',e,q⟩;obtain⟨⟨x,C1⟩,e1,e⟩:=aK.mp e;obtain⟨y,e2,e⟩:=aL.mp e;cases e
  exact⟨_,_,e1,_,e2,q⟩
 ·rintro⟨x,C1,e1,y,e2,q⟩
  exact⟨y,C1,by simp[e1,e2],q⟩
theorem aBx:wpB (qY ga gb) τ C QB↔wpB ga τ C fun x C1=>if x=true then wpB gb τ C1 QB else QB false C1:=by
 unfold wpB qY;constructor
 ·rintro⟨t,C',e,q⟩;obtain⟨⟨x,C1⟩,e1,e⟩:=aK.mp e
  refine⟨x,C1,e1,?_⟩
  dsimp only at e;split at e
  ·rw[if_pos ‹_›];exact⟨t,C',e,q⟩
  ·cases e;rw[if_neg ‹_›];exact q
 ·rintro⟨x,C1,e1,q⟩;split at q
  ·obtain⟨t,C',e,q⟩:=q
   exact⟨t,C',by simp_all,q⟩
  ·exact⟨false,C1,by simp_all,q⟩
theorem m7:wpB (oK ga gb) τ C QB↔wpB ga τ C fun x C1=>if x=true then QB true C1 else wpB gb τ C1 QB:=by
 unfold wpB oK;constructor
 ·rintro⟨t,C',e,q⟩;obtain⟨⟨x,C1⟩,e1,e⟩:=aK.mp e
  refine⟨x,C1,e1,?_⟩
  dsimp only at e;split at e
  ·cases e;rw[if_pos ‹_›];exact q
  ·rw[if_neg ‹_›];exact⟨t,C',e,q⟩
 ·rintro⟨x,C1,e1,q⟩;split at q
  ·exact⟨true,C1,by simp_all,q⟩
  ·obtain⟨t,C',e,q⟩:=q
   exact⟨t,C',by simp_all,q⟩
theorem oP:wpB (lN ga) τ C QB↔wpB ga τ C fun x C1=>QB (!x) C1:=by
 unfold wpB lN;constructor
 ·rintro⟨t,C',e,q⟩;obtain⟨⟨x,C1⟩,e1,e⟩:=aL.mp e;cases e
  exact⟨x,_,e1,q⟩
 ·rintro⟨x,C1,e1,q⟩
  exact⟨_,C1,by simp[e1],q⟩
theorem aET:wpE (yJ a b) τ C Q↔wpE a τ C fun t C1=>∃x,t=.bl x/\if x=true then wpE b τ C1 Q else Q (.bl false) C1:=by
 unfold wpE yJ;constructor
 ·rintro⟨t,C',e,q⟩;obtain⟨⟨x,C1⟩,e1,e⟩:=aK.mp e
  refine⟨x,C1,e1,?_⟩
  dsimp only at e;split at e
  ·exact⟨true,rfl,by rw[if_pos rfl];exact⟨t,C',e,q⟩⟩
  ·cases e;exact⟨false,rfl,by rw[if_neg (by simp)];exact q⟩
  ·cases e
 ·rintro⟨x,C1,e1,y,rfl,q⟩;split at q
  ·obtain⟨t,C',e,q⟩:=q
   exact⟨t,C',by simp_all,q⟩
  ·exact⟨.bl false,C1,by simp_all,q⟩
theorem aKO:wpE (aAm a) τ C Q↔wpE a τ C fun t C1=>∃x,t=.bl x/\Q (.bl (!x)) C1:=by
 unfold wpE aAm;constructor
 ·rintro⟨t,C',e,q⟩;obtain⟨⟨x,C1⟩,e1,e⟩:=aK.mp e;dsimp only at e;split at e
  ·cases e;exact⟨_,_,e1,_,rfl,q⟩
  ·cases e
 ·rintro⟨x,C1,e1,y,rfl,q⟩
  exact⟨_,C1,by simp[e1],q⟩
theorem aKY:wpE (aF0 ga a b) τ C Q↔wpB ga τ C fun x C1=>if x=true then wpE a τ C1 Q else wpE b τ C1 Q:=by
 unfold wpB wpE aF0;constructor
 ·rintro⟨t,C',e,q⟩;obtain⟨⟨x,C1⟩,e1,e⟩:=aK.mp e
  refine⟨x,C1,e1,?_⟩
  dsimp only at e;split at e
  ·rw[if_pos ‹_›];exact⟨t,C',e,q⟩
  ·rw[if_neg ‹_›];exact⟨t,C',e,q⟩
 ·rintro⟨x,C1,e1,q⟩;split at q
  ·obtain⟨t,C',e,q⟩:=q
   exact⟨t,C',by simp_all,q⟩
  ·obtain⟨t,C',e,q⟩:=q
   exact⟨t,C',by simp_all,q⟩
theorem aFl{p q:Int->Int->Bool}:wpE (uS a b c p q) τ C Q↔wpE a τ C fun x C1=>wpE b τ C1 fun y C2=>∃i j,x=.int i/\y=.int j/\if p i j=true then wpE c τ C2 (fun z C3=>∃l,z=.int l/\Q (.bl (q j l)) C3)else Q (.bl false) C2:=by
 unfold wpE uS;constructor
 ·rintro⟨t,C',e,q⟩;obtain⟨⟨x,C1⟩,e1,e⟩:=aK.mp e;obtain⟨⟨y,C2⟩,e2,e⟩:=aK.mp e
  refine⟨x,C1,e1,y,C2,e2,?_⟩
  dsimp only at e;split at e
  ·refine⟨_,_,rfl,rfl,?_⟩
   split at e
   ·rw[if_pos ‹_›];obtain⟨⟨z,C3⟩,e3,e⟩:=aK.mp e;dsimp only at e;split at e
    ·cases e;exact⟨_,_,e3,_,rfl,q⟩
    ·cases e
   ·rw[if_neg ‹_›];cases e;exact q
  ·cases e
 ·rintro⟨x,C1,e1,y,C2,e2,i,j,rfl,rfl,h⟩;split at h
  ·obtain⟨z,C3,e3,l,rfl,q⟩:=h
   exact⟨_,C3,by simp_all,q⟩
  ·exact⟨_,C2,by simp_all,h⟩
theorem iD:wpS i0 τ C QS↔QS .nx τ C:=by
 unfold wpS i0;constructor
 ·rintro⟨_,_,_,e,q⟩;cases e;exact q
 ·exact fun q=>⟨_,_,_,rfl,q⟩
def sq(G:FS)(Q:Fl->TSt->Sto->Prop)(l:Fl)(τ:TSt)(C:Sto):Prop:=match l with
 | .nx=>wpS G τ C Q
 |l=>Q l τ C
theorem fK:wpS (fN F G) τ C QS↔wpS F τ C (sq G QS):=by
 unfold wpS fN;constructor
 ·rintro⟨l,t,C',e,q⟩;obtain⟨⟨l1,t1,C1⟩,e1,e⟩:=aK.mp e
  refine⟨l1,t1,C1,e1,?_⟩
  cases l1<;>first| (cases e;exact q)|exact⟨l,t,C',e,q⟩
 ·rintro⟨l1,t1,C1,e1,h⟩;cases l1 with
  |nx=>obtain⟨l,t,C',e,q⟩:=h;exact⟨l,t,C',by rw[e1];exact e,q⟩
  |_=>exact⟨_,t1,C1,by rw[e1];rfl,h⟩
theorem fW:sq G QS .nx τ C↔wpS G τ C QS:=aPx
theorem aNW{t:T}:sq G QS (.rt t) τ C↔QS (.rt t) τ C:=aPx
theorem aOh{c:String}:sq G QS (.ex c) τ C↔QS (.ex c) τ C:=aPx
theorem aOc:sq G QS .bk τ C↔QS .bk τ C:=aPx
theorem aOd:sq G QS .ct τ C↔QS .ct τ C:=aPx
theorem lO:wpS (fIf ga F G) τ C QS↔wpB ga τ C fun x C1=>if x=true then wpS F τ C1 QS else wpS G τ C1 QS:=by
 unfold wpB wpS fIf;constructor
 ·rintro⟨l,t,C',e,q⟩;obtain⟨⟨x,C1⟩,e1,e⟩:=aK.mp e
  refine⟨x,C1,e1,?_⟩
  dsimp only at e;split at e
  ·rw[if_pos ‹_›];exact⟨l,t,C',e,q⟩
  ·rw[if_neg ‹_›];exact⟨l,t,C',e,q⟩
 ·rintro⟨x,C1,e1,q⟩;split at q
  ·obtain⟨l,t,C',e,q⟩:=q
   exact⟨l,t,C',by simp_all,q⟩
  ·obtain⟨l,t,C',e,q⟩:=q
   exact⟨l,t,C',by simp_all,q⟩
theorem iF:wpS (hV a) τ C QS↔wpE a τ C fun t C1=>QS (.rt t) τ C1:=by
 unfold wpE wpS hV;constructor
 ·rintro⟨l,t,C',e,q⟩;obtain⟨⟨x,C1⟩,e1,e⟩:=aL.mp e;cases e
  exact⟨x,_,e1,q⟩
 ·rintro⟨x,C1,e1,q⟩
  exact⟨_,_,C1,by simp[e1],q⟩
theorem oI:wpS (mJ a) τ C QS↔wpE a τ C fun t C1=>QS .nx τ C1:=by
 unfold wpE wpS mJ;constructor
 ·rintro⟨l,t,C',e,q⟩;obtain⟨⟨x,C1⟩,e1,e⟩:=aL.mp e;cases e
  exact⟨x,_,e1,q⟩
 ·rintro⟨x,C1,e1,q⟩
  exact⟨_,_,C1,by simp[e1],q⟩
theorem f6{g:FG}:wpS (fZ a g) τ C QS↔wpE a τ C fun t C1=>wpG g t C1 τ fun aq=>QS .nx aq C1:=by
 unfold wpE wpS wpG fZ;constructor
 ·rintro⟨l,t,C',e,q⟩;obtain⟨⟨x,C1⟩,e1,e⟩:=aK.mp e;obtain⟨aq,e2,e⟩:=aL.mp e;cases e
  exact⟨x,_,e1,_,e2,q⟩
 ·rintro⟨x,C1,e1,aq,e2,q⟩
  exact⟨_,_,C1,by simp[e1,e2],q⟩
theorem f9{i:Nat}{t:T}:wpG (gN i) t C τ QG↔QG (τ.set i (some t)):=by
 unfold wpG gN;constructor
 ·rintro⟨_,e,q⟩;cases e;exact q
 ·exact fun q=>⟨_,rfl,q⟩
theorem y9{is:List Nat}{t:T}:wpG (gU is) t C τ QG↔∃ts,sqT C t=some ts/\ts.length=is.length/\QG (setAll is ts τ):=by
 unfold wpG gU;constructor
 ·rintro⟨_,e,q⟩;obtain⟨ts,e1,e⟩:=aK.mp e;split at e
  ·cases e;exact⟨ts,e1,‹_›,q⟩
  ·cases e
 ·rintro⟨ts,e1,h,q⟩
  exact⟨_,by simp[e1,h],q⟩
theorem yR:wpS (qZ fe fo fi) τ C QS↔wpE fe τ C fun x C1=>wpE fo τ C1 fun y C2=>wpE fi τ C2 fun z C3=>∃k i,y=.cell k/\z=.int i/\∃ts,lc C3 k=some ts/\∃j,ixN ts.length i=some j/\QS .nx τ (C3.set k (.l,ts.set j x)):=by
 unfold wpE wpS qZ;constructor
 ·rintro⟨l,t,C',e,q⟩;obtain⟨⟨x,C1⟩,e1,e⟩:=aK.mp e;obtain⟨⟨y,C2⟩,e2,e⟩:=aK.mp e;obtain⟨⟨z,C3⟩,e3,e⟩:=aK.mp e
  refine⟨x,C1,e1,y,C2,e2,z,C3,e3,?_⟩
  dsimp only at e;split at e
  ·obtain⟨ts,e4,e⟩:=aK.mp e;obtain⟨j,e5,e⟩:=aL.mp e;cases e
   exact⟨_,_,rfl,rfl,ts,e4,j,e5,q⟩
  ·cases e
 ·rintro⟨x,C1,e1,y,C2,e2,z,C3,e3,k,i,rfl,rfl,ts,e4,j,e5,q⟩
  exact⟨_,_,_,by simp[e1,e2,e3,e4,e5],q⟩
theorem oV{g:List T->List T->Option (List T)}:wpS (aFZ a fa g) τ C QS↔wpE a τ C fun x C1=>wpA fa τ C1 fun xs C2=>∃k,x=.cell k/\(lc C1 k).isSome=true/\∃ts,lc C2 k=some ts/\wpL (g ts xs) fun us=>QS .nx τ (C2.set k (.l,us)):=by
 unfold wpE wpA wpS aFZ wpL;constructor
 ·rintro⟨l,t,C',e,q⟩;obtain⟨⟨x,C1⟩,e1,e⟩:=aK.mp e;obtain⟨⟨y,C2⟩,e2,e⟩:=aK.mp e
  refine⟨x,C1,e1,y,C2,e2,?_⟩
  dsimp only at e;split at e
  ·obtain⟨t0,e3,e⟩:=aK.mp e;obtain⟨ts,e4,e⟩:=aK.mp e;obtain⟨j,e5,e⟩:=aL.mp e;cases e
   exact⟨_,rfl,cO.mpr ⟨_,e3⟩,ts,e4,j,e5,q⟩
  ·cases e
 ·rintro⟨x,C1,e1,y,C2,e2,k,rfl,e3,ts,e4,j,e5,q⟩;obtain⟨t0,e3⟩:=cO.mp e3
  exact⟨_,_,_,by simp[e1,e2,e3,e4,e5],q⟩
theorem o4{ts:List T}{y:T}:wpL (aB6 ts [y]) Ql↔ts.length<lim/\Ql (ts++[y]):=by
 unfold wpL aB6;by_cases h:ts.length<lim<;>simp[h]
theorem aJr{ts:List T}{y:T}:wpL (aCR ts [.int i,y]) Ql↔(ts.length<lim/\ -(2^63)<=i/\i<2^63)/\Ql (insAt ts i y):=by
 unfold wpL aCR;by_cases h:ts.length<lim/\ -(2^63)<=i/\i<2^63
 ·simp only[if_pos h,cE.injEq,exists_eq_left',and_iff_right h]
 ·simp only[if_neg h,reduceCtorEq,false_and,exists_false]
  exact⟨False.elim,fun(z:_/\_)=>h z.1⟩
theorem aMQ{g:FG}(I:Nat->TSt->Sto->Prop){ts:List T}(h0:I 0 τ C)
 (hs:∀i t τ C,ts[i]?=some t->I i τ C->wpG g t C τ fun aq=>wpS F aq C fun l ap C2=>match l with
  | .nx=>P C2/\I (i+1) ap C2
  | .ct=>P C2/\I (i+1) ap C2
  | .bk=>QS .nx ap C2
  | .rt v=>QS (.rt v) ap C2
  | .ex v=>QS (.ex v) ap C2)
 (hq:∀τ C,I ts.length τ C->QS .nx τ C):wpS (kK P g F ts) τ C QS:=by
 induction ts generalizing τ C I with
 |nil=>exact⟨.nx,τ,C,by simp[kK],hq _ _ h0⟩
 |cons t ts ih=>
  obtain⟨aq,e1,l,ap,C2,e2,h2⟩:=hs 0 t τ C rfl h0;have go:P C2/\I 1 ap C2->wpS (kK P g F ts) ap C2 QS:=fun h=>ih (fun i=>I (i+1)) h.2 (fun i t τ C e h=>hs (i+1) t τ C e h) (fun τ C h=>hq τ C h)
  cases l with
  |nx=>
   obtain⟨l,t',C',e,q⟩:=go h2
   exact⟨l,t',C',by simp[kK,e1,e2,h2.1,e],q⟩
  |ct=>
   obtain⟨l,t',C',e,q⟩:=go h2
   exact⟨l,t',C',by simp[kK,e1,e2,h2.1,e],q⟩
  |bk=>exact⟨.nx,ap,C2,by simp[kK,e1,e2],h2⟩
  |rt v=>exact⟨.rt v,ap,C2,by simp[kK,e1,e2],h2⟩
  |ex v=>exact⟨.ex v,ap,C2,by simp[kK,e1,e2],h2⟩
theorem lY{g:FG}:wpS (nK a g F) τ C QS↔wpE a τ C fun t C1=>∃ts,liT C1 t=some ts/\wpS (kK (stays t ts) g F ts) τ C1 QS:=by
 unfold wpE wpS nK;constructor
 ·rintro⟨l,t,C',e,q⟩;obtain⟨⟨x,C1⟩,e1,e⟩:=aK.mp e;obtain⟨ts,e2,e⟩:=aK.mp e
  exact⟨x,C1,e1,ts,e2,l,t,C',e,q⟩
 ·rintro⟨x,C1,e1,ts,e2,l,t,C',e,q⟩
  exact⟨l,t,C',by simp[e1,e2,e],q⟩
theorem qI{g:FG}:wpS (mE a g F) τ C QS↔wpE a τ C fun t C1=>∃j,t=.int j/\(-(2^62)<=j/\j<2^62)/\wpS (kK (fun _=>True) g F (vT 0 j.toNat)) τ C1 QS:=by
 unfold wpE wpS mE;constructor
 ·rintro⟨l,t,C',e,q⟩;obtain⟨⟨x,C1⟩,e1,e⟩:=aK.mp e;dsimp only at e;split at e
  ·split at e
   ·exact⟨_,C1,e1,_,rfl,‹_›,l,t,C',e,q⟩
   ·cases e
  ·cases e
 ·rintro⟨x,C1,e1,j,rfl,h,l,t,C',e,q⟩
  exact⟨l,t,C',by rw[e1];exact(if_pos h).trans e,q⟩
theorem aAr{g:FG}:wpS (p5 a b g F) τ C QS↔wpE a τ C fun t C1=>wpE b τ C1 fun u C2=>∃i j,t=.int i/\u=.int j/\(-(2^62)<=i/\i<2^62/\ -(2^62)<=j/\j<2^62)/\wpS (kK (fun _=>True) g F (vT i (j - i).toNat)) τ C2 QS:=by
 unfold wpE wpS p5;constructor
 ·rintro⟨l,t,C',e,q⟩;obtain⟨⟨x,C1⟩,e1,e⟩:=aK.mp e;obtain⟨⟨y,C2⟩,e2,e⟩:=aK.mp e;dsimp only at e;split at e
  ·split at e
   ·exact⟨_,C1,e1,_,C2,e2,_,_,rfl,rfl,‹_›,l,t,C',e,q⟩
   ·cases e
  ·cases e
 ·rintro⟨x,C1,e1,y,C2,e2,i,j,rfl,rfl,h,l,t,C',e,q⟩
  exact⟨l,t,C',by rw[e1];show((b τ C1).bind _)=_;rw[e2];exact(if_pos h).trans e,q⟩
theorem i9{α:Type}{g:FG}{en:α->T}{xs:List α}(I:Nat->TSt->Sto->Prop)(h0:I 0 τ C)
 (hs:∀i x τ C,xs[i]?=some x->I i τ C->wpG g (en x) C τ fun aq=>wpS F aq C fun l ap C2=>match l with
  | .nx=>P C2/\I (i+1) ap C2
  | .ct=>P C2/\I (i+1) ap C2
  | .bk=>QS .nx ap C2
  | .rt v=>QS (.rt v) ap C2
  | .ex v=>QS (.ex v) ap C2)
 (hq:∀τ C,I xs.length τ C->QS .nx τ C):wpS (kK P g F (xs.map en)) τ C QS:=by
 refine aMQ I h0 (fun i t τ C e h=>?_) (fun τ C h=>hq τ C (by simpa using h))
 rw[bH]at e;obtain⟨x,ex,rfl⟩:=aL.mp e
 exact hs i x τ C ex h
theorem mX{g:FG}{n:Nat}(I:Nat->TSt->Sto->Prop)(h0:I 0 τ C)
 (hs:∀i τ C,i<n->I i τ C->wpG g (.int (lo+(i:Int))) C τ fun aq=>wpS F aq C fun l ap C2=>match l with
  | .nx=>P C2/\I (i+1) ap C2
  | .ct=>P C2/\I (i+1) ap C2
  | .bk=>QS .nx ap C2
  | .rt v=>QS (.rt v) ap C2
  | .ex v=>QS (.ex v) ap C2)
 (hq:∀τ C,I n τ C->QS .nx τ C):wpS (kK P g F (vT lo n)) τ C QS:=by
 refine i9 I h0 (fun i x τ C e h=>?_) (fun τ C h=>hq τ C (by simpa using h))
 obtain⟨hi,hx⟩:=aQ.mp e;rw[dU]at hx;subst hx
 exact hs _ τ C (by simpa using hi) h
theorem kY{k:Nat}{is:List Nat}{g:FG}:wpA (jR a k is g fb fe) τ C QL↔wpE a τ C fun t C1=>∃ts,liT C1 t=some ts/\ts.length<lim/\wpC (jX g fb fe (scT k is τ) ts C1) QL:=by
 unfold wpE wpA jR wpC;constructor
 ·rintro⟨t,C',e,q⟩;obtain⟨⟨x,C1⟩,e1,e⟩:=aK.mp e;obtain⟨ts,e2,e⟩:=aK.mp e;split at e
  ·exact⟨x,C1,e1,ts,e2,‹_›,t,C',e,q⟩
  ·cases e
 ·rintro⟨x,C1,e1,ts,e2,h,t,C',e,q⟩
  exact⟨t,C',by simp[e1,e2,h,e],q⟩
theorem rL{k:Nat}{is:List Nat}{g:FG}:wpA (kA a k is g fb fe) τ C QL↔wpE a τ C fun t C1=>∃j,t=.int j/\(j<400000/\ -(2^62)<=j)/\wpC (jX g fb fe (scT k is τ) (vT 0 j.toNat) C1) QL:=by
 unfold wpE wpA kA wpC;constructor
 ·rintro⟨t,C',e,q⟩;obtain⟨⟨x,C1⟩,e1,e⟩:=aK.mp e;dsimp only at e;split at e
  ·split at e
   ·exact⟨_,C1,e1,_,rfl,‹_›,t,C',e,q⟩
   ·cases e
  ·cases e
 ·rintro⟨x,C1,e1,j,rfl,h,t,C',e,q⟩
  exact⟨t,C',by rw[e1];exact(if_pos h).trans e,q⟩
theorem aF7{k:Nat}{is:List Nat}{g:FG}:wpA (rK a b k is g fb fe) τ C QL↔wpE a τ C fun t C1=>wpE b τ C1 fun u C2=>∃ts,liT C2 t=some ts/\∃us,liT C2 u=some us/\(zO ts us).length<lim/\wpC (jX g fb fe (scT k is τ) (zO ts us) C2) QL:=by
 unfold wpE wpA rK wpC;constructor
 ·rintro⟨t,C',e,q⟩;obtain⟨⟨x,C1⟩,e1,e⟩:=aK.mp e;obtain⟨⟨y,C2⟩,e2,e⟩:=aK.mp e;obtain⟨ts,e3,e⟩:=aK.mp e;obtain⟨us,e4,e⟩:=aK.mp e;split at e
  ·exact⟨x,C1,e1,y,C2,e2,ts,e3,us,e4,‹_›,t,C',e,q⟩
  ·cases e
 ·rintro⟨x,C1,e1,y,C2,e2,ts,e3,us,e4,h,t,C',e,q⟩
  exact⟨t,C',by simp[e1,e2,e3,e4,h,e],q⟩
theorem tE{α:Type}{g:FG}{en:α->T}{xs:List α}(p:α->Bool)(u:α->T)
 (h:∀x∈xs,wpG g (en x) C τ fun aq=>wpB fb aq C fun y C1=>C1=C/\y=p x/\(p x=true->wpE fe aq C fun t C2=>C2=C/\t=u x))
 (hq:QL ((xs.filter p).map u) C):wpC (jX g fb fe τ (xs.map en) C) QL:=by
 refine⟨_,C,?_,hq⟩
 clear hq;induction xs with
 |nil=>rfl
 |cons x xs ih=>
  obtain⟨aq,e1,y,C1,e2,rfl,rfl,h3⟩:=h x bJ;have ih:=ih fun y hy=>h y (aZ _ hy)
  rw[aM];unfold jX;rw[e1,aU,e2,aU];by_cases hp:p x=true
  ·obtain⟨t,C2,e3,rfl,rfl⟩:=h3 hp;rw[if_pos hp,e3,aU,ih,List.filter_cons_of_pos hp,aEn];rfl
  ·rw[if_neg hp,aEn,ih,List.filter_cons_of_neg hp]
theorem g8{α:Type}{g:FG}{en:α->T}{xs:List α}(u:α->T)
 (h:∀x∈xs,wpG g (en x) C τ fun aq=>wpE fe aq C fun t C2=>C2=C/\t=u x)
 (hq:QL (xs.map u) C):wpC (jX g hW fe τ (xs.map en) C) QL:=
 tE (fun _=>true) u (fun x hx=>let ⟨aq,e,q⟩:=h x hx;⟨aq,e,true,C,rfl,rfl,rfl,fun _=>q⟩) (by rw[List.filter_eq_self.mpr (fun _ _=>rfl)];exact hq)
theorem pU{n:Nat}:vT lo n=(bI n).map fun(i:Nat)=>T.int (lo+(i:Int)):=rfl
theorem aC3{α β:Type}{f:α->T}{g:β->T}{xs:List α}{ys:List β}:zO (xs.map f) (ys.map g)=(xs.zip ys).map fun p=>.tup [f p.1,g p.2]:=by
 unfold zO;rw[List.zip_map,cC];rfl
theorem iJ{B:FS}{m:Nat}{ts:List T}{t:T}(h:wpS B (st0 m ts) [] fun l τ C=>match l with
 | .rt r=>dr 3 C r=some t
 | .nx=>t=.non
 |_=>False):jL B m ts=some t:=by
 obtain⟨l,τ,C,e,q⟩:=h;unfold jL;rw[e];cases l with
 |nx=>cases q;rfl
 |rt r=>exact q
 |_=>exact q.elim
end
variable{i j:Int}{c:Nat}
theorem fO{α:Type}{o:Option α}{y:α}{p:α->Prop}(e:o=some y):(∃x,o=some x/\p x)↔p y:=by
 constructor
 ·rintro⟨x,e',h⟩;rw[e]at e';cases e'
  exact h
 ·exact fun h=>⟨y,e,h⟩
def Bt(k:Nat)(n:Int):Prop:=n.natAbs<2^k
theorem Bt.bits{n:Int}{k:Nat}(h:Bt k n):Builtin.Int.intBits n<=k:=by
 unfold Builtin.Int.intBits;unfold Bt at h;by_cases z:n=0
 ·subst z;exact dF _
 ·have:(n==0)=false:=by simpa using z
  rw[this];have:=(aQF (by lia)).mpr h;simp
  lia
theorem Bt.mono{n:Int}{k m:Nat}(h:Bt k n)(hm:k<=m):Bt m n:=bO h (dZ (by decide) hm)
theorem Bt.sub{x y:Int}{k:Nat}(h:Bt k x)(h':Bt k y):Bt (k+1) (x - y):=by
 show(x - y).natAbs<2^(k+1);rw[aQw,Nat.mul_two]
 exact dW (Int.natAbs_sub_le x y) (Nat.add_lt_add h h')
theorem Bt.of_lt{x:Int}{k:Nat}(h1:0<=x)(h2:x<2^k):Bt k x:=by
 unfold Bt;have:((x.natAbs:Nat):Int)<((2^k:Nat):Int):=by
  rw[aPM h1];simpa using h2
 exact aQu.mp this
theorem uR{m n:Nat}(h1:Bt m i)(h2:Bt n j)(h:m+n<=134217728):j7 i j=true:=by
 have h1:=h1.bits;have h2:=h2.bits;have h':Builtin.Int.intTooBig (Builtin.Int.intBits i+Builtin.Int.intBits j)=false:=by
  unfold Builtin.Int.intTooBig bitsLine
  exact decide_eq_false (by lia)
 unfold j7;rw[h'];simp
theorem gB(h1:Bt 64 i):j7 i j=true:=by
 have:=h1.bits;unfold j7 shortFactorBits;rw[show decide (Builtin.Int.intBits i>64)=false from decide_eq_false (by lia)];simp
theorem gL(h1:Bt 64 j):j7 i j=true:=by
 have:=h1.bits;unfold j7 shortFactorBits;rw[show decide (Builtin.Int.intBits j>64)=false from decide_eq_false (by lia)];simp
theorem Bt.mod{x m:Int}{k:Nat}(h1:0<m)(h2:m<=2^k):Bt k (x%m):=
 .of_lt (aQh _ (by lia)) (aPp (aPV _ h1) h2)
theorem aBd{n:Nat}(h0:0<=i)(h:i<n):ixN n i=some i.toNat:=by
 unfold ixN;rw[if_pos h0,if_pos h]
theorem aJ5{n j:Nat}(h:j<n):ixN n (j:Int)=some j:=by
 rw[aBd (by lia) (by lia)];rfl
theorem pH{α:Type}{xs:List α}(h0:0<=i):atI xs i=xs[i.toNat]?:=by
 unfold atI ixN;rw[if_pos h0];by_cases h:i<xs.length
 ·rw[if_pos h];rfl
 ·rw[if_neg h,dA (by lia)];rfl
theorem oA{α:Type}{xs:List α}{j:Nat}:atI xs (j:Int)=xs[j]?:=pH (by lia)
theorem aCE{α:Type}{x:α}{xs:List α}:atI (x::xs) 0=some x:=by rw[pH (by decide)];rfl
theorem aCD{α:Type}{x y:α}{xs:List α}:atI (x::y::xs) 1=some y:=by rw[pH (by decide)];rfl
theorem aIb{α:Type}{x y z:α}{xs:List α}:atI (x::y::z::xs) 2=some z:=by rw[pH (by decide)];rfl
theorem aAb{x y:Int}:atI [T.int x,T.int y] (i%2)=some (.int (if i%2=0 then x else y)):=by
 rcases(by lia:i%2=0\/i%2=1)with h|h<;>rw[h]<;>rfl
theorem gW:CFs []=true:=by unfold CFs;rfl
theorem fR{t:T}{ts:List T}:CFs (t::ts)=(CF t&&CFs ts):=by rw[CFs]
theorem gA:CF (.int i)=true:=by unfold CF;rfl
theorem mB{i:Bool}:CF (.bl i)=true:=by unfold CF;rfl
theorem gK{ts:List T}:CF (.lst ts)=CFs ts:=by rw[CF]
theorem kW{ts:List T}:CF (.tup ts)=CFs ts:=by rw[CF]
theorem aFf:CF (.cell c)=false:=by unfold CF;rfl
theorem qM{α:Type}{f:α->T}{xs:List α}(h:∀x∈xs,CF (f x)=true):CFs (xs.map f)=true:=aBC.mpr fun t ht=>by
 obtain⟨x,hx,rfl⟩:=bL.mp ht
 exact h x hx
theorem iC{ns:List Int}:CFs (ns.map T.int)=true:=qM fun _ _=>gA
theorem hX{t:T}{n:Nat}{C:Sto}(h:CF t=true):dr n C t=some t:=by
 cases n with
 |zero=>unfold dr;rw[if_pos h]
 |succ n=>
  cases t with
  |cell c=>rw[aFf]at h;cases h
  |lst ts=>unfold dr;rw[gK]at h;rw[if_pos h]
  |tup ts=>unfold dr;rw[kW]at h;rw[if_pos h]
  |_=>unfold dr;rw[if_pos h]
theorem aLd{f:T->Option T}{ts:List T}(h:∀t∈ts,f t=some t):mapO f ts=some ts:=by
 induction ts with
 |nil=>rfl
 |cons t ts ih=>unfold mapO;rw[h t bJ,aU,ih fun u hu=>h u (aZ _ hu)];rfl
theorem aBe{ts:List T}{n:Nat}{C:Sto}(h:CFs ts=true):mapO (dr n C) ts=some ts:=aLd fun t ht=>hX (aBC.mp h t ht)
theorem vU{n:Nat}{C:Sto}{ts:List T}(e:lc C c=some ts)(h:CFs ts=true):dr (n+1) C (.cell c)=some (.lst ts):=by
 unfold dr;rw[e,aU,aBe h];rfl
theorem aCk{f:T->Option T}:mapO f []=some []:=rfl
theorem jI{f:T->Option T}{t u:T}{ts us:List T}(h:f t=some u)(hs:mapO f ts=some us):mapO f (t::ts)=some (u::us):=by
 unfold mapO;rw[h,aU,hs];rfl
theorem aIm{e:T->T->Option Bool}{ts:List T}(h:∀t∈ts,e t t=some true):eqL e ts ts=some true:=by
 induction ts with
 |nil=>rfl
 |cons t ts ih=>unfold eqL;rw[h t bJ,aU,ih fun u hu=>h u (aZ _ hu)];rfl
theorem aJ8{n:Nat}:eqT n (.int i) (.int j)=some (i==j):=by cases n<;>rfl
theorem aBo{n:Nat}{ts:List T}(h:∀t∈ts,eqT n t t=some true):eqT (n+1) (.lst ts) (.lst ts)=some true:=by
 unfold eqT;rw[if_pos rfl];exact aIm h
theorem oJ{α:Type}{xs:List α}{f:α->Int}:ints? (xs.map fun x=>T.int (f x))=some (xs.map f):=by
 rw[show(xs.map fun x=>T.int (f x))=(xs.map f).map T.int by simp];exact p8 _
theorem aKf{α:Type}{xs:List α}{f:α->Bool}:bls? (xs.map fun x=>T.bl (f x))=some (xs.map f):=by
 rw[show(xs.map fun x=>T.bl (f x))=(xs.map f).map T.bl by simp];exact aHw _
theorem r6{α:Type}{f:α->T}{xs:List α}{j:Nat}{x:α}:(xs.map f).set j (f x)=(xs.set j x).map f:=by rw[aQx]
theorem x8{n:Nat}(h:n<=1000):n<lim:=by unfold lim;lia
section
variable {τ:TSt}{C:Sto}{a b c f fe fo fi:FE}{fa fr fn:FN}{fb ga gb:FB}{F G:FS}{lo hi:FO}
variable {Q:T->Sto->Prop}{QL:List T->Sto->Prop}{QB:Bool->Sto->Prop}{QS:Fl->TSt->Sto->Prop}{QG:TSt->Prop}{Ql:List T->Prop}{QO:Option Int->Sto->Prop}
variable{l h:Option Int}{p:Int×Int×Int}{ns:List Int}{u:T}
def wpP(f:FO)(τ:TSt)(C:Sto)(Q:Option Int->Sto->Prop):Prop:=∃o C',f τ C=some (o,C')/\Q o C'
theorem aIG:wpP nQ τ C QO↔QO none C:=by
 unfold wpP nQ;constructor
 ·rintro⟨_,_,e,q⟩;cases e;exact q
 ·exact fun q=>⟨_,_,rfl,q⟩
theorem aCq:wpP (tR a) τ C QO↔wpE a τ C fun t C1=>∃i,t=.int i/\QO (some i) C1:=by
 unfold wpP wpE tR;constructor
 ·rintro⟨t,C',e,q⟩;obtain⟨⟨x,C1⟩,e1,e⟩:=aK.mp e;dsimp only at e;split at e
  ·cases e;exact⟨_,_,e1,_,rfl,q⟩
  ·cases e
 ·rintro⟨x,C1,e1,y,rfl,q⟩
  exact⟨some y,C1,by simp[e1],q⟩
theorem aGS:wpA (fSl a lo hi) τ C QL↔wpE a τ C fun t C1=>wpP lo τ C1 fun l C2=>wpP hi τ C2 fun h C3=>∃ts,liT C3 t=some ts/\QL (aDv ts l h) C3:=by
 unfold wpA wpE wpP fSl;constructor
 ·rintro⟨t,C',e,q⟩;obtain⟨⟨x,C1⟩,e1,e⟩:=aK.mp e;obtain⟨⟨y,C2⟩,e2,e⟩:=aK.mp e;obtain⟨⟨z,C3⟩,e3,e⟩:=aK.mp e;obtain⟨ts,e4,e⟩:=aL.mp e;cases e
  exact⟨x,C1,e1,y,C2,e2,z,_,e3,ts,e4,q⟩
 ·rintro⟨x,C1,e1,y,C2,e2,z,C3,e3,ts,e4,q⟩
  exact⟨_,C3,by simp[e1,e2,e3,e4],q⟩
def yW{α:Type}(xs:List α)(lo hi:Option Int):List α:=(xs.drop (HT.sIx xs.length 0 lo)).take (HT.sIx xs.length xs.length hi - HT.sIx xs.length 0 lo)
theorem sV{α:Type}{f:α->T}{xs:List α}:aDv (xs.map f) l h=(yW xs l h).map f:=by
 unfold aDv yW;simp[aQp,aQq]
theorem aHQ{α:Type}{xs:List α}{x:α}(m:x∈yW xs l h):x∈xs:=List.mem_of_mem_drop (List.mem_of_mem_take m)
theorem aHu{α:Type}{xs:List α}:(yW xs l h).length<=xs.length:=by
 unfold yW;simp;lia
theorem aAO{α:Type}{xs:List α}{k:Int}(hk:0<=k):yW xs (some k) none=xs.drop k.toNat:=by
 unfold yW;have e:HT.sIx xs.length 0 (some k)=min k.toNat xs.length:=by
  show(if k<0 then(k+(xs.length:Int)).toNat else min k.toNat xs.length)=_;rw[if_neg (by lia)]
 rw[e,HT.aC7];by_cases h:k.toNat<=xs.length
 ·rw[aPH h,dQ (by simp)]
 ·rw[aPB (by lia),eE (by lia:xs.length<=xs.length),eE (by lia:xs.length<=k.toNat)];simp
theorem aEl{α:Type}{xs:List α}{k:Int}(hk:0<=k):yW xs none (some k)=xs.take k.toNat:=by
 unfold yW;have e:HT.sIx xs.length xs.length (some k)=min k.toNat xs.length:=by
  show(if k<0 then(k+(xs.length:Int)).toNat else min k.toNat xs.length)=_;rw[if_neg (by lia)]
 rw[e,HT.aC7,aQl,aQy];by_cases h:k.toNat<=xs.length
 ·rw[aPH h]
 ·rw[aPB (by lia),dQ (bF _),dQ (by lia)]
noncomputable def pT(p:Int×Int):T:=.lst [.int p.1,.int p.2]
noncomputable def w3(p:Int×Int×Int):T:=.lst [.int p.1,.int p.2.1,.int p.2.2]
noncomputable def iT(ns:List Int):T:=.lst (ns.map T.int)
theorem aOr{p:Int×Int}:CF (pT p)=true:=by simp[pT,gK,fR,gW,gA]
theorem aGB:CF (w3 p)=true:=by simp[w3,gK,fR,gW,gA]
theorem aEv:CF (iT ns)=true:=by rw[iT,gK];exact iC
theorem mD{ps:List (Int×Int)}:CFs (ps.map pT)=true:=qM fun _ _=>aOr
theorem pG{ps:List (Int×Int×Int)}:CFs (ps.map w3)=true:=qM fun _ _=>aGB
theorem aGE{ps:List (List Int)}:CFs (ps.map iT)=true:=qM fun _ _=>aEv
theorem aE9{α:Type}[DecidableEq α]{e:T->T->Option Bool}{f:α->T}(h:∀x y,e (f x) (f y)=some (decide (x=y))):∀{xs ys:List α},xs.length=ys.length->eqL e (xs.map f) (ys.map f)=some (decide (xs=ys))
 | [],[],_=>rfl
 |x::xs,y::ys,hl=>by
  rw[aM,aM];unfold eqL;rw[h,aU,aE9 h (by simpa using hl)];simp only[eK,aP9.injEq,Bool.decide_and]
theorem qP{α:Type}[DecidableEq α]{n:Nat}{f:α->T}(h:∀x y,eqT n (f x) (f y)=some (decide (x=y))){xs ys:List α}:eqT (n+1) (.lst (xs.map f)) (.lst (ys.map f))=some (decide (xs=ys)):=by
 unfold eqT;by_cases hl:xs.length=ys.length
 ·rw[if_pos (by simpa using hl),aE9 h hl]
 ·rw[if_neg (by simpa using hl),decide_eq_false (fun z=>hl (by rw[z]))]
theorem oF{n:Nat}{i j:Int}:eqT n (.int i) (.int j)=some (decide (i=j)):=by rw[aJ8];congr 1
theorem aMA{n:Nat}{p q:Int×Int}:eqT (n+1) (pT p) (pT q)=some (decide (p=q)):=by
 have:=qP (n:=n) (f:=T.int) (fun x y=>oF) (xs:=[p.1,p.2]) (ys:=[q.1,q.2]);obtain⟨a,b⟩:=p;obtain⟨c,d⟩:=q;simp only[aM,bB]at this;unfold pT;rw[this];simp
theorem aNq{n:Nat}{q:Int×Int×Int}:eqT (n+1) (w3 p) (w3 q)=some (decide (p=q)):=by
 have:=qP (n:=n) (f:=T.int) (fun x y=>oF) (xs:=[p.1,p.2.1,p.2.2]) (ys:=[q.1,q.2.1,q.2.2]);obtain⟨a,b,e⟩:=p;obtain⟨c,d,f⟩:=q;simp only[aM,bB]at this;unfold w3;rw[this];simp
theorem aD3{n:Nat}{p q:List Int}:eqT (n+1) (iT p) (iT q)=some (decide (p=q)):=qP fun x y=>oF
theorem aFb{α:Type}[DecidableEq α]{e:T->T->Option Bool}{f:α->T}(h:∀x y,e (f x) (f y)=some (decide (x=y))){y:α}:∀{xs:List α},inL (fun u=>e u (f y)) (xs.map f)=some (decide (y∈xs))
 | []=>rfl
 |x::xs=>by
  rw[aM];unfold inL;rw[h,aU,aFb h];simp only[eK,cE.injEq,bE,Bool.decide_or];congr 1;by_cases z:x=y
  ·simp[z]
  ·simp[z,show¬y=x from fun q=>z q.symm]
theorem aJC{α:Type}[DecidableEq α]{n:Bool}{f:α->T}{y:α}{xs:List α}[Decidable (y∈xs)]{t:T}(h:∀x y,eqT 5 (f x) (f y)=some (decide (x=y)))(hc:∀x,CF (f x)=true)(ht:dr 3 C t=some (f y))(hu:liT C u=some (xs.map f)):
 wpO (gIn n t u C) Q↔Q (.bl (if n then !decide (y∈xs)else decide (y∈xs))) C:=by
 rw[aL4,fO ht,fO hu,fO (aBe (qM fun x _=>hc x)),fO ((aFb h).trans (congrArg some (decide_eq_decide.mpr aPx)))]
theorem rY{α:Type}[DecidableEq α]{n:Bool}{f:α->T}{x y:α}{t:T}(h:∀x y,eqT 5 (f x) (f y)=some (decide (x=y)))(ht:dr 3 C t=some (f x))(hu:dr 3 C u=some (f y)):
 wpO (gEq n t u C) Q↔Q (.bl (if n then !decide (x=y)else decide (x=y))) C:=by
 rw[aIi,fO ht,fO hu,fO (h x y)]
theorem rS{i j:Int}:wpO (gEq false (.int i) (.int j) C) Q↔Q (.bl (decide (i=j))) C:=rY (f:=T.int) (fun _ _=>oF) (hX gA) (hX gA)
theorem p9{i j:Int}:wpO (gEq true (.int i) (.int j) C) Q↔Q (.bl (!decide (i=j))) C:=rY (f:=T.int) (fun _ _=>oF) (hX gA) (hX gA)
theorem aEo{n:Bool}{i:Int}(h:liT C u=some (ns.map T.int)):wpO (gIn n (.int i) u C) Q↔Q (.bl (if n then !decide (i∈ns)else decide (i∈ns))) C:=aJC (f:=T.int) (fun _ _=>oF) (fun _=>gA) (hX gA) h
theorem aHI{n:Bool}{i:Int}:wpO (gIn n (.int i) (.lst (ns.map T.int)) C) Q↔Q (.bl (if n then !decide (i∈ns)else decide (i∈ns))) C:=aEo rfl
theorem aN8{x y:Bool}:(if false=true then x else y)=y:=rfl
theorem aOD{x y:Bool}:(if true=true then x else y)=x:=rfl
instance{k:Nat}{n:Int}:Decidable (Bt k n):=by unfold Bt;infer_instance
theorem Bt.sml{k:Nat}{n:Int}(h0:0<=n)(h:n<1024)(hk:10<=k):Bt k n:=(Bt.of_lt (k:=10) h0 h).mono hk
theorem aIN{t:T}{d:Int}:wpO (aCA t (.int d) C) Q↔∃us,liT C t=some us/\∃ns,ints? us=some ns/\Q (.int (jW d ns)) C:=by
 unfold wpO aCA;constructor
 ·rintro⟨t,C',e,q⟩;obtain⟨us,e1,e⟩:=aK.mp e;obtain⟨ns,e2,e⟩:=aL.mp e;cases e
  exact⟨us,e1,ns,e2,q⟩
 ·rintro⟨us,e1,ns,e2,q⟩
  exact⟨_,C,by simp[e1,e2],q⟩
theorem aJt{ts:List T}:liT C (.lst ts)=some ts:=rfl
theorem aKP{ts:List T}:lc ((.l,ts)::C) 0=some ts:=rfl
theorem aKv{x:Cl}{n:Nat}:lc (x::C) (n+1)=lc C n:=rfl
theorem aHE{c:Nat}:liT C (.cell c)=lc C c:=rfl
theorem aKJ{ts:List T}:sqT C (.lst ts)=some ts:=rfl
theorem aIt{c:Nat}:sqT C (.cell c)=lc C c:=rfl
theorem aLb{ts:List T}:sqT C (.tup ts)=some ts:=rfl
theorem aND{p:Int×Int}:sqT C (pT p)=some [.int p.1,.int p.2]:=rfl
theorem aMN:sqT C (w3 p)=some [.int p.1,.int p.2.1,.int p.2.2]:=rfl
theorem aM8{p:List Int}:sqT C (iT p)=some (p.map T.int):=rfl
theorem aMd{p:List Int}:liT C (iT p)=some (p.map T.int):=rfl
theorem aMX{p:Int×Int}:liT C (pT p)=some [.int p.1,.int p.2]:=rfl
theorem aLY:liT C (w3 p)=some [.int p.1,.int p.2.1,.int p.2.2]:=rfl
def frzQ(Q:Fl->TSt->Sto->Prop)(l:Fl)(τ:TSt)(C:Sto):Prop:=match l with
 | .nx=>∃ap,frz C τ=some ap/\Q .nx ap []
 |l=>Q l τ C
theorem aK4:frzQ QS .nx τ C↔∃ap,frz C τ=some ap/\QS .nx ap []:=aPx
theorem aJZ{t:T}:frzQ QS (.rt t) τ C↔QS (.rt t) τ C:=aPx
theorem aHR{b:Bool}:aMt C (.bl b)=some b:=rfl
end
variable{β:Type}{ps:List (Int×Int)}{ns:List Int}
theorem lE{B:FS}{m:Nat}{ts:List T}{P:T->Prop}(h:wpS B (st0 m ts) [] fun l τ C=>match l with
 | .rt r=>∃t,dr 3 C r=some t/\P t
 | .nx=>P .non
 |_=>False):∃t,jL B m ts=some t/\P t:=by
 obtain⟨l,τ,C,e,q⟩:=h;unfold jL;rw[e];cases l with
 |nx=>exact⟨_,rfl,q⟩
 |rt r=>exact q
 |_=>exact q.elim
theorem wT{α:Type}{xs:List α}{i:Int}{y:α}:(insAt xs i y).length=xs.length+1:=by
 unfold insAt;rw[bD,aN,d9,aPA]
 lia
theorem tV{α:Type}{f:α->β}{xs:List α}{i:Int}{y:α}:insAt (xs.map f) i (f y)=(insAt xs i y).map f:=by
 unfold insAt;simp[aQq,aQp]
theorem u4{α:Type}{xs:List α}{i:Int}{y:α}:(insAt xs i y).Perm (y::xs):=by
 unfold insAt
 refine List.perm_middle.trans ?_
 rw[List.take_append_drop]
theorem sD{α:Type}{f:α->β}{xs:List α}{i:Int}:atI (xs.map f) i=(atI xs i).map f:=by
 unfold atI;rw[aS];cases ixN xs.length i<;>simp
theorem aMz{α:Type}{xs:List α}{i:Int}(h0:0<=i)(h:i<xs.length):atI xs i=some (xs[i.toNat]'(by lia)):=by
 rw[pH h0,bA (by lia)]
theorem aCL{α:Type}{xs:List α}(h:xs≠[]):atI xs (-1)=some (xs.getLast h):=by
 unfold atI ixN;have:=d7.mpr h;rw[if_neg (by decide),if_pos (by lia)];show xs[(-1+(xs.length:Int)).toNat]?=_;rw[show(-1+(xs.length:Int)).toNat=xs.length - 1 by lia,List.getLast_eq_getElem,bA]
theorem iP{x m:Int}(h:0<m):0<=x%m/\x%m<m:=⟨aQh _ (by lia),aPV _ h⟩
theorem gM{x y:Int}(h0:0<=x)(h:x<1024):j7 x y=true:=gB (Bt.sml h0 h (by decide))
theorem gY{x y:Int}(h0:0<=y)(h:y<1024):j7 x y=true:=gL (Bt.sml h0 h (by decide))
theorem jT{p:Prop}[Decidable p](h:p):decide p=true:=decide_eq_true h
theorem aH6{n c:Nat}{C:Sto}(e:lc C c=some (ps.map pT)):dr (n+1) C (.cell c)=some (.lst (ps.map pT)):=vU e mD
theorem l9{n c:Nat}{C:Sto}{ps:List Int}(e:lc C c=some (ps.map T.int)):dr (n+1) C (.cell c)=some (.lst (ps.map T.int)):=vU e iC
theorem wV{i:Int}(h0:0<=i)(h:i<ns.length):atI (ns.map T.int) i=some (.int (ns[i.toNat]'(by lia))):=by rw[sD,aMz h0 h];rfl
theorem aKG{a b:Int}:ps.map pT++[.lst [.int a,.int b]]=(ps++[(a,b)]).map pT:=by rw[bP];rfl
theorem aDV{ps:List Int}{a:Int}:ps.map T.int++[.int a]=(ps++[a]).map T.int:=by rw[bP];rfl
theorem aML(h:ns≠[]):atI (ns.map T.int) (-1)=some (.int (ns.getLast h)):=by rw[sD,aCL h];rfl
theorem aOk{n:Nat}{C:Sto}{vs:List Int}:dr n C (.lst (vs.map T.int))=some (.lst (vs.map T.int)):=hX (by rw[gK];exact iC)
theorem rH:∀{ns:List Int},ns≠[]->t9 ns∈ns/\∀a∈ns,a<=t9 ns:=by
 have key:∀(ns:List Int)(n:Int),(ns.foldl (fun a b=>if b>a then b else a) n=n\/ns.foldl (fun a b=>if b>a then b else a) n∈ns)/\n<=ns.foldl (fun a b=>if b>a then b else a) n/\∀a∈ns,a<=ns.foldl (fun a b=>if b>a then b else a) n:=by
  intro ns;induction ns with
  |nil=>intro n;simp
  |cons m ns ih=>
   intro n;rw[aPg];obtain⟨h1,h2,h3⟩:=ih (if m>n then m else n);by_cases hm:m>n
   ·rw[if_pos hm]at h1 h2 h3|-
    refine⟨?_,by lia,fun a ha=>?_⟩
    ·rcases h1 with h1|h1
     ·rw[h1];simp
     ·exact .inr (aZ _ h1)
    ·rcases bE.mp ha with rfl|ha
     ·exact h2
     ·exact h3 a ha
   ·rw[if_neg hm]at h1 h2 h3|-
    refine⟨?_,h2,fun a ha=>?_⟩
    ·rcases h1 with h1|h1
     ·exact .inl h1
     ·exact .inr (aZ _ h1)
    ·rcases bE.mp ha with rfl|ha
     ·lia
     ·exact h3 a ha
 intro ns ba;cases ns with
 |nil=>exact absurd rfl ba
 |cons n ns=>
  obtain⟨h1,h2,h3⟩:=key ns n
  refine⟨?_,fun a ha=>?_⟩
  ·rcases h1 with h1|h1
   ·show aPT (fun a b=>if b>a then b else a) n ns∈n::ns;rw[h1];simp
   ·exact aZ _ h1
  ·rcases bE.mp ha with rfl|ha
   ·exact h2
   ·exact h3 a ha
end TL
section
open PySem L2 TL
local macro_rules
 | `(tactic|simp_arith[$xs,*])=>do
   let xs:Lean.TSyntaxArray [`Lean.Parser.Tactic.simpStar,`Lean.Parser.Tactic.simpErase,`Lean.Parser.Tactic.simpLemma]:=xs
   `(tactic|simp (maxSteps:=2000000) (disch:=first|assumption|decide) only[↓aK4,↓aJZ,↓aND,↓aMN,↓aM8,↓aMd,↓aMX,↓aLY,↓aIN,if_true,if_false,Bool.false_eq_true,↓aHI,aN8,aOD,↓aIG,↓aCq,↓aGS,↓rS,↓p9,↓eY,↓gG,↓fL,↓xG,↓sT,↓fJ,↓e9,↓gC,↓sL,↓hJ,↓gE,↓jK,↓jS,↓oH,↓oQ,↓jG,↓sZ,↓zC,↓wH,↓rX,↓aKu,↓aHG,↓aGV,↓aFz,↓aBK,↓aBv,↓gT,↓lZ,↓aBx,↓m7,↓oP,↓aET,↓aKO,↓aKY,↓aFl,↓iD,↓fK,↓fW,↓aNW,↓aOc,↓aOd,↓aOh,↓lO,↓iF,↓oI,↓f6,↓f9,↓y9,↓yR,↓oV,↓o4,↓aJr,↓lY,↓qI,↓aAr,↓kY,↓rL,↓aF7,aKP,aKv,Option.isSome_some,List.getElem?_cons_zero,List.getElem?_cons_succ,List.set_cons_zero,List.set_cons_succ,List.length_cons,List.length_nil,List.nil_append,List.cons_append,Option.some.injEq,T.int.injEq,T.bl.injEq,T.lst.injEq,T.cell.injEq,T.tup.injEq,exists_eq_left,exists_eq_left',exists_and_left,setAll,aKJ,aIt,aLb,aJt,aHE,and_true,true_and,Nat.reduceAdd,$xs,*])
namespace Lib
open PySem L2 TL
variable{ns:List Int}{Q:T->Sto->Prop}
noncomputable def lM(ns:List Int)(k:Int):Int:=(ns[k.toNat]?).getD 0
theorem aJN{k:Int}(hk:0<=k):iY [.lst (ns.map T.int),.int k]=some (.int (lM ns k)):=by
 apply iJ;unfold aAG;walk_at "b";simp_arith[if_true];simp only[aS];unfold lM;by_cases h:k<ns.length
 ·rw[if_pos (by simpa using h)];rw[pH hk,bH,bA (by lia)]
  exact⟨_,rfl,hX gA⟩
 ·rw[if_neg (by simpa using h)];rw[dA (by lia)]
  exact hX gA
theorem nC{k:Int}{C:Sto}(hk:0<=k):wpO (iX 2 iY [.lst (ns.map T.int),.int k] C) Q↔Q (.int (lM ns k)) C:=fQ (aJN hk) rfl (by walk_at "c")
noncomputable def aA9(m n:Int):Bool:=decide (0<=n/\n<m)
theorem aDF{m n:Int}:lA [.int m,.int n]=some (.bl (aA9 m n)):=by
 apply iJ;unfold aAB aA9;walk_at "b";simp_arith[if_true];by_cases h:0<=n
 ·rw[if_pos (by simpa using h)];rw[hX mB];simp[h]
 ·rw[if_neg (by simpa using h),hX mB];simp[h]
theorem aC6{m n:Int}{C:Sto}:wpO (iX 2 lA [.int m,.int n] C) Q↔Q (.bl (aA9 m n)) C:=fQ aDF rfl (by walk_at "c")
end Lib
namespace TL
open PySem L2
section
variable {τ:TSt}{C:Sto}{c:FB}{F:FS}{Q:Fl->TSt->Sto->Prop}
theorem aFV{n:Nat}(I:Nat->TSt->Sto->Prop){k:Nat}(hk:k<n)(h0:I k τ C)
 (hs:∀i τ C,i<n->I i τ C->wpB c τ C fun b C1=>if b=true then wpS F τ C1 (fun l ap C2=>match l with
  | .nx=>i+1<n/\I (i+1) ap C2
  | .ct=>i+1<n/\I (i+1) ap C2
  | .bk=>Q .nx ap C2
  | .rt v=>Q (.rt v) ap C2
  | .ex v=>Q (.ex v) ap C2)else Q .nx τ C1):wpS (lD c F (n - k)) τ C Q:=by
 obtain⟨d,hd⟩:∃d,n - k=d:=⟨_,rfl⟩;rw[hd];induction d generalizing k τ C with
 |zero=>lia
 |succ d ih=>
  obtain⟨b,C1,e1,h⟩:=hs k τ C hk h0;cases b with
  |false=>
   rw[if_neg (by simp)]at h
   exact⟨.nx,τ,C1,by unfold lD;rw[e1];rfl,h⟩
  |true=>
   rw[if_pos rfl]at h;obtain⟨l,ap,C2,e2,h⟩:=h;cases l with
   |nx=>
    obtain⟨l,ag,C',e,q⟩:=ih h.1 h.2 (by lia)
    exact⟨l,ag,C',by unfold lD;rw[e1,aU,if_pos rfl,e2,aU];exact e,q⟩
   |ct=>
    obtain⟨l,ag,C',e,q⟩:=ih h.1 h.2 (by lia)
    exact⟨l,ag,C',by unfold lD;rw[e1,aU,if_pos rfl,e2,aU];exact e,q⟩
   |bk=>exact⟨.nx,ap,C2,by unfold lD;rw[e1,aU,if_pos rfl,e2];rfl,h⟩
   |rt v=>exact⟨.rt v,ap,C2,by unfold lD;rw[e1,aU,if_pos rfl,e2];rfl,h⟩
   |ex v=>exact⟨.ex v,ap,C2,by unfold lD;rw[e1,aU,if_pos rfl,e2];rfl,h⟩
theorem aBw{g:FG}{ts:List T}(hg:∀t∈ts,∀C,∃aq,g t C τ=some aq):∀{C:Sto},jX g hW (iU (gJ fH)) τ ts C=some ((bI ts.length).map (fun i=>T.cell (C.length+i)),C++aT ts.length (.l,[])):=by
 induction ts with
 |nil=>intro C;simp[jX]
 |cons t ts ih=>
  intro C;obtain⟨aq,e⟩:=hg t bJ C;unfold jX;rw[e,aU];show(hW aq C).bind _=_;have e2:iU (gJ fH) aq C=some (.cell C.length,C++[(.l,[])]):=by
   unfold iU gJ vD fH;simp[lim]
  simp only[hW,aU,if_true,e2];rw[ih fun u hu=>hg u (aZ _ hu),aLm (List.prefix_append _ _)];simp only[eK,bD,aN,aP,cS];congr 2
  ·rw[eB,aM,cC];simp only[aQv,aP9.injEq,true_and];apply cL;intro i _;simp only[d3];congr 1;lia
end
end TL
namespace Lib
open PySem L2 TL
variable{ps:List (Int×Int)}{nd:List (List Int)}{told o:List Int}{w:Nat}
def Nd(ps:List (Int×Int))(m:Nat)(nd:List (List Int)):Prop:=nd.length=m/\∀(b:Nat)(l:List Int),nd[b]?=some l->l.length<=ps.length/\∀a,a∈l↔(a,(b:Int))∈ps
def InW(m:Nat)(ps:List (Int×Int)):Prop:=∀p∈ps,(0<=p.1/\p.1<m)/\(0<=p.2/\p.2<m)
theorem aBV{m n:Int}(h:0<=n/\n<m):aA9 m n=true:=jT h
theorem uB{m:Nat}(hm:m<=100)(hl:ps.length<=1000)(hw:InW m ps):∃t,gQ [.int m,.lst (ps.map pT)]=some t/\∃nd,t=.lst (nd.map iT)/\Nd ps m nd:=by
 apply lE;unfold pZ;walk_at "b";simp_arith[if_true]
 refine⟨by lia,?_⟩
 refine⟨_,_,aBw (g:=gN 0) (fun t ht C=>⟨_,rfl⟩),?_⟩
 simp only[vT,aS,eR,aX,aP,aOU,eP,c9]
 refine i9 (fun i τ C=>∃a b,τ=[some (.int m),some (.lst (ps.map pT)),some (.cell m),a,b]/\∃ls:List (List Int),C=ls.map (fun l=>(Kd.l,l.map T.int))++[(.l,(bI m).map T.cell)]/\ls.length=m/\
  ∀(b:Nat)(l:List Int),ls[b]?=some l->l.length<=i/\∀a,a∈l↔(a,(b:Int))∈ps.take i) ?_ ?_ ?_
 ·refine⟨_,_,rfl,aT m [],by simp,by simp,fun b l e=>?_⟩
  rw[cN]at e;split at e
  ·cases e;simp
  ·cases e
 ·rintro i ⟨x,y⟩ τ C hx ⟨a,b,rfl,ls,rfl,jr,fu⟩;obtain⟨hx1,jc⟩:=hw _ (bC hx);have hi:i<ps.length:=(aQ.mp hx).1;simp only at hx1 jc;unfold oM;obtain⟨y,rfl⟩:∃y':Nat,y=y':=⟨_,(bZ jc.1).symm⟩;have nv:y<ls.length:=by lia
  have ec:lc (ls.map (fun l=>(Kd.l,l.map T.int))++[(.l,(bI m).map T.cell)]) m=some ((bI m).map T.cell):=by
   rw[fY];rw[bK (by simp[jr])];simp[jr]
  have ey:lc (ls.map (fun l=>(Kd.l,l.map T.int))++[(.l,(bI m).map T.cell)]) y=some (ls[y].map T.int):=by
   rw[fY];rw[aY (by simpa using nv)];simp[nv]
  have ea:atI ((bI m).map T.cell) (y:Int)=some (.cell y):=by
   rw[oA,bH,cQ (by lia)];rfl
  simp_arith[↓aC6,aHR,aBV hx1,aBV jc,↓fO ec,↓fO ea,↓aEo (show liT _ (T.cell y)=_ from ey),Bool.not_true,Bool.not_false];have next:∀l,(∀c,c∈l↔c∈ls[y]\/c=x)->l.length<=i+1->∀(b:Nat)(l':List Int),(ls.set y l)[b]?=some l'->l'.length<=i+1/\∀a,a∈l'↔(a,(b:Int))∈ps.take (i+1):=by
   intro l kl ly b l' e;have et:∀a,(a,(b:Int))∈ps.take (i+1)↔(a,(b:Int))∈ps.take i\/(a=x/\b=y):=fun a=>by
    rw[eT,hx];simp only[dI,bM,bS,aQI.injEq];constructor
    ·rintro(h| ⟨h1,h2⟩)
     ·exact .inl h
     ·exact .inr ⟨h1,by lia⟩
    ·rintro(h| ⟨h1,h2⟩)
     ·exact .inl h
     ·exact .inr ⟨h1,by lia⟩
   by_cases hb:b=y
   ·subst hb;rw[bN nv]at e;cases e
    refine⟨ly,fun a=>?_⟩
    rw[kl,et,(fu b _ (bA nv)).2];simp
   ·rw[aR (Ne.symm hb)]at e;obtain⟨h1,h2⟩:=fu b l' e
    refine⟨by lia,fun a=>?_⟩
    rw[et,h2];simp[hb]
  obtain⟨hly,_⟩:=fu y _ (bA nv);split
  ·rw[ey]
   refine⟨rfl,_,rfl,by walk_at "a",trivial,_,_,rfl,ls.set y (ls[y]++[x]),?_,by simpa using jr,next _ (fun c=>by simp) (by simp;lia)⟩
   rw[aDV,aPN _ _ (by simpa using nv),aQx]
  ·rename_i hn;have vc:x∈ls[y]:=by simpa using hn
   refine⟨trivial,_,_,rfl,ls,rfl,jr,fun b l e=>?_⟩
   have:=next ls[y] (fun c=>⟨.inl,fun h=>h.elim id fun h=>by rw[h];exact vc⟩) (by lia) b l
   rw[eQ]at this
   exact this e
 ·rintro τ C ⟨a,b,rfl,ls,rfl,jr,fu⟩;simp_arith[if_true]
  refine⟨.lst (ls.map iT),?_,ls,rfl,jr,fun b l e=>?_⟩
  ·unfold dr;rw[show lc (ls.map (fun l=>(Kd.l,l.map T.int))++[(.l,(bI m).map T.cell)]) m=some ((bI m).map T.cell)from by rw[fY,bK (by simp[jr])];simp[jr]];simp only[aU];rw[show mapO (dr 2 (ls.map (fun l=>(Kd.l,l.map T.int))++[(.l,(bI m).map T.cell)])) ((bI m).map T.cell)=some (ls.map iT)from ?_]
   ·rfl
   ·have:∀(k:Nat),k<=m->mapO (dr 2 (ls.map (fun l=>(Kd.l,l.map T.int))++[(.l,(bI m).map T.cell)])) (((bI m).drop (m - k)).map T.cell)=some ((ls.drop (m - k)).map iT):=by
     intro k;induction k with
     |zero=>intro _;rw[aQy,eE (by simp),eE (by lia)];rfl
     |succ k ih=>
      intro hk;have bf:m - (k+1)<m:=by lia
      rw[aOW (by simpa using bf),aOW (by lia:m - (k+1)<ls.length),show m - (k+1)+1=m - k by lia];rw[aM,aM]
      refine jI ?_ (ih (by lia))
      rw[dU]
      refine vU ?_ iC
      rw[fY];rw[aY (by simp;lia)];simp[jr,bf]
    have:=this m (bF _);simpa using this
  ·have:=fu b l e;rw[cY]at this
   exact this
def Rdy(nd:List (List Int))(told:List Int)(w:Nat):Prop:=(w:Int)∉told/\∀l,nd[w]?=some l->∀a∈l,a∈told
theorem wS(hn:nd.length<=100)(hl:∀l∈nd,l.length<=1000)(hw:w<nd.length)(hr:Rdy nd told w)(ca:∀v<w,¬Rdy nd told v):
 l6 [.lst (nd.map iT),.lst (told.map T.int)]=some (.int w):=by
 apply iJ;unfold qV;walk_at "b";simp_arith[aS]
 refine⟨by lia,mX (fun i τ C=>C=[]/\∃a,τ=[some (.lst (nd.map iT)),some (.lst (told.map T.int)),a]/\i<=w) ⟨rfl,_,rfl,dF _⟩ ?_ ?_⟩
 ·rintro i τ C hi ⟨rfl,a,rfl,hiw⟩;have du:i<nd.length:=by lia
  have e1:atI (nd.map iT) (0+(i:Int))=some (iT nd[i]):=by
   rw[aO5,oA,bH,bA du];rfl
  have hli:=hl _ (dS du);unfold o6;simp_arith[↓fO e1];have fin:∀b:Bool,(b=true↔Rdy nd told i)->if b=true then dr 3 [] (.int (0+(i:Int)))=some (T.int w)else∃a,[some (T.lst (nd.map iT)),some (T.lst (told.map T.int)),some (T.int (0+(i:Int)))]=[some (.lst (nd.map iT)),some (.lst (told.map T.int)),a]/\i+1<=w:=by
   intro b hb;have yq:i<w\/i=w:=by lia
   rcases yq with h|h
   ·rw[if_neg (fun z=>ca i h (hb.mp z))]
    exact⟨_,rfl,h⟩
   ·subst h;rw[if_pos (hb.mpr hr),aO5]
    exact hX gA
  by_cases ht:(0+(i:Int))∈told
  ·have h0:=fin false (Iff.intro (fun z=>nomatch z) (fun z=>(z.1 (by simpa using ht)).elim));rw[if_neg (by simp)]at h0;rw[if_neg (by simpa using ht)]
   exact h0
  ·rw[if_pos (by simpa using ht)]
   refine⟨by walk_at "a",g8 (fun a=>T.bl (decide (a∈told))) (fun a _=>?_) ?_⟩
   ·simp only[scT,aT,aM,bB,aX,aV,aW,bT,bU,cF];simp_arith[if_true]
   rw[aKf]
   refine⟨_,rfl,_,aHR,?_⟩
   have h0:=fin (List.all (nd[i].map fun a=>decide (a∈told)) id) (by
    rw[aQt,aOS];constructor
    ·intro h
     refine⟨by simpa using ht,fun l e a ha=>?_⟩
     rw[bA du]at e;cases e;simpa using h a ha
    ·intro h a ha;simpa using h.2 _ (bA du) a ha)
   split at h0
   ·rename_i hb;rw[if_pos hb];exact h0
   ·rename_i hb;rw[if_neg hb];exact⟨rfl,h0⟩
 ·rintro τ C ⟨rfl,a,rfl,hiw⟩
  lia
theorem aBT{P:Nat->Prop}(h:∃n,P n):∃n,P n/\∀k<n,¬P k:=by
 obtain⟨n,hn⟩:=h;induction n using Nat.strongRecOn with
 |_ n ih=>
  by_cases hk:∃k,k<n/\P k
  ·obtain⟨k,h1,h2⟩:=hk
   exact ih k h1 h2
  ·exact⟨n,hn,fun k h1 h2=>hk ⟨k,h1,h2⟩⟩
theorem aEP:∀(m:Nat)(l:List Int),(∀w:Nat,w<m->(w:Int)∈l)->m<=l.length
 |0,_,_=>dF _
 |m+1,l,h=>by
  have hm:=h m (d8 _);have:=aEP m (l.erase m) fun w hw=>(aPO (by lia)).mpr (h w (by lia))
  rw[d4 hm]at this;have:=aPE hm
  lia
theorem aBq:∀(m:Nat)(l:List Int),l.Nodup->(∀x∈l,0<=x/\x<m)->l.length<=m
 |0,l,_,h=>by
  cases l with
  |nil=>simp
  |cons x l=>have:=h x bJ;lia
 |m+1,l,hn,h=>by
  by_cases hm:(m:Int)∈l
  ·have:=aBq m (l.erase m) (hn.erase _) fun x hx=>by
    have h1:=h x (List.mem_of_mem_erase hx);have h2:x≠m:=fun z=>by subst z;exact(List.Nodup.mem_erase_iff hn).mp hx |>.1 rfl
    lia
   rw[d4 hm]at this
   lia
  ·have:=aBq m l hn fun x hx=>by
    have h1:=h x hx;have h2:x≠m:=fun z=>hm (z ▸ hx)
    lia
   lia
def aDj(ps:List (Int×Int))(told:List Int)(w:Nat):Prop:=(w:Int)∉told/\∀a,(a,(w:Int))∈ps->a∈told
theorem Nd.rdy{m:Nat}(h:Nd ps m nd)(hw:w<m):Rdy nd told w↔aDj ps told w:=by
 have bv:w<nd.length:=by rw[h.1];exact hw
 have e:=bA bv;obtain⟨_,h2⟩:=h.2 w _ e;constructor
 ·rintro⟨h3,h4⟩
  exact⟨h3,fun a ha=>h4 _ e a ((h2 a).mpr ha)⟩
 ·rintro⟨h3,h4⟩
  refine⟨h3,fun l e' a ha=>?_⟩
  rw[e]at e';cases e'
  exact h4 a ((h2 a).mp ha)
def Acy(ps:List (Int×Int)):Prop:=∃r:Int->Nat,∀p∈ps,r p.1<r p.2
theorem aM2{m:Nat}(hw:InW m ps)(hr:Acy ps)(hl:told.length<m):∃w,w<m/\aDj ps told w:=by
 obtain⟨r,hr⟩:=hr;have hex:∃w:Nat,w<m/\(w:Int)∉told:=c7 fun hn=>by
  have:=aEP m told fun w hw=>c7 fun hc=>hn ⟨w,hw,hc⟩
  lia
 obtain⟨k,⟨w,h1,h2,h3⟩,ca⟩:=aBT (P:=fun k=>∃w:Nat,w<m/\(w:Int)∉told/\r w=k) (by obtain⟨w,h1,h2⟩:=hex;exact⟨r w,w,h1,h2,rfl⟩)
 refine⟨w,h1,h2,fun a ha=>c7 fun hc=>?_⟩
 have h4:=(hw _ ha).1;have h5:=hr _ ha;simp only at h4 h5
 refine ca (r a) (by lia) ⟨a.toNat,by lia,?_,?_⟩
 ·rw[bZ h4.1];exact hc
 ·rw[bZ h4.1]
def aDd(ps:List (Int×Int))(m:Nat)(o:List Int):Prop:=∀(i:Nat)(x:Int),o[i]?=some x->∃w:Nat,x=w/\w<m/\aDj ps (o.take i) w/\∀v<w,¬aDj ps (o.take i) v
theorem aDd.snoc{m:Nat}(h:aDd ps m o)(hw:w<m)(hr:aDj ps o w)(ca:∀v<w,¬aDj ps o v):aDd ps m (o++[(w:Int)]):=by
 intro i x e;by_cases hi:i<o.length
 ·rw[aY hi]at e;rw[List.take_append_of_le_length (by lia)]
  exact h i x e
 ·have du:i=o.length:=by
   have:=(aQ.mp e).1;simp at this;lia
  subst du;simp only[List.getElem?_concat_length,cE.injEq]at e;rw[List.take_left']
  ·exact⟨w,e.symm,hw,hr,ca⟩
  ·rfl
theorem xR{m:Nat}(hm:m<=8)(hl:ps.length<=1000)(hw:InW m ps)(hr:Acy ps):∃t,m8 [.int m,.lst (ps.map pT)]=some t/\∃o,t=.lst (o.map T.int)/\o.length=m/\aDd ps m o:=by
 obtain⟨_,e1,nd,rfl,gq⟩:=uB (by lia) hl hw;have yg:=gq.1;have w1:∀{C Q},wpO (iX 2 gQ [.int m,.lst (ps.map pT)] C) Q↔Q (.lst (nd.map iT)) C:=fQ e1 rfl (by rw[fR,fR,gW,gK,gA,mD];rfl);apply lE;unfold xH;walk_at "b";simp_arith[↓w1]
 refine⟨by walk_at "a",aFV (n:=10) (k:=0) (fun i τ C=>∃o:List Int,τ=[some (.int m),some (.lst (ps.map pT)),some (.lst (nd.map iT)),some (.cell 0)]/\C=[(.l,o.map T.int)]/\o.length=i/\i<=m/\aDd ps m o) (by lia) ⟨[],rfl,rfl,rfl,dF _,fun i x e=>by simp at e⟩ ?_⟩
 rintro i τ C hi ⟨o,rfl,rfl,ho,him,hp⟩;simp_arith[aS];by_cases bf:i<m
 ·obtain⟨w,⟨h1,h2⟩,h3⟩:=aBT (aM2 hw hr (told:=o) (by lia));have ca:∀v<w,¬aDj ps o v:=fun v hv z=>h3 v hv ⟨by lia,z⟩
  have el:=wS (nd:=nd) (told:=o) (w:=w) (by lia) (fun l dq=>by
   obtain⟨b,hb⟩:=bQ.mp dq;have:=(gq.2 b l hb).1
   lia) (by lia) ((gq.rdy h1).mpr h2) (fun v hv z=>ca v hv ((gq.rdy (by lia)).mp z))
  rw[if_pos (jT (by lia))];unfold sU;simp_arith[if_true]
  refine z5 rfl (jI (hX (by rw[gK];exact aGE)) (jI (l9 rfl) rfl)) ?_
  refine⟨_,el,rfl,?_⟩
  simp_arith[if_true]
  refine⟨by walk_at "a",by lia,o++[(w:Int)],by rw[aDV],by simp[ho],bf,hp.snoc h1 h2 ca⟩
 ·rw[if_neg (by simpa using(by lia:m<=o.length))]
  exact⟨_,l9 rfl,o,rfl,by lia,hp⟩
structure Topo(ps:List (Int×Int))(m:Nat)(o:List Int):Prop where
 len:o.length=m
 nd:o.Nodup
 rng:∀x∈o,0<=x/\x<m
 all:∀w:Nat,w<m->(w:Int)∈o
 top:∀(j:Nat)(b:Int),o[j]?=some b->∀a,(a,b)∈ps->a∈o.take j
theorem aDd.topo{m:Nat}(h:aDd ps m o)(hl:o.length=m):Topo ps m o:=by
 have rng:∀x∈o,0<=x/\x<m:=fun x hx=>by
  obtain⟨i,hi⟩:=bQ.mp hx;obtain⟨w,rfl,hw,_⟩:=h i x hi
  lia
 have nd:o.Nodup:=by
  refine aPr.mpr fun i j hi hj ko e=>?_
  have ej:=bA hj;obtain⟨w,e1,_,h2,_⟩:=h j _ ej
  refine h2.1 (bC (i:=i) ?_)
  rw[d0 ko,bA hi,e,e1]
 refine⟨hl,nd,rng,fun w hw=>c7 fun hc=>?_,fun j b e a ha=>?_⟩
 ·have:=aBq m ((w:Int)::o) (bV.mpr ⟨hc,nd⟩) (fun x hx=>by
   rcases bE.mp hx with rfl|hx
   ·lia
   ·exact rng x hx)
  simp at this;lia
 ·obtain⟨w,rfl,_,h2,_⟩:=h j b e
  exact h2.2 a ha
end Lib
namespace TL
open PySem L2
section
variable {τ:TSt}{C:Sto}{fa:FN}{x:XF}{F:FS}{Q:Fl->TSt->Sto->Prop}{c:String}
end
end TL
namespace Lib
open PySem L2 TL
variable{rs:List Int}{ps:List (Int×Int)}
theorem aId{i:Int}:lL [.int i]=some (.bl true):=by
 apply iJ;unfold aEB;walk_at "b";simp_arith[aMK]
 exact rfl
theorem qJ{a:Int}{C:Sto}{Q:T->Sto->Prop}:wpO (iX 1 lL [.int a] C) Q↔Q (.bl true) C:=fQ aId rfl (by walk_at "c")
structure Rk(m:Nat)(rs:List Int):Prop where
 len:rs.length=m
 nd:rs.Nodup
 rng:∀x∈rs,0<=x/\x<m
theorem Rk.ins{m:Nat}{q:Int}(h:Rk m rs):Rk (m+1) (insAt rs q m):=by
 have p:=u4 (xs:=rs) (i:=q) (y:=(m:Int))
 refine⟨by rw[wT,h.len],p.nodup_iff.mpr (bV.mpr ⟨fun z=>?_,h.nd⟩),fun x hx=>?_⟩
 ·have:=h.rng _ z;lia
 ·rcases bE.mp (p.mem_iff.mp hx)with rfl|hx
  ·lia
  ·have:=h.rng _ hx;lia
def Al(rs:List Int)(p:Int×Int):Prop:=∃i j:Nat,i<j/\rs[i]?=some p.1/\rs[j]?=some p.2
theorem Al.inW{m:Nat}(hr:Rk m rs)(h:∀p∈ps,Al rs p):InW m ps:=fun p hp=>by
 obtain⟨i,j,_,h1,h2⟩:=h p hp
 exact⟨hr.rng _ (bC h1),hr.rng _ (bC h2)⟩
theorem Al.acy{m:Nat}(hr:Rk m rs)(h:∀p∈ps,Al rs p):Acy ps:=by
 refine⟨fun x=>rs.idxOf x,fun p hp=>?_⟩
 obtain⟨i,j,ko,h1,h2⟩:=h p hp;have key:∀(k:Nat)(x:Int),rs[k]?=some x->rs.idxOf x=k:=fun k x e=>by
  obtain⟨hk,e⟩:=aQ.mp e;rw[<-e]
  exact hr.nd.idxOf_getElem k hk
 show rs.idxOf p.1<rs.idxOf p.2;rw[key i _ h1,key j _ h2]
 exact ko
theorem aAY{α:Type}{xs:List α}{f:α->Int}:(xs.map fun x=>T.int (f x))=(xs.map f).map T.int:=by simp
end Lib
namespace Lib
open PySem L2 TL
variable{bs hs ns:List Int}{d:Int}{ps:List (Int×Int)}
noncomputable def at0(bs:List Int)(x:Int):Int:=bs.getD x.toNat 0
theorem wW{x:Int}(h0:0<=x)(h:x<bs.length):atI (bs.map T.int) x=some (.int (at0 bs x)):=by
 rw[wV h0 h];unfold at0;rw[cV,bA (by lia)];rfl
theorem vV{x y v:Int}(h0:0<=x)(h:x<bs.length)(hy:0<=y):at0 (bs.set x.toNat v) y=if y=x then v else at0 bs y:=by
 unfold at0;rw[cV,cV];by_cases e:y=x
 ·subst e;rw[if_pos rfl,bN (by lia)];rfl
 ·rw[if_neg e,aR (by lia)]
theorem sF{P:Int->Prop}{x:Int}(h:∀b∈bs,P b)(h0:P 0):P (at0 bs x):=by
 unfold at0;rw[cV];cases e:bs[x.toNat]?with
 |none=>exact h0
 |some b=>exact h b (bC e)
theorem lX{i:Nat}(h:i<bs.length):at0 bs (i:Int)=bs[i]:=by
 unfold at0;rw[cV,c9,bA h];rfl
theorem aKd(hl:bs.length<=1000):kG [.lst (bs.map T.int),.lst (hs.map T.int)]=some (.lst (((bs.zip hs).map fun p=>p.1+p.2).map T.int)):=by
 apply iJ;unfold pO;walk_at "b";simp_arith[aC3]
 refine⟨by rw[aS,dG];unfold lim;lia,g8 (fun p:Int×Int=>T.int (p.1+p.2)) (fun p _=>?_) ?_⟩
 ·simp only[scT,aT,aM,bB,aX,aV,aW];simp_arith[if_true]
 ·rw[aAY];exact aOk
theorem v6{n:Int}(h:n∈ns):n<=jW d ns:=by
 unfold jW;have ba:ns≠[]:=by rintro rfl;simp at h
 rw[if_neg (by simpa using ba)]
 exact(rH ba).2 n h
theorem pK:(ns=[]/\jW d ns=d)\/jW d ns∈ns:=by
 unfold jW;by_cases h:ns=[]
 ·left;subst h;exact⟨rfl,rfl⟩
 ·right;rw[if_neg (by simpa using h)]
  exact(rH h).1
structure Early(ps:List (Int×Int))(hs:List Int)(bs:List Int):Prop where
 len:bs.length=hs.length
 pos:∀x,0<=at0 bs x
 ge:∀p∈ps,at0 bs p.1+at0 hs p.1<=at0 bs p.2
 att:∀w:Nat,w<hs.length->at0 bs w=0\/∃a,(a,(w:Int))∈ps/\at0 bs w=at0 bs a+at0 hs a
theorem aCn(hm:hs.length<=8)(hl:ps.length<=1000)(hw:InW hs.length ps)(hr:Acy ps)(hp:∀h∈hs,0<=h):
 ∃t,lR [.lst (hs.map T.int),.lst (ps.map pT)]=some t/\∃bs,t=.lst (bs.map T.int)/\Early ps hs bs:=by
 obtain⟨_,e1,nd,rfl,gq⟩:=uB (by lia) hl hw;obtain⟨_,e2,o,rfl,ho,il⟩:=xR hm hl hw hr;have tp:=il.topo ho;have w1:∀{C Q},wpO (iX 2 gQ [.int hs.length,.lst (ps.map pT)] C) Q↔Q (.lst (nd.map iT)) C:=fQ e1 rfl (by rw[fR,fR,gW,gK,gA,mD];rfl);have w2:∀{C Q},wpO (iX 2 m8 [.int hs.length,.lst (ps.map pT)] C) Q↔Q (.lst (o.map T.int)) C:=fQ e2 rfl (by rw[fR,fR,gW,gK,gA,mD];rfl);have yg:=gq.1;apply lE;unfold zA;walk_at "b";simp_arith[↓w1,↓w2,aS]
 refine⟨by unfold lim;lia,g8 (fun _:Int=>T.int 0) (fun i _=>?_) ?_⟩
 ·simp only[scT,aT,aM,bB,aX,aV,aW];simp_arith[if_true]
 simp_arith[if_true]
 refine i9 (fun i τ C=>∃a,τ=[some (.lst (hs.map T.int)),some (.lst (ps.map pT)),some (.lst (o.map T.int)),some (.lst (nd.map iT)),some (.cell 0),a]/\∃bs:List Int,C=[(.l,bs.map T.int)]/\bs.length=hs.length/\(∀x,0<=at0 bs x)/\
  ∀(j:Nat)(w:Int),j<i->o[j]?=some w->(∀a,(a,w)∈ps->at0 bs a+at0 hs a<=at0 bs w)/\(at0 bs w=0\/∃a,(a,w)∈ps/\at0 bs w=at0 bs a+at0 hs a)) ?_ ?_ ?_
 ·refine⟨_,rfl,aT hs.length 0,?_,by simp,fun x=>sF (fun b hb=>by rw[List.eq_of_mem_replicate hb];exact bR _) (bR _),fun j w hj=>by lia⟩
  rw[aQi,aPW,ho]
 ·rintro i w τ C bv ⟨a,rfl,bs,rfl,zc,vv,fu⟩;obtain⟨je,hw1⟩:=tp.rng w (bC bv);have hwn:w.toNat<nd.length:=by lia
  obtain⟨hnl,ol⟩:=gq.2 w.toNat _ (bA hwn);rw[bZ je]at ol;have en:atI (nd.map iT) w=some (iT nd[w.toNat]):=by rw[pH je,bH,bA hwn];rfl
  generalize nd[w.toNat]=l at hnl ol en;unfold sS;simp_arith[↓fO en]
  refine⟨by walk_at "a",g8 (fun a:Int=>T.int (at0 bs a+at0 hs a)) (fun a ha=>?_) ?_⟩
  ·have zg:=(hw _ ((ol a).mp ha)).1;simp only at zg;have g1:=wW (bs:=bs) zg.1 (by lia);have g2:=wW (bs:=hs) zg.1 (by lia);simp only[scT,aT,aM,bB,aX,aV,aW,bT,bU,cF];simp_arith[↓fO g1,↓fO g2]
  ·rw[aAY,fO (p8 _)];simp_arith[if_true];have ix:ixN (bs.map T.int).length w=some w.toNat:=aBd je (by simp;lia);rw[fO ix];obtain⟨v,hv⟩:∃v,jW 0 (l.map fun a=>at0 bs a+at0 hs a)=v:=⟨_,rfl⟩;rw[hv];have v0:0<=v:=by
    rw[<-hv];rcases pK (d:=0) (ns:=l.map fun a=>at0 bs a+at0 hs a)with⟨_,h⟩|h
    ·rw[h];exact bR _
    ·obtain⟨a,_,e⟩:=bL.mp h;rw[<-e];have:=vv a;have:=sF (x:=a) hp (bR 0)
     lia
   have keep:∀(j:Nat)(u a:Int),j<=i->o[j]?=some u->(a,u)∈ps->at0 (bs.set w.toNat v) a=at0 bs a:=by
    intro j u a hj hu ha;have hm:=tp.top j u hu a ha;obtain⟨k,hk⟩:=bQ.mp hm;have hkj:k<j:=by
     have:=(aQ.mp hk).1;simp at this;lia
    rw[d0 hkj]at hk;have iy:=(hw _ ha).1;rw[vV je (by lia) iy.1,if_neg];rintro rfl;have:=(aP1 (by have:=(aQ.mp hk).1;exact this) tp.nd).mp (hk.trans bv.symm)
    lia
   refine⟨trivial,_,rfl,bs.set w.toNat v,by rw[<-r6],by simpa using zc,fun x=>sF (fun b hb=>?_) (bR _),fun j u hj hu=>?_⟩
   ·rcases aPs hb with hb|rfl
    ·obtain⟨k,hk⟩:=bQ.mp hb;obtain⟨hk1,hk2⟩:=aQ.mp hk;have:=vv k;rw[lX hk1,hk2]at this
     exact this
    ·exact v0
   ·obtain⟨ny,hu1⟩:=tp.rng u (bC hu);by_cases hji:j=i
    ·subst hji;rw[bv]at hu;cases hu;have ev:at0 (bs.set w.toNat v) w=v:=by rw[vV je (by lia) je,if_pos rfl]
     rw[ev]
     refine⟨fun a ha=>?_,?_⟩
     ·rw[keep j w a (bF _) bv ha,<-hv]
      exact v6 (bL.mpr ⟨a,(ol a).mpr ha,rfl⟩)
     ·rcases pK (d:=0) (ns:=l.map fun a=>at0 bs a+at0 hs a)with⟨_,h⟩|h
      ·left;rw[<-hv];exact h
      ·right;obtain⟨a,ha,e⟩:=bL.mp h
       exact⟨a,(ol a).mp ha,by rw[keep j w a (bF _) bv ((ol a).mp ha),e,hv]⟩
    ·have ba:u≠w:=by
      rintro rfl;have:=(aP1 (by have:=(aQ.mp hu).1;exact this) tp.nd).mp (hu.trans bv.symm)
      lia
     have eu:at0 (bs.set w.toNat v) u=at0 bs u:=by rw[vV je (by lia) ny,if_neg ba]
     obtain⟨h1,h2⟩:=fu j u (by lia) hu;rw[eu]
     refine⟨fun a ha=>?_,?_⟩
     ·rw[keep j u a (by lia) hu ha];exact h1 a ha
     ·rcases h2 with h2| ⟨a,ha,e⟩
      ·exact .inl h2
      ·exact .inr ⟨a,ha,by rw[keep j u a (by lia) hu ha];exact e⟩
 ·rintro τ C ⟨a,rfl,bs,rfl,zc,vv,fu⟩;simp_arith[if_true]
  refine⟨_,l9 rfl,bs,rfl,zc,vv,fun p oh=>?_,fun w bv=>?_⟩
  ·have h2:=(hw p oh).2;have:=tp.all p.2.toNat (by lia);rw[bZ h2.1]at this;obtain⟨j,hj⟩:=bQ.mp this
   exact(fu j p.2 (aQ.mp hj).1 hj).1 p.1 oh
  ·obtain⟨j,hj⟩:=bQ.mp (tp.all w bv)
   exact(fu j w (aQ.mp hj).1 hj).2
noncomputable def dones(bs hs:List Int):List Int:=(bs.zip hs).map fun p=>p.1+p.2
theorem aFB(e:lR [.lst (hs.map T.int),.lst (ps.map pT)]=some (.lst (bs.map T.int)))(hl:bs.length<=1000):
 kI [.lst (hs.map T.int),.lst (ps.map pT)]=some (.int (jW 0 (dones bs hs))):=by
 have w1:∀{C Q},wpO (iX 2 lR [.lst (hs.map T.int),.lst (ps.map pT)] C) Q↔Q (.lst (bs.map T.int)) C:=fQ e rfl (by rw[fR,fR,gW,gK,gK,mD,iC];rfl);have w2:∀{C Q},wpO (iX 2 kG [.lst (bs.map T.int),.lst (hs.map T.int)] C) Q↔Q (.lst ((dones bs hs).map T.int)) C:=fQ (aKd hl) rfl (by walk_at "c");apply iJ;unfold aBX;walk_at "b";simp_arith[↓w1,↓w2];rw[fO (p8 _)]
 exact hX gA
theorem m6(hl:bs.length=hs.length){x:Int}:x∈dones bs hs↔∃w:Nat,w<hs.length/\x=at0 bs w+at0 hs w:=by
 unfold dones;rw[bL];constructor
 ·rintro⟨p,hp,rfl⟩;obtain⟨w,hw⟩:=bQ.mp hp;rw[dX]at hw;obtain⟨h1,e1⟩:=aQ.mp hw.1;obtain⟨h2,e2⟩:=aQ.mp hw.2
  exact⟨w,h2,by rw[lX h1,lX h2,e1,e2]⟩
 ·rintro⟨w,hw,rfl⟩
  refine⟨(bs[w]'(by lia),hs[w]),bC (i:=w) ?_,?_⟩
  ·rw[dX];exact⟨bA (by lia),bA hw⟩
  ·rw[lX (by lia),lX hw]
def Mx(S:Int->Prop)(d:Int):Prop:=0<=d/\(∀x,S x->x<=d)/\(d=0\/S d)
theorem Mx.uniq{S:Int->Prop}{d':Int}(h:Mx S d)(h':Mx S d'):d=d':=by
 obtain⟨a1,a2,a3⟩:=h;obtain⟨b1,b2,b3⟩:=h';apply aO0
 ·rcases a3 with rfl|a3
  ·exact b1
  ·exact b2 _ a3
 ·rcases b3 with rfl|b3
  ·exact a1
  ·exact a2 _ b3
theorem Early.mxL(h:Early ps hs bs)(hp:∀x∈hs,0<=x):Mx (fun x=>∃w:Nat,w<hs.length/\x=at0 bs w+at0 hs w) (jW 0 (dones bs hs)):=by
 have hl:=h.len;have nn:∀w,0<=at0 bs w+at0 hs w:=fun w=>by
  have:=h.pos w;have:=sF (x:=w) hp (bR 0)
  lia
 refine⟨?_,fun x hx=>v6 ((m6 hl).mpr hx),?_⟩
 ·rcases pK (d:=0) (ns:=dones bs hs)with⟨_,e⟩|e
  ·rw[e];exact bR _
  ·obtain⟨w,_,e⟩:=(m6 hl).mp e;rw[e];exact nn _
 ·rcases pK (d:=0) (ns:=dones bs hs)with⟨_,e⟩|e
  ·exact .inl e
  ·exact .inr ((m6 hl).mp e)
end Lib
namespace Lib
open PySem L2 TL
def Chn(ps:List (Int×Int))(ws:List Int):Prop:=∀(j:Nat)(x y:Int),ws[j]?=some x->ws[j+1]?=some y->(x,y)∈ps
end Lib
set_option maxHeartbeats 4000000
namespace Lib
open PySem L2 TL
end Lib
namespace TL
open PySem L2
section
variable {τ:TSt}{C:Sto}{fo fi fe:FE}{fa:FN}{Q:T->Sto->Prop}{QS:Fl->TSt->Sto->Prop}
theorem fG:wpS (aAa fo fi fe) τ C QS↔wpE fo τ C fun y C1=>wpE fi τ C1 fun z C2=>∃k i,y=.cell k/\z=.int i/\∃ts,lc C2 k=some ts/\∃x,atI ts i=some (.int x)/\wpE fe τ C2 fun w C3=>∃v,w=.int v/\∃us,lc C3 k=some us/\∃j,ixN us.length i=some j/\QS .nx τ (C3.set k (.l,us.set j (.int (x+v)))):=by
 unfold wpE wpS aAa;constructor
 ·rintro⟨l,t,C',e,q⟩;obtain⟨⟨t1,C1⟩,e1,e⟩:=aK.mp e;obtain⟨⟨t2,C2⟩,e2,e⟩:=aK.mp e;dsimp only at e;split at e
  ·obtain⟨ts,e3,e⟩:=aK.mp e;obtain⟨old,e4,e⟩:=aK.mp e;split at e
   ·obtain⟨⟨t3,C3⟩,e5,e⟩:=aK.mp e;dsimp only at e;split at e
    ·obtain⟨us,e6,e⟩:=aK.mp e;obtain⟨j,e7,e⟩:=aL.mp e;cases e
     exact⟨_,_,e1,_,_,e2,_,_,rfl,rfl,ts,e3,_,e4,_,_,e5,_,rfl,us,e6,j,e7,q⟩
    ·cases e
   ·cases e
  ·cases e
 ·rintro⟨_,_,e1,_,_,e2,k,i,rfl,rfl,ts,e3,x,e4,_,_,e5,v,rfl,us,e6,j,e7,q⟩
  exact⟨_,_,_,by rw[e1,aU,e2,aU];dsimp only;rw[e3,aU,e4,aU];dsimp only;rw[e5,aU];dsimp only;rw[e6,aU,e7];rfl,q⟩
theorem fF:wpO (aB4 .non .non C) Q↔Q (.bl true) C:=by
 unfold wpO aB4;constructor
 ·rintro⟨_,_,e,q⟩;cases e;exact q
 ·exact fun q=>⟨_,_,rfl,q⟩
theorem fE:wpE (vC fa) τ C Q↔wpA fa τ C fun ts C1=>ts.length<=lim/\Q (.tup ts) C1:=by
 unfold wpE wpA vC mP;constructor
 ·rintro⟨t,C',e,q⟩;obtain⟨⟨ts,C1⟩,e1,e⟩:=aK.mp e;dsimp only at e;split at e
  ·cases e;exact⟨ts,_,e1,‹_›,q⟩
  ·cases e
 ·rintro⟨ts,C1,e1,h,q⟩
  exact⟨_,_,by rw[e1];exact if_pos h,q⟩
end
end TL
namespace Lib
open PySem L2 TL
end Lib
namespace Lib
open PySem L2 TL
variable{r:Int×List Int}{rows:List (Int×List Int)}
noncomputable def t6(rows:List (Int×List Int))(w:Nat):Int:=(rows.map fun r=>r.1*(r.2.count (w:Int):Int)).sum
noncomputable def rT(r:Int×List Int):T:=.lst (.int r.1::r.2.map T.int)
theorem aOE:rT r=iT (r.1::r.2):=rfl
theorem aNP:CF (rT r)=true:=by rw[aOE];exact aEv
theorem aNE:CFs (rows.map rT)=true:=qM fun _ _=>aNP
theorem aM4{a:Int}{ws:List Int}:aDv (T.int a::ws.map T.int) (some 1) none=ws.map T.int:=by
 rw[show T.int a::ws.map T.int=(a::ws).map T.int from rfl,sV,aAO (by decide)];rfl
theorem aD5{m:Nat}(hm:m<=100)(hx:∀r∈rows,∀w∈r.2,0<=w/\w<(m:Int)):
 m4 [.int m,.lst (rows.map rT)]=some (.lst (((bI m).map (t6 rows)).map T.int)):=by
 apply iJ;unfold aAv;walk_at "b";simp_arith[↓fG,↓fF,↓fE]
 refine⟨by lia,?_⟩
 rw[pU]
 refine g8 (fun _=>T.int 0) (fun i _=>?_) ?_
 ·simp only[scT,aT,aM,bB,aX,aV,aW,bT,bU,cF];simp_arith[↓fG,↓fF,↓fE]
 simp_arith[↓fG,↓fF,↓fE]
 refine i9 (fun i τ C=>∃a b:Option T,τ=[some (.int m),some (.lst (rows.map rT)),some (.cell 0),a,b]/\C=[(.l,((bI m).map (t6 (rows.take i))).map T.int)]) ⟨_,_,rfl,by simp[t6]⟩ ?_ ?_
 ·rintro i ⟨a,ws⟩ τ C hi ⟨_,_,rfl,rfl⟩;have jd:=hx _ (bC hi);simp only at jd;unfold uX rT;simp_arith[↓fG,↓fF,↓fE,aM4]
  refine i9 (fun j τ C=>∃b:Option T,τ=[some (.int m),some (.lst (rows.map rT)),some (.cell 0),some (rT (a,ws)),b]/\C=[(.l,((bI m).map fun w=>t6 (rows.take i) w+a*((ws.take j).count (w:Int):Int)).map T.int)]) ⟨_,rfl,by simp⟩ ?_ ?_
  ·rintro j x τ C hj ⟨_,rfl,rfl⟩;obtain⟨x0,x1⟩:=jd x (bC hj);obtain⟨w,rfl⟩:∃w:Nat,x=w:=⟨_,(bZ x0).symm⟩;have hw:w<m:=by lia
   unfold u5 rT;have e1:atI (((bI m).map fun w=>t6 (rows.take i) w+a*((ws.take j).count (w:Int):Int)).map T.int) (w:Int)=some (.int (t6 (rows.take i) w+a*((ws.take j).count (w:Int):Int))):=by
    rw[oA,bH,bH,cQ hw];rfl
   simp_arith[↓fG,↓fF,↓fE,↓fO e1,↓fO (aCE (x:=T.int a) (xs:=ws.map T.int))]
   refine⟨_,e1,?_⟩
   rw[fO (aJ5 (by simpa using hw))]
   refine⟨trivial,_,rfl,?_⟩
   congr 1;congr 1;rw[r6 (f:=T.int)];congr 1;apply aP2;intro v;by_cases hv:v=w
   ·subst hv;rw[bN (by simpa using hw),bH,cQ hw];simp only[eK,cE.injEq];rw[eT,hj];simp only[dI,aP3,List.count_singleton_self]
    push_cast
    rw[aQe];lia
   ·rw[aR (Ne.symm hv),bH,bH];by_cases hvm:v<m
    ·rw[cQ hvm];simp only[eK,cE.injEq];rw[eT,hj];simp only[dI,aP3];rw[aPP,if_neg (by simp;lia)];simp
    ·rw[dA (by simp;lia)];rfl
  ·rintro τ C ⟨_,rfl,rfl⟩
   refine⟨trivial,_,_,rfl,?_⟩
   congr 4;funext w;unfold t6;rw[eT,hi];simp[cY]
 ·rintro τ C ⟨_,_,rfl,rfl⟩;simp_arith[↓fG,↓fF,↓fE];rw[cY]
  exact l9 rfl
theorem aCG{m:Nat}{C:Sto}{Q:T->Sto->Prop}(hm:m<=100)(hx:∀r∈rows,∀w∈r.2,0<=w/\w<(m:Int)):
 wpO (iX 2 m4 [.int m,.lst (rows.map rT)] C) Q↔Q (.lst (((bI m).map (t6 rows)).map T.int)) C:=
 fQ (aD5 hm hx) rfl (by rw[fR,fR,gW,gK,gA,aNE];rfl)
end Lib
namespace Lib
open PySem L2 TL
theorem aEs{f:T->Option T}:∀{ts us:List T},ts.length=us.length->(∀(i:Nat)(t u:T),ts[i]?=some t->us[i]?=some u->f t=some u)->mapO f ts=some us
 | [],[],_,_=>rfl
 |t::ts,u::us,hl,h=>jI (h 0 t u rfl rfl) (aEs (by simpa using hl) fun i t u e1 e2=>h (i+1) t u e1 e2)
end Lib
set_option maxHeartbeats 1000000
namespace Lib
open PySem L2 TL
variable{w:Int×Int×Int}
noncomputable def wworth(w:Int×Int×Int)(x:Int):Int:=if x<=w.2.2 then x*w.1 else w.2.2*(w.1 - w.2.1)+x*w.2.1
def WB(w:Int×Int×Int):Prop:=Bt 300 w.1/\Bt 300 w.2.1/\Bt 300 w.2.2
theorem zN{x:Int}(hw:WB w)(hx:Bt 1000 x):lH [w3 w,.int x]=some (.int (wworth w x)):=by
 obtain⟨h1,h2,h3⟩:=hw;apply iJ;unfold rV wworth;walk_at "b";simp_arith[↓fG,↓fF,↓fE,w3,↓fO (aCE (α:=T)),↓fO (aCD (α:=T)),↓fO (aIb (α:=T))];by_cases h:x<=w.2.2
 ·rw[if_pos (jT h),if_pos h]
  exact⟨uR hx h1 (by decide),hX gA⟩
 ·rw[if_neg (by simpa using h),if_neg h]
  exact⟨uR h3 (h1.sub h2) (by decide),uR hx h2 (by decide),hX gA⟩
theorem yZ{x:Int}{C:Sto}{Q:T->Sto->Prop}(hw:WB w)(hx:Bt 1000 x):wpO (iX 2 lH [w3 w,.int x] C) Q↔Q (.int (wworth w x)) C:=fQ (zN hw hx) rfl (by rw[fR,fR,gW,aGB,gA];rfl)
def aD4(ws:List (Int×Int×Int))(rows:List (Int×List Int))(e:Int):Int:=((ws.zip ((bI ws.length).map (t6 rows))).map fun p=>wworth p.1 p.2).sum - e*(rows.map (·.1)).sum
end Lib
namespace Lib
open PySem L2 TL
end Lib
namespace Lib
open PySem L2 TL
end Lib
namespace Lib
open PySem L2 TL
end Lib
namespace Lib
open PySem L2 TL
end Lib
namespace Lib
open PySem L2 TL
theorem aBJ{α:Type}{xs:List α}{i:Int}(h0:0<=i)(h:i<xs.length):∃t∈xs,atI xs i=some t:=
 ⟨xs[i.toNat]'(by lia),dS _,by rw[pH h0,bA (by lia)]⟩
def Sm(n:Int):Prop:=0<=n/\n<2147483587
theorem Sm.bt{n:Int}(h:Sm n):Bt 31 n:=.of_lt h.1 (by have:=h.2;lia)
theorem qC{a k:Int}(hk:Bt 20 k):∃t,kH [.int a,.int k]=some t/\∃r,t=.int r/\Sm r:=by
 apply lE;unfold aCX;walk_at "b";simp_arith[↓fG,↓fF,↓fE];have h1:=iP (x:=a*48271+k*k*69621+3) (m:=2147483647) (by lia);generalize (a*48271+k*k*69621+3)%2147483647=n1 at h1;have h2:=iP (x:=n1*n1) (m:=2147483629) (by lia);have b1:Bt 31 n1:=.of_lt h1.1 (by lia);generalize n1*n1%2147483629=n2 at h2;have h3:=iP (x:=n2*n2) (m:=2147483587) (by lia);have b2:Bt 31 n2:=.of_lt h2.1 (by lia)
 exact⟨gL (.of_lt (by decide) (by decide)),gB (hk.mono (by decide)),gL (.of_lt (by decide) (by decide)),by decide,gB (b1.mono (by decide)),by decide,gB (b2.mono (by decide)),by decide,_,hX gA,_,rfl,h3⟩
noncomputable def tF(a k:Int):Int:=if h:Bt 20 k then aQK (dH (qC (a:=a) h)).2 else 0
theorem aKz{a k:Int}(h:Bt 20 k):kH [.int a,.int k]=some (.int (tF a k)):=by
 unfold tF;rw[dif_pos h];have e:=(dH (qC (a:=a) h)).1;have e2:=(dH (dH (qC (a:=a) h)).2).1;rw[<-e2];exact e
theorem aIz{a k:Int}:Sm (tF a k):=by
 unfold tF;split
 ·rename_i h
  exact(dH (dH (qC (a:=a) h)).2).2
 ·exact⟨by decide,by decide⟩
theorem sQ{a k:Int}{C:Sto}{Q:T->Sto->Prop}(h:Bt 20 k):wpO (iX 2 kH [.int a,.int k] C) Q↔Q (.int (tF a k)) C:=fQ (aKz h) rfl (by walk_at "c")
theorem aCe{ns:List Int}(hl:ns.length<=63):∃t,nE [.lst (ns.map T.int)]=some t/\∃xs:List Int,t=.lst (xs.map T.int)/\xs.length=40/\∀x∈xs,Sm x:=by
 apply lE;unfold xJ;walk_at "b";simp_arith[↓fG,↓fF,↓fE,aS]
 refine⟨by lia,?_⟩
 rw[pU]
 refine g8 (fun i=>T.int (tF (lM ns 0) (90+(0+(i:Int))))) (fun i hi=>?_) ?_
 ·have hi:=cT.mp hi;have hb:Bt 20 (90+(0+(i:Int))):=.sml (by lia) (by lia) (by decide);simp only[scT,aT,aM,bB,aX,aV,aW,bT,bU,cF];simp_arith[↓fG,↓fF,↓fE,↓nC,↓sQ]
 rw[show(aQG (fun(i:Nat)=>T.int (tF (lM ns 0) (90+(0+(i:Int))))) (bI (aPC 40)))=((bI 40).map fun(i:Nat)=>tF (lM ns 0) (90+(0+(i:Int)))).map T.int by simp];obtain⟨pw,xo⟩:∃pw,((bI 40).map fun(i:Nat)=>tF (lM ns 0) (90+(0+(i:Int))))=pw:=⟨_,rfl⟩;have yn:pw.length=40:=by rw[<-xo];simp
 have oe:∀x∈pw,Sm x:=by
  rw[<-xo];intro x hx;obtain⟨i,_,rfl⟩:=bL.mp hx
  exact aIz
 rw[xo]
 refine⟨by lia,mX (fun i τ C=>∃a b:Option T,τ=[some (.lst (ns.map T.int)),some (.cell 0),a,b]/\∃xs:List Int,C=[(.l,xs.map T.int)]/\xs.length=40/\∀x∈xs,Sm x) ⟨_,_,rfl,pw,rfl,yn,oe⟩ ?_ ?_⟩
 ·rintro i τ C hi ⟨_,_,rfl,xs,rfl,ll,ei⟩;have hb:Bt 20 (2+(i:Int)):=.sml (by lia) (by lia) (by decide);have hq:=iP (x:=2+(i:Int)) (m:=40) (by lia);unfold tD;generalize hqe:(2+(i:Int))%40=q at hq;have e1:=wV (ns:=xs) (i:=q) hq.1 (by lia);have e2:=wV (ns:=ns) (i:=2+(i:Int)) (by lia) (by lia);simp_arith[↓fG,↓fF,↓fE,hqe,↓fO e1,↓fO e2,↓sQ]
  refine⟨by decide,?_⟩
  rw[fO (aBd hq.1 (by simp[ll];lia))]
  refine⟨_,_,rfl,xs.set q.toNat _,by rw[r6 (f:=T.int)],by simpa using ll,fun x hx=>?_⟩
  rcases aPs hx with h|h
  ·exact ei x h
  ·rw[h];exact aIz
 ·rintro τ C ⟨_,_,rfl,xs,rfl,ll,ei⟩;simp_arith[↓fG,↓fF,↓fE]
  exact⟨_,l9 rfl,xs,rfl,ll,ei⟩
theorem aFW{c:Int}{m:Nat}(hm:m<=8):∃t,tL [.int c,.int m]=some t/\∃rs:List Int,t=.lst (rs.map T.int)/\Rk m rs:=by
 apply lE;unfold aCZ;walk_at "b";simp_arith[↓fG,↓fF,↓fE]
 refine⟨by walk_at "a",by lia,mX (fun i τ C=>∃(a:Option T),τ=[some (.int c),some (.int m),some (.cell 0),a]/\∃rs:List Int,C=[(.l,rs.map T.int)]/\Rk i rs) ⟨_,rfl,[],rfl,⟨rfl,.nil,by simp⟩⟩ ?_ ?_⟩
 ·rintro i τ C hi ⟨a,rfl,rs,rfl,hr⟩;have hb:Bt 20 (0+(i:Int)):=.sml (by lia) (by lia) (by decide);have ai:=hr.len;unfold xN;simp_arith[↓fG,↓fF,↓fE,↓sQ];have b2:=iP (x:=tF c (0+(i:Int))) (m:=0+(i:Int)+1) (by lia);generalize tF c (0+(i:Int))%(0+(i:Int)+1)=q at b2
  refine⟨by walk_at "a",⟨by walk_at "a",by lia,by lia⟩,_,rfl,insAt rs q (i:Int),by rw[aO5,<-tV],hr.ins⟩
 ·rintro τ C ⟨a,rfl,rs,rfl,hr⟩;simp_arith[↓fG,↓fF,↓fE]
  exact⟨_,l9 rfl,rs,rfl,by simpa using hr⟩
end Lib
namespace Lib
open PySem L2 TL
theorem aLi{ws:List (Int×Int×Int)}{a b c:Int}:ws.map w3++[T.lst [.int a,.int b,.int c]]=(ws++[(a,b,c)]).map w3:=by
 rw[bP];rfl
theorem aMg{n:Nat}{C:Sto}{ts us:List T}(h:mapO (dr n C) ts=some us):dr (n+1) C (.tup ts)=some (.tup us):=by
 unfold dr;split
 ·rename_i hc;rw[aBe hc]at h;cases h;rfl
 ·rw[h];rfl
end Lib
namespace Lib
open PySem L2 TL
variable{ws:List (Int×Int×Int)}{w:Int×Int×Int}{Q:T->Sto->Prop}
theorem aEK{hs:List Int}{ps:List (Int×Int)}:CFs [.lst (hs.map T.int),.lst (ps.map pT)]=true:=by rw[fR,fR,gW,gK,gK,iC,mD];rfl
theorem xZ(hl:ws.length<=1000):kX [.lst (ws.map w3)]=some (.lst ((ws.map (·.2.1)).map T.int)):=by
 apply iJ;unfold rC;walk_at "b";simp_arith[↓fG,↓fF,↓fE]
 refine⟨x8 (by simpa using hl),g8 (fun w=>T.int w.2.1) (fun w _=>?_) ?_⟩
 ·simp only[scT,aT,aM,bB,aX,aV,aW,bT,bU,cF];simp_arith[↓fG,↓fF,↓fE,w3,↓fO (aCD (α:=T))]
 ·rw[aAY,aOk]
theorem zH:lC [w3 w]=some (.int (if w.2.2=0 then w.2.1 else w.1)):=by
 apply iJ;unfold tI;walk_at "b";simp_arith[↓fG,↓fF,↓fE,w3,↓fO (aCE (α:=T)),↓fO (aCD (α:=T)),↓fO (aIb (α:=T))];by_cases h:w.2.2=0
 ·rw[if_pos (jT h),if_pos h];exact hX gA
 ·rw[if_neg (by simpa using h),if_neg h];exact hX gA
theorem vN{C:Sto}(hl:ws.length<=1000):wpO (iX 1 kX [.lst (ws.map w3)] C) Q↔Q (.lst ((ws.map (·.2.1)).map T.int)) C:=fQ (xZ hl) rfl (by rw[fR,gW,gK,pG];rfl)
theorem yI{C:Sto}:wpO (iX 1 lC [w3 w] C) Q↔Q (.int (if w.2.2=0 then w.2.1 else w.1)) C:=fQ zH rfl (by rw[fR,gW,aGB];rfl)
def NoOrd(m:Nat)(ps:List (Int×Int)):Prop:=aBh [.int m,.lst (ps.map pT)]=some "NoOrder"
section
variable {ws:List (Int×Int×Int)}{ps:List (Int×Int)}{e:Int}(hl:ws.length<=1000)(h:NoOrd ws.length ps)
include hl h
end
end Lib
namespace Lib
open PySem L2 TL
variable{ps:List (Int×Int)}{ws:List (Int×Int×Int)}{z:Int}
theorem wZ{hs bs:List Int}(hm:hs.length<=8)(hl:ps.length<=1000)(hw:InW hs.length ps)(hr:Acy ps)(hp:∀h∈hs,0<=h)(hE:Early ps hs bs):
 kQ [.lst (hs.map T.int),.lst (ps.map pT)]=some (.int (jW 0 (dones bs hs))):=by
 obtain⟨_,e2,o,rfl,ho,il⟩:=xR hm hl hw hr;have tp:=il.topo ho;apply iJ;unfold aAH;walk_at "b";simp_arith[↓fG,↓fF,↓fE,aS]
 refine⟨by walk_at "a",g8 (fun _:Int=>T.int 0) (fun i _=>?_) ?_⟩
 ·simp only[scT,aT,aM,bB,aX,aV,aW,bT,bU,cF];simp_arith[↓fG,↓fF,↓fE]
 simp_arith[↓fG,↓fF,↓fE,aS];rw[show(aQG (fun _=>T.int 0) hs)=(aT hs.length (0:Int)).map T.int by rw[aQi,aPW]]
 refine⟨by lia,mX (fun k τ C=>∃a b c:Option T,τ=[some (.lst (hs.map T.int)),some (.lst (ps.map pT)),some (.cell 0),a,b,c]/\∃g:List Int,C=[(.l,g.map T.int)]/\g.length=hs.length/\(∀x:Int,0<=x->x<hs.length->0<=at0 g x/\at0 g x<=at0 bs x)/\∀(j:Nat)(w:Int),j<k->o[j]?=some w->at0 g w=at0 bs w) ?_ ?_ ?_⟩
 ·refine⟨_,_,_,rfl,aT hs.length 0,rfl,by simp,fun x h0 h1=>?_,fun j w hj=>by lia⟩
  have:at0 (aT hs.length 0) x=0:=by
   unfold at0;rw[cV,cN,if_pos (by lia)];rfl
  rw[this]
  exact⟨bR _,hE.pos x⟩
 ·rintro k τ C hk ⟨_,_,_,rfl,g,rfl,cb,hg,hq⟩;have hk:k<hs.length:=by lia
  have hok:o[k]?=some o[k]:=bA (by lia);generalize o[k]=u at hok;unfold vA;simp_arith[↓fG,↓fF,↓fE]
  refine i9 (fun i τ C=>∃b c:Option T,τ=[some (.lst (hs.map T.int)),some (.lst (ps.map pT)),some (.cell 0),some (.int (0+(k:Int))),b,c]/\∃g:List Int,C=[(.l,g.map T.int)]/\g.length=hs.length/\(∀x:Int,0<=x->x<hs.length->0<=at0 g x/\at0 g x<=at0 bs x)/\(∀(j:Nat)(w:Int),j<k->o[j]?=some w->at0 g w=at0 bs w)/\∀p∈ps.take i,p.2=u->at0 bs p.1+at0 hs p.1<=at0 g u) ⟨_,_,rfl,g,rfl,cb,hg,hq,by simp⟩ ?_ ?_
  ·rintro i p τ C hi ⟨_,_,rfl,g,rfl,cb,hg,hq,ht⟩;have oh:=bC hi;obtain⟨h1,h2⟩:=hw p oh;have g1:=wW (bs:=g) h2.1 (by lia);have g2:=wW (bs:=g) h1.1 (by lia);have g3:=wW (bs:=hs) h1.1 (by lia);unfold u3;simp_arith[↓fG,↓fF,↓fE,pT,↓fO g1,↓fO g2,↓fO g3];rw[fO (aBd h2.1 (by simp[cb];lia))];obtain⟨v,hv⟩:∃v,max (at0 g p.2) (at0 g p.1+at0 hs p.1)=v:=⟨_,rfl⟩;rw[hv];have tu:=hE.ge p oh;have q1:=hg p.1 h1.1 h1.2;have q2:=hg p.2 h2.1 h2.2;have hh:0<=at0 hs p.1:=sF hp (bR 0);have es:∀x:Int,0<=x->at0 (g.set p.2.toNat v) x=if x=p.2 then v else at0 g x:=fun x h0=>vV h2.1 (by lia) h0
   refine⟨trivial,_,_,rfl,g.set p.2.toNat v,by rw[r6 (f:=T.int)],by simpa using cb,fun x h0 h3=>?_,fun j w hj oo=>?_,fun q rn ya=>?_⟩
   ·rw[es x h0];have:=hg x h0 h3;split
    ·rename_i e;subst e;lia
    ·exact this
   ·obtain⟨w0,w1⟩:=tp.rng w (bC oo);rw[es w w0];have:=hq j w hj oo;split
    ·rename_i e;subst e;lia
    ·exact this
   ·obtain⟨u0,u1⟩:=tp.rng u (bC hok);rw[eT,hi]at rn;simp only[dI,bM,bS]at rn;rw[es u u0];rcases rn with rn|rfl
    ·have:=ht q rn ya;split
     ·rename_i e;subst e;lia
     ·exact this
    ·rw[if_pos ya.symm];have ha:=tp.top k u hok q.1 (by rw[<-ya];exact oh);obtain⟨j,hj⟩:=bQ.mp ha;have ip:j<k:=by have:=(aQ.mp hj).1;simp at this;lia
     rw[d0 ip]at hj;have:=hq j q.1 ip hj
     lia
  ·rintro τ C ⟨_,_,rfl,g,rfl,cb,hg,hq,ht⟩;rw[cY]at ht
   refine⟨_,_,_,rfl,g,rfl,cb,hg,fun j w hj oo=>?_⟩
   by_cases e:j=k
   ·subst e;rw[hok]at oo;cases oo;obtain⟨u0,u1⟩:=tp.rng u (bC hok);have hu:=hg u u0 u1;have uf:=hE.att u.toNat (by lia);rw[bZ u0]at uf;rcases uf with h| ⟨a,ha,h⟩
    ·lia
    ·have:=ht _ ha rfl;simp only at this
     lia
   ·exact hq j w (by lia) oo
 ·rintro τ C ⟨_,_,_,rfl,g,rfl,cb,hg,hq⟩;have heq:∀w:Nat,w<hs.length->at0 g w=at0 bs w:=fun w bv=>by
   obtain⟨j,hj⟩:=bQ.mp (tp.all w bv)
   exact hq j w (by have:=(aQ.mp hj).1;lia) hj
  simp_arith[↓fG,↓fF,↓fE,aS]
  refine⟨by lia,?_⟩
  rw[pU]
  refine g8 (fun(w:Nat)=>T.int (at0 bs w+at0 hs w)) (fun w bv=>?_) ?_
  ·have bv:w<hs.length:=by simpa using bv
   have g1:=wW (bs:=g) (x:=0+(w:Int)) (by lia) (by lia);have g2:=wW (bs:=hs) (x:=0+(w:Int)) (by lia) (by lia);simp only[scT,aT,aM,bB,aX,aV,aW,bT,bU,cF];simp_arith[↓fG,↓fF,↓fE,↓fO g1,↓fO g2];rw[aO5,heq w bv]
  obtain⟨xs,ei⟩:∃xs:List Int,((bI hs.length).map fun(w:Nat)=>at0 bs w+at0 hs w)=xs:=⟨_,rfl⟩;have ll:xs.length=hs.length:=by rw[<-ei];simp
  have sk:∀x,x∈xs↔∃w:Nat,w<hs.length/\x=at0 bs w+at0 hs w:=fun x=>by
   rw[<-ei,bL];constructor
   ·rintro⟨w,bv,rfl⟩;exact⟨w,cT.mp bv,rfl⟩
   ·rintro⟨w,bv,rfl⟩;exact⟨w,cT.mpr bv,rfl⟩
  rw[show(aQG (fun(w:Nat)=>T.int (at0 bs w+at0 hs w)) (bI (hs.length:Int).toNat))=xs.map T.int by rw[<-ei];simp,aDV,fO (p8 _)]
  refine⟨by walk_at "a",by simp[lim,ll];lia,by simp,?_⟩
  obtain⟨m1,m2⟩:=rH (ns:=xs++[0]) (by simp);have:t9 (xs++[0])=jW 0 (dones bs hs):=by
   refine Mx.uniq (S:=fun x=>∃w:Nat,w<hs.length/\x=at0 bs w+at0 hs w) ⟨m2 0 (by simp),fun x hx=>m2 x (aOQ _ ((sk x).mpr hx)),?_⟩ (hE.mxL hp)
   rcases bM.mp m1 with h|h
   ·exact .inr ((sk _).mp h)
   ·exact .inl (bS.mp h)
  rw[this]
  exact hX gA
noncomputable def iQ(w:Int×Int×Int):Int:=if w.2.2=0 then w.2.1 else w.1
theorem aBf(hl:ws.length<=1000)(h:kI [.lst ((ws.map (·.2.1)).map T.int),.lst (ps.map pT)]=some (.int z)):gZ [.lst (ws.map w3),.lst (ps.map pT)]=some (.int z):=by
 have w1:∀{C Q},wpO (iX 2 kI [.lst ((ws.map (·.2.1)).map T.int),.lst (ps.map pT)] C) Q↔Q (.int z) C:=fQ h rfl aEK;apply iJ;unfold u7;walk_at "b";simp_arith[↓fG,↓fF,↓fE,↓vN,↓w1]
 exact hX gA
theorem aBW(hl:ws.length<=1000)(h:kI [.lst ((ws.map iQ).map T.int),.lst (ps.map pT)]=some (.int z)):nA [.lst (ws.map w3),.lst (ps.map pT)]=some (.int z):=by
 have w1:∀{C Q},wpO (iX 2 kI [.lst ((ws.map iQ).map T.int),.lst (ps.map pT)] C) Q↔Q (.int z) C:=fQ h rfl aEK;apply iJ;unfold wM;walk_at "b";simp_arith[↓fG,↓fF,↓fE]
 refine⟨x8 (by simpa using hl),g8 (fun w=>T.int (iQ w)) (fun w _=>?_) ?_⟩
 ·simp only[scT,aT,aM,bB,aX,aV,aW,bT,bU,cF];simp_arith[↓fG,↓fF,↓fE,↓yI]
  exact rfl
 ·rw[show(ws.map fun w=>T.int (iQ w))=(ws.map iQ).map T.int by simp];simp_arith[↓fG,↓fF,↓fE,↓w1]
  exact hX gA
theorem aIO{y:Int}(hl:ws.length<=1000)(h1:kQ [.lst ((ws.map (·.2.1)).map T.int),.lst (ps.map pT)]=some (.int z))(h2:kQ [.lst ((ws.map iQ).map T.int),.lst (ps.map pT)]=some (.int y)):
 sY [.lst (ws.map w3),.lst (ps.map pT)]=some (.tup [.int z,.int y]):=by
 have w1:∀{C Q},wpO (iX 2 kQ [.lst ((ws.map (·.2.1)).map T.int),.lst (ps.map pT)] C) Q↔Q (.int z) C:=fQ h1 rfl aEK;have w2:∀{C Q},wpO (iX 2 kQ [.lst ((ws.map iQ).map T.int),.lst (ps.map pT)] C) Q↔Q (.int y) C:=fQ h2 rfl aEK;apply iJ;unfold aEQ;walk_at "b";simp_arith[↓fG,↓fF,↓fE]
 refine⟨x8 (by simpa using hl),g8 (fun w=>T.int w.2.1) (fun w _=>?_) ?_⟩
 ·simp only[scT,aT,aM,bB,aX,aV,aW,bT,bU,cF];simp_arith[↓fG,↓fF,↓fE,w3,↓fO (aCD (α:=T))]
 rw[show(ws.map fun w=>T.int w.2.1)=(ws.map (·.2.1)).map T.int by simp];simp_arith[↓fG,↓fF,↓fE,↓w1]
 refine⟨x8 (by simpa using hl),g8 (fun w=>T.int (iQ w)) (fun w _=>?_) ?_⟩
 ·simp only[scT,aT,aM,bB,aX,aV,aW,bT,bU,cF];simp_arith[↓fG,↓fF,↓fE,w3,↓fO (aIb (α:=T))];unfold iQ;by_cases h:w.2.2=0
  ·rw[jT h,if_pos rfl,fO aCD,if_pos h]
  ·rw[decide_eq_false h,if_neg (by decide),fO aCE,if_neg h]
 ·rw[show(ws.map fun w=>T.int (iQ w))=(ws.map iQ).map T.int by simp];simp_arith[↓fG,↓fF,↓fE,↓w2]
  exact⟨by walk_at "a",hX (by walk_at "c")⟩
end Lib
namespace NF
noncomputable def sm:Nat->(Nat->Int)->Int
 |0,_=>0
 |n+1,g=>sm n g+g n
theorem kJ{n:Nat}{g g':Nat->Int}(h:∀k,k<n->g k=g' k):sm n g=sm n g':=by
 induction n with
 |zero=>rfl
 |succ n ih=>unfold sm;rw[ih fun k hk=>h k (by lia),h n (by lia)]
theorem y7{n:Nat}{g g':Nat->Int}(h:∀k,k<n->g k<=g' k):sm n g<=sm n g':=by
 induction n with
 |zero=>exact bR _
 |succ n ih=>unfold sm;have:=ih fun k hk=>h k (by lia);have:=h n (by lia);lia
theorem aNF{n:Nat}{g g':Nat->Int}:sm n (fun k=>g k+g' k)=sm n g+sm n g':=by
 induction n with
 |zero=>rfl
 |succ n ih=>unfold sm;rw[ih];dsimp only;lia
theorem aMm{n:Nat}{g g':Nat->Int}:sm n (fun k=>g k - g' k)=sm n g - sm n g':=by
 induction n with
 |zero=>rfl
 |succ n ih=>unfold sm;rw[ih];dsimp only;lia
theorem l7{n:Nat}{g:Nat->Int}(h:∀k,k<n->g k=0):sm n g=0:=by
 induction n with
 |zero=>rfl
 |succ n ih=>unfold sm;rw[ih fun k hk=>h k (by lia),h n (by lia)];rfl
theorem m5{n:Nat}{g:Nat->Int}(h:∀k,k<n->0<=g k):0<=sm n g:=by
 induction n with
 |zero=>exact bR _
 |succ n ih=>unfold sm;have:=ih fun k hk=>h k (by lia);have:=h n (by lia);lia
theorem aNG{n:Nat}{g:Nat->Int}(h:∀k,k<n->0<=g k){k:Nat}(hk:k<n):g k<=sm n g:=by
 induction n with
 |zero=>lia
 |succ n ih=>
  unfold sm;by_cases e:k=n
  ·subst e;have:=m5 fun j hj=>h j (aPv hj);lia
  ·have:=ih (fun j hj=>h j (by lia)) (by lia);have:=h n (by lia);lia
noncomputable def up(f:Nat->Int)(k:Nat)(v:Int):Nat->Int:=fun j=>if j=k then v else f j
theorem jM{f:Nat->Int}{k:Nat}{v:Int}:up f k v k=v:=by unfold up;rw[if_pos rfl]
theorem sA{f:Nat->Int}{k j:Nat}{v:Int}(h:j≠k):up f k v j=f j:=by unfold up;rw[if_neg h]
theorem aLK{n:Nat}{f g:Nat->Int}{k:Nat}{v:Int}(hk:k<n):sm n (fun j=>up f k v j*g j)=sm n (fun j=>f j*g j)+(v - f k)*g k:=by
 induction n with
 |zero=>lia
 |succ n ih=>
  unfold sm;dsimp only;by_cases e:k=n
  ·subst e;rw[jM,kJ (g':=fun j=>f j*g j) (fun j hj=>by rw[sA (by lia)]),aPf]
   lia
  ·rw[ih (by lia),sA (by lia)];lia
structure Nt where
 m:Nat
 t:Nat->Nat
 h:Nat->Nat
 d:Nat->Int
 c:Nat->Int
variable {N:Nt}{f f' p q:Nat->Int}{a b x:Int}
variable{r:List (Nat×Bool)}
def Pot(N:Nt)(f p:Nat->Int):Prop:=∀k,k<N.m->(f k<N.c k->p (N.t k)+N.d k<=p (N.h k))/\(0<f k->p (N.h k)<=p (N.t k)+N.d k)
def Flo(N:Nt)(f:Nat->Int)(a:Int):Prop:=∀p:Nat->Int,sm N.m (fun k=>f k*(p (N.h k) - p (N.t k)))=a*(p 1 - p 0)
def Cap(N:Nt)(f:Nat->Int):Prop:=∀k,k<N.m->0<=f k/\f k<=N.c k
noncomputable def pos(x:Int):Int:=if 0<x then x else 0
theorem aD7:0<=pos x:=by unfold pos;split<;>lia
theorem aL0:x<=pos x:=by unfold pos;split<;>lia
def len(N:Nt)(f:Nat->Int):Int:=sm N.m fun k=>f k*N.d k
def cost(N:Nt)(p:Nat->Int):Int:=sm N.m fun k=>N.c k*pos (N.d k - (p (N.h k) - p (N.t k)))
theorem gap(hf:Flo N f a)(p:Nat->Int):len N f - a*(p 1 - p 0)=sm N.m fun k=>f k*(N.d k - (p (N.h k) - p (N.t k))):=by
 unfold len;rw[<-hf p,<-aMm]
 exact kJ fun k _=>by rw[<-cJ]
theorem weak(hf:Flo N f a)(hc:Cap N f)(p:Nat->Int):len N f - a*(p 1 - p 0)<=cost N p:=by
 rw[gap hf]
 refine y7 fun k hk=>?_
 obtain⟨h1,h2⟩:=hc k hk;have h3:f k*(N.d k - (p (N.h k) - p (N.t k)))<=f k*pos (N.d k - (p (N.h k) - p (N.t k))):=Int.mul_le_mul_of_nonneg_left aL0 h1;have h4:f k*pos (N.d k - (p (N.h k) - p (N.t k)))<=N.c k*pos (N.d k - (p (N.h k) - p (N.t k))):=cZ h2 aD7
 lia
theorem strong(hf:Flo N f a)(hc:Cap N f)(hp:Pot N f p):len N f - a*(p 1 - p 0)=cost N p:=by
 rw[gap hf]
 refine kJ fun k hk=>?_
 obtain⟨h1,h2⟩:=hc k hk;obtain⟨h3,h4⟩:=hp k hk;generalize hx:N.d k - (p (N.h k) - p (N.t k))=y;unfold pos;by_cases hy:0<y
 ·rw[if_pos hy];have:f k=N.c k:=by
   by_cases h:f k<N.c k
   ·have:=h3 h;lia
   ·lia
  rw[this]
 ·rw[if_neg hy,aO6];by_cases hz:y=0
  ·rw[hz,aO6]
  ·have:f k=0:=by
    by_cases h:0<f k
    ·have:=h4 h;lia
    ·lia
   rw[this,dR]
noncomputable def rt(N:Nt)(e:Nat×Bool):Nat:=if e.2 then N.t e.1 else N.h e.1
noncomputable def rh(N:Nt)(e:Nat×Bool):Nat:=if e.2 then N.h e.1 else N.t e.1
noncomputable def rd(N:Nt)(e:Nat×Bool):Int:=if e.2 then N.d e.1 else - N.d e.1
noncomputable def rr(N:Nt)(f:Nat->Int)(e:Nat×Bool):Int:=if e.2 then N.c e.1 - f e.1 else f e.1
def Walk(N:Nt):List (Nat×Bool)->Nat->Nat->Prop
 | [],u,v=>u=v
 |e::r,u,v=>e.1<N.m/\rt N e=u/\Walk N r (rh N e) v
def pr(r:List (Nat×Bool))(x:Int)(f:Nat->Int):Nat->Int:=match r with
 | []=>f
 |e::r=>pr r x (up f e.1 (f e.1+if e.2 then x else -x))
theorem aHS:∀{r:List (Nat×Bool)}{u v:Nat}{f:Nat->Int},Walk N r u v->∀p:Nat->Int,sm N.m (fun k=>pr r x f k*(p (N.h k) - p (N.t k)))=sm N.m (fun k=>f k*(p (N.h k) - p (N.t k)))+x*(p v - p u)
 | [],u,v,f,w,p=>by cases w;simp[pr]
 |e::r,u,v,f,⟨h1,h2,h3⟩,p=>by
  show sm N.m (fun k=>pr r x (up f e.1 _) k*_)=_;rw[aHS h3,aLK h1];subst h2;unfold rt rh;cases e.2
  ·simp only[b9,if_false];have:(f e.1+ -x - f e.1)*(p (N.h e.1) - p (N.t e.1))=x*p (N.t e.1) - x*p (N.h e.1):=by
    rw[show f e.1+ -x - f e.1= -x by lia,Int.neg_mul,cJ];lia
   rw[this,cJ,cJ];lia
  ·simp only[if_true];have:(f e.1+x - f e.1)*(p (N.h e.1) - p (N.t e.1))=x*p (N.h e.1) - x*p (N.t e.1):=by
    rw[show f e.1+x - f e.1=x by lia,cJ]
   rw[this,cJ,cJ];lia
theorem Flo.pour(hf:Flo N f a)(w:Walk N r 0 1):Flo N (pr r x f) (a+x):=fun p=>by
 rw[aHS w,hf p,aOR]
theorem aGZ:∀{r:List (Nat×Bool)}{f:Nat->Int}{k:Nat},(∀e∈r,e.1≠k)->pr r x f k=f k
 | [],_,_,_=>rfl
 |e::r,f,k,h=>by
  show pr r x (up f e.1 _) k=_;rw[aGZ fun e' he=>h e' (aZ _ he),sA (fun z=>h e bJ z.symm)]
theorem aLq:∀{r:List (Nat×Bool)}{f:Nat->Int}{e:Nat×Bool},(r.map (·.1)).Nodup->e∈r->pr r x f e.1=f e.1+if e.2 then x else -x
 | [],_,_,_,h=>by cases h
 |e::r,f,e',hn,h=>by
  rw[aM,bV]at hn;show pr r x (up f e.1 _) e'.1=_;rcases bE.mp h with rfl|h
  ·rw[aGZ fun e hr z=>hn.1 (bL.mpr ⟨e,hr,z⟩),jM]
  ·rw[aLq hn.2 h,sA fun z=>hn.1 (bL.mpr ⟨e',h,z⟩)]
theorem aCJ(hn:(r.map (·.1)).Nodup)(f:Nat->Int)(x:Int)(k:Nat):(pr r x f k=f k/\∀e∈r,e.1≠k)\/∃b,(k,b)∈r/\pr r x f k=f k+if b then x else -x:=by
 by_cases h:∃e∈r,e.1=k
 ·obtain⟨⟨k',b⟩,he,rfl⟩:=h
  exact .inr ⟨b,he,aLq (e:=(k',b)) hn he⟩
 ·exact .inl ⟨aGZ fun e he z=>h ⟨e,he,z⟩,fun e he z=>h ⟨e,he,z⟩⟩
theorem Cap.pour(hc:Cap N f)(hn:(r.map (·.1)).Nodup)(hx:0<=x)(hr:∀e∈r,x<=rr N f e):Cap N (pr r x f):=fun k hk=>by
 obtain⟨h1,h2⟩:=hc k hk;rcases aCJ hn f x k with⟨e,_⟩| ⟨b,hb,e⟩
 ·rw[e];exact⟨h1,h2⟩
 ·rw[e];have:=hr _ hb;unfold rr at this;cases b<;>simp at this|- <;>lia
def Tight(N:Nt)(p:Nat->Int)(r:List (Nat×Bool)):Prop:=∀e∈r,p (rt N e)+rd N e=p (rh N e)
theorem Pot.pour(hp:Pot N f p)(hn:(r.map (·.1)).Nodup)(ht:Tight N p r):Pot N (pr r x f) p:=fun k hk=>by
 obtain⟨h1,h2⟩:=hp k hk;rcases aCJ hn f x k with⟨e,_⟩| ⟨b,hb,e⟩
 ·rw[e];exact⟨h1,h2⟩
 ·have:=ht _ hb;unfold rt rd rh at this;cases b<;>simp at this<;>exact⟨fun _=>by lia,fun _=>by lia⟩
theorem cut(hf:Flo N f a)(hc:Cap N f)(hp:Pot N f p)(W:Nat->Bool)(hq:∀k,k<N.m->W k=false->q (N.t k)+N.d k<=q (N.h k))(h0:p 0<=q 0)(h1:q 1<p 1):
 a<=sm N.m fun k=>if W k then N.c k else 0:=by
 have g:=hf fun v=>if q v<p v then 1 else 0
 simp only[if_pos h1,if_neg (Int.not_lt.mpr h0)]at g;rw[show a=a*(1 - 0)by lia,<-g]
 refine y7 fun k hk=>?_
 obtain⟨c1,c2⟩:=hc k hk;obtain⟨h3,h4⟩:=hp k hk;by_cases z:f k=0
 ·rw[z,dR];split<;>lia
 ·have h4:=h4 (by lia);cases hw:W k
  ·have:=hq k hk hw;have:¬(¬q (N.t k)<p (N.t k)/\q (N.h k)<p (N.h k)):=by lia
   simp only[b9,if_false];by_cases e1:q (N.h k)<p (N.h k)
   ·by_cases e2:q (N.t k)<p (N.t k)
    ·rw[if_pos e1,if_pos e2];lia
    ·exact absurd ⟨e2,e1⟩ this
   ·rw[if_neg e1];by_cases e2:q (N.t k)<p (N.t k)
    ·rw[if_pos e2];lia
    ·rw[if_neg e2];lia
  ·rw[if_pos rfl];by_cases e1:q (N.h k)<p (N.h k)
   ·by_cases e2:q (N.t k)<p (N.t k)
    ·rw[if_pos e1,if_pos e2];lia
    ·rw[if_pos e1,if_neg e2];lia
   ·by_cases e2:q (N.t k)<p (N.t k)
    ·rw[if_neg e1,if_pos e2];lia
    ·rw[if_neg e1,if_neg e2];lia
theorem aEe(hf:Flo N f a)(hc:∀k,k<N.m->0<=f k)(ρ:Nat->Int)(hr:∀k,k<N.m->ρ (N.t k)<ρ (N.h k)){j:Nat}(hj:j<N.m)(h0:ρ 0<ρ (N.h j))(h1:ρ (N.h j)<=ρ 1):f j<=a:=by
 have g:=hf fun v=>if ρ (N.h j)<=ρ v then 1 else 0
 simp only[if_pos h1,if_neg (aQH.mpr h0)]at g;rw[show a=a*(1 - 0)by lia,<-g];have k0:∀k,k<N.m->0<=f k*((if ρ (N.h j)<=ρ (N.h k)then(1:Int)else 0) - if ρ (N.h j)<=ρ (N.t k)then 1 else 0):=fun k hk=>by
  refine dN (hc k hk) ?_
  have:=hr k hk;split<;>split<;>lia
 have hl:=hr j hj;have:=aNG k0 hj;rw[if_pos (bR _),if_neg (by lia)]at this
 lia
end NF
namespace NF
variable {N:Nt}{f p q st:Nat->Int}{a e x:Int}{n:Nat}
def In(N:Nt)(n:Nat):Prop:=∀k,k<N.m->N.t k<n/\N.h k<n
structure Least(N:Nt)(n:Nat)(f st p:Nat->Int):Prop where
 ge:∀v,v<n->st v<=p v
 pot:Pot N f p
 le:∀q,(∀v,v<n->st v<=q v)->Pot N f q->∀v,v<n->p v<=q v
def Open(N:Nt)(f:Nat->Int)(o:Nat×Bool):Prop:=o.1<N.m/\0<rr N f o
theorem mW:Pot N f p↔∀o,Open N f o->p (rt N o)+rd N o<=p (rh N o):=by
 constructor
 ·rintro h ⟨k,b⟩ ⟨hk,ho⟩;obtain⟨h1,h2⟩:=h k hk;unfold rr at ho;unfold rt rd rh;cases b
  ·simp only[b9,if_false]at ho|-;have:=h2 ho;lia
  ·simp only[if_true]at ho|-;exact h1 (by lia)
 ·intro h k hk
  refine⟨fun h1=>?_,fun h1=>?_⟩
  ·have:=h (k,true) ⟨hk,by unfold rr;simp only[if_true];lia⟩;simpa only[rt,rd,rh,if_true]using this
  ·have:=h (k,false) ⟨hk,by unfold rr;simp only[b9,if_false];lia⟩;simp only[rt,rd,rh,b9,if_false]at this
   lia
theorem aGY{o:Nat×Bool}(hq:Pot N f q)(ho:Open N f o)(hl:∀v,v<n->p v<=q v)(hi:rt N o<n):∀v,v<n->up p (rh N o) (p (rt N o)+rd N o) v<=q v:=fun v hv=>by
 unfold up;split
 ·rename_i z;subst z;have:=mW.mp hq o ho;have:=hl _ hi
  lia
 ·exact hl v hv
theorem reach(L:Least N n f st p)(hi:In N n)(h1:1<n)(R:Nat->Prop)(hz:∀v,v<n->p v=st v->R v)(hc:∀o,Open N f o->R (rt N o)->p (rt N o)+rd N o=p (rh N o)->R (rh N o)):R 1:=by
 by_cases hr:R 1
 ·exact hr
 ·exfalso;have key:=L.le (fun v=>open Classical in if R v then p v else p v - 1) (fun v hv=>?_) (mW.mpr fun o ho=>?_) 1 h1
  ·simp only[if_neg hr]at key;lia
  ·have:=L.ge v hv;try dsimp only
   split
   ·exact this
   ·rename_i z;have:p v≠st v:=fun w=>z (hz v hv w)
    lia
  ·have h:=mW.mp L.pot o ho;have h':=hc o ho;try dsimp only
   split
   ·rename_i z1;split
    ·exact h
    ·rename_i z2;have:p (rt N o)+rd N o≠p (rh N o):=fun w=>z2 (h' z1 w)
     lia
   ·split<;>lia
theorem aKx(h1:Pot N f p)(h2:Pot N f q)(x:Int):Pot N f fun v=>if p v<q v - x then q v - x else p v:=mW.mpr fun o ho=>by
 have:=mW.mp h1 o ho;have:=mW.mp h2 o ho;try dsimp only
 split<;>split<;>lia
end NF
namespace NF
structure Wk where
 u:Nat->Int
 l:Nat->Int
 p:Nat->Int
noncomputable def net(w:Wk)(n:Nat)(es:List (Nat×Nat))(P:Int):Nt where
 m:=4*n+es.length
 t k:=if k<4*n then(match k%4 with|0=>0|1=>2*(k/4)+2|2=>2*(k/4)+2|_=>2*(k/4)+3)else 2*((es[k - 4*n]?).getD (0,0)).1+3
 h k:=if k<4*n then(match k%4 with|0=>2*(k/4)+2|1=>2*(k/4)+3|2=>2*(k/4)+3|_=>1)else 2*((es[k - 4*n]?).getD (0,0)).2+2
 d k:=if k<4*n then(match k%4 with|1=>w.u (k/4)|2=>w.l (k/4)|_=>0)else 0
 c k:=if k<4*n/\k%4=1 then w.p (k/4)else P
variable {w:Wk}{n:Nat}{es:List (Nat×Nat)}{P:Int}{f p q:Nat->Int}{a:Int}
variable{r:Nat->Int}{i:Nat}
inductive Pipe(w:Wk)(n:Nat)(es:List (Nat×Nat))(P:Int)(k:Nat):Prop where
 |src (i:Nat) (hi:i<n) (e:k=4*i) (t:(net w n es P).t k=0) (h:(net w n es P).h k=2*i+2) (d:(net w n es P).d k=0) (c:(net w n es P).c k=P)
 |usu (i:Nat) (hi:i<n) (e:k=4*i+1) (t:(net w n es P).t k=2*i+2) (h:(net w n es P).h k=2*i+3) (d:(net w n es P).d k=w.u i) (c:(net w n es P).c k=w.p i)
 |lea (i:Nat) (hi:i<n) (e:k=4*i+2) (t:(net w n es P).t k=2*i+2) (h:(net w n es P).h k=2*i+3) (d:(net w n es P).d k=w.l i) (c:(net w n es P).c k=P)
 |snk (i:Nat) (hi:i<n) (e:k=4*i+3) (t:(net w n es P).t k=2*i+3) (h:(net w n es P).h k=1) (d:(net w n es P).d k=0) (c:(net w n es P).c k=P)
 |nee (x y:Nat) (j:Nat) (hj:es[j]?=some (x,y)) (e:k=4*n+j) (t:(net w n es P).t k=2*x+3) (h:(net w n es P).h k=2*y+2) (d:(net w n es P).d k=0) (c:(net w n es P).c k=P)
theorem pipe{k:Nat}(hk:k<(net w n es P).m):Pipe w n es P k:=by
 have hk:k<4*n+es.length:=hk;by_cases h4:k<4*n
 ·have hi:k/4<n:=by lia
  have hm:k%4=0\/k%4=1\/k%4=2\/k%4=3:=by lia
  rcases hm with hm|hm|hm|hm
  ·exact .src (k/4) hi (by lia) (by simp[net,h4,hm]) (by simp[net,h4,hm]) (by simp[net,h4,hm]) (by simp[net,h4,hm])
  ·exact .usu (k/4) hi (by lia) (by simp[net,h4,hm]) (by simp[net,h4,hm]) (by simp[net,h4,hm]) (by simp[net,h4,hm])
  ·exact .lea (k/4) hi (by lia) (by simp[net,h4,hm]) (by simp[net,h4,hm]) (by simp[net,h4,hm]) (by simp[net,h4,hm])
  ·exact .snk (k/4) hi (by lia) (by simp[net,h4,hm]) (by simp[net,h4,hm]) (by simp[net,h4,hm]) (by simp[net,h4,hm])
 ·have hj:k - 4*n<es.length:=by lia
  have e:es[k - 4*n]?=some (es[k - 4*n]):=bA hj
  exact .nee es[k - 4*n].1 es[k - 4*n].2 (k - 4*n) e (by lia) (by simp[net,h4,e]) (by simp[net,h4,e]) (by simp[net,h4,e]) (by simp[net,h4,e])
theorem aBG(he:∀e∈es,e.1<n/\e.2<n):In (net w n es P) (2*n+2):=fun k hk=>by
 cases pipe hk with
 |src i hi e t h d c=>rw[t,h];lia
 |usu i hi e t h d c=>rw[t,h];lia
 |lea i hi e t h d c=>rw[t,h];lia
 |snk i hi e t h d c=>rw[t,h];lia
 |nee x y j hj e t h d c=>have:=he _ (bC hj);rw[t,h];lia
noncomputable def rk(n:Nat)(r:Nat->Int)(v:Nat):Int:=if v=0 then -1 else if v=1 then 2*n else if v%2=0 then 2*r (v/2 - 1)else 2*r (v/2 - 1)+1
theorem y6:rk n r (2*i+2)=2*r i:=by
 unfold rk;rw[if_neg (by lia),if_neg (by lia),if_pos (by lia),show(2*i+2)/2 - 1=i by lia]
theorem vQ:rk n r (2*i+3)=2*r i+1:=by
 unfold rk;rw[if_neg (by lia),if_neg (by lia),if_neg (by lia),show(2*i+3)/2 - 1=i by lia]
theorem aLu(hr:∀i,i<n->0<=r i/\r i<n)(he:∀e∈es,r e.1<r e.2):∀k,k<(net w n es P).m->rk n r ((net w n es P).t k)<rk n r ((net w n es P).h k):=fun k hk=>by
 cases pipe hk with
 |src i hi e t h d c=>rw[t,h,y6];have:=hr i hi;show(-1:Int)<_;lia
 |usu i hi e t h d c=>rw[t,h,y6,vQ];lia
 |lea i hi e t h d c=>rw[t,h,y6,vQ];lia
 |snk i hi e t h d c=>rw[t,h,vQ];have:=hr i hi;show _<(2*n:Int);lia
 |nee x y j hj e t h d c=>have:=he _ (bC hj);rw[t,h,y6,vQ];simp only at this;lia
theorem aKR(hf:Flo (net w n es P) f a)(hc:Cap (net w n es P) f)(hr:∀i,i<n->0<=r i/\r i<n)(he:∀e∈es,r e.1<r e.2)(hn:∀e∈es,e.1<n/\e.2<n){k:Nat}(hk:k<(net w n es P).m):f k<=a:=by
 have up:=aLu (w:=w) (P:=P) hr he;have hu:=up k hk
 refine aEe hf (fun k hk=>(hc k hk).1) (rk n r) up hk ?_ ?_
 ·cases pipe hk with
  |src i hi e t h d c=>rw[t]at hu;exact hu
  |usu i hi e t h d c=>rw[h,vQ];have:=hr i hi;show(-1:Int)<_;lia
  |lea i hi e t h d c=>rw[h,vQ];have:=hr i hi;show(-1:Int)<_;lia
  |snk i hi e t h d c=>rw[h];show(-1:Int)<2*n;lia
  |nee x y j hj e t h d c=>rw[h,y6];have:=hr y (hn _ (bC hj)).2;show(-1:Int)<_;lia
 ·show _<=(2*n:Int);cases pipe hk with
  |src i hi e t h d c=>rw[h,y6];have:=hr i hi;lia
  |usu i hi e t h d c=>rw[h,vQ];have:=hr i hi;lia
  |lea i hi e t h d c=>rw[h,vQ];have:=hr i hi;lia
  |snk i hi e t h d c=>rw[h];exact bR _
  |nee x y j hj e t h d c=>rw[h,y6];have:=hr y (hn _ (bC hj)).2;lia
noncomputable def isU(n:Nat)(k:Nat):Bool:=decide (k<4*n/\k%4=1)
theorem aBl{g:Nat->Int}{n:Nat}:sm (4*n) g=sm n fun i=>g (4*i)+g (4*i+1)+g (4*i+2)+g (4*i+3):=by
 induction n with
 |zero=>rfl
 |succ n ih=>
  show sm (4*n) g+g (4*n)+g (4*n+1)+g (4*n+2)+g (4*n+3)=sm n (fun i=>g (4*i)+g (4*i+1)+g (4*i+2)+g (4*i+3))+(g (4*n)+g (4*n+1)+g (4*n+2)+g (4*n+3));rw[ih]
  lia
theorem wF{g:Nat->Int}{n:Nat}:∀{j:Nat},sm (n+j) g=sm n g+sm j fun i=>g (n+i)
 |0=>by show sm n g=sm n g+0;lia
 |j+1=>by
  show sm (n+j) g+g (n+j)=sm n g+(sm j (fun i=>g (n+i))+g (n+j));rw[wF];lia
theorem aNf:(sm (net w n es P).m fun k=>if isU n k then(net w n es P).c k else 0)=sm n w.p:=by
 show sm (4*n+es.length) _=_;rw[wF,aBl];rw[l7 (n:=es.length) (fun i hi=>if_neg (by simp[isU];lia)),aPj]
 refine kJ fun i hi=>?_
 have h0:isU n (4*i)=false:=by simp[isU]
 have h1:isU n (4*i+1)=true:=by simp[isU];lia
 have h2:isU n (4*i+2)=false:=by simp[isU]
 have h3:isU n (4*i+3)=false:=by simp[isU]
 rw[h0,h1,h2,h3];simp only[b9,if_false,if_true];have:(net w n es P).c (4*i+1)=w.p i:=by
  show(if 4*i+1<4*n/\(4*i+1)%4=1 then w.p ((4*i+1)/4)else P)=_;rw[if_pos (by lia),show(4*i+1)/4=i by lia]
 rw[this];lia
end NF
namespace NF
variable {w:Wk}{n:Nat}{es:List (Nat×Nat)}{P E:Int}{f p q b h:Nat->Int}{a:Int}
noncomputable def pf(E:Int)(b h:Nat->Int)(v:Nat):Int:=if v=0 then 0 else if v=1 then E else if v%2=0 then b (v/2 - 1)else b (v/2 - 1)+h (v/2 - 1)
theorem aIV{i:Nat}:pf E b h (2*i+2)=b i:=by
 unfold pf;rw[if_neg (by lia),if_neg (by lia),if_pos (by lia),show(2*i+2)/2 - 1=i by lia]
theorem aHi{i:Nat}:pf E b h (2*i+3)=b i+h i:=by
 unfold pf;rw[if_neg (by lia),if_neg (by lia),if_neg (by lia),show(2*i+3)/2 - 1=i by lia]
theorem aOH:pf E b h 0=0:=rfl
theorem aOG:pf E b h 1=E:=rfl
structure Tim(n:Nat)(es:List (Nat×Nat))(E:Int)(b h:Nat->Int):Prop where
 b0:∀i,i<n->0<=b i
 e:∀i,i<n->b i+h i<=E
 ne:∀x∈es,b x.1+h x.1<=b x.2
theorem aEq(T:Tim n es E b h)(hl:∀i,i<n->w.l i<=h i):∀k,k<(net w n es P).m->isU n k=false->pf E b h ((net w n es P).t k)+(net w n es P).d k<=pf E b h ((net w n es P).h k):=fun k hk hu=>by
 cases pipe hk with
 |src i hi e t h' d c=>rw[t,h',d,aIV,aOH];have:=T.b0 i hi;lia
 |usu i hi e t h' d c=>
  have:isU n k=true:=by unfold isU;rw[decide_eq_true_iff];lia
  rw[this]at hu;cases hu
 |lea i hi e t h' d c=>rw[t,h',d,aIV,aHi];have:=hl i hi;lia
 |snk i hi e t h' d c=>rw[t,h',d,aHi,aOG];have:=T.e i hi;lia
 |nee x y j hj e t h' d c=>rw[t,h',d,aIV,aHi];have:=T.ne _ (bC hj);simp only at this;lia
theorem aDC(hf:Flo (net w n es P) f a)(hc:Cap (net w n es P) f)(hp:Pot (net w n es P) f p)(h0:p 0<=0)(T:Tim n es E b w.l)(h1:E<p 1):a<=sm n w.p:=by
 rw[<-aNf (w:=w) (n:=n) (es:=es) (P:=P)]
 exact cut hf hc hp (isU n) (aEq T fun i _=>bR _) h0 h1
theorem plenty(hf:Flo (net w n es P) f a)(hc:Cap (net w n es P) f){r:Nat->Int}(hr:∀i,i<n->0<=r i/\r i<n)(he:∀e∈es,r e.1<r e.2)(hn:∀e∈es,e.1<n/\e.2<n)(ha:a<P){k:Nat}(hk:k<(net w n es P).m)(hu:isU n k=false):f k<(net w n es P).c k:=by
 have:=aKR hf hc hr he hn hk;have hP:(net w n es P).c k=P:=by
  show(if k<4*n/\k%4=1 then _ else P)=P;rw[if_neg];intro z;rw[show isU n k=true from decide_eq_true z]at hu;cases hu
 lia
theorem aBc(hp:Pot (net w n es P) f p)(ho:∀k,k<(net w n es P).m->isU n k=false->f k<(net w n es P).c k)(h0:p 0=0)(hn:∀e∈es,e.1<n/\e.2<n):
 (∀i,i<n->0<=p (2*i+2))/\(∀i,i<n->p (2*i+2)+w.l i<=p (2*i+3))/\(∀i,i<n->p (2*i+3)<=p 1)/\∀e∈es,p (2*e.1+3)<=p (2*e.2+2):=by
 have key:∀k,k<(net w n es P).m->isU n k=false->p ((net w n es P).t k)+(net w n es P).d k<=p ((net w n es P).h k):=fun k hk hu=>(hp k hk).1 (ho k hk hu)
 have hm:(net w n es P).m=4*n+es.length:=rfl
 refine⟨fun i hi=>?_,fun i hi=>?_,fun i hi=>?_,fun e he=>?_⟩
 ·have hk:4*i<(net w n es P).m:=by rw[hm];lia
  have:=key (4*i) hk (by simp[isU]);cases pipe hk with
  |src j hj e t h' d c=>obtain rfl:j=i:=by lia
                        rw[t,h',d,h0]at this;lia
  |usu j hj e=>lia
  |lea j hj e=>lia
  |snk j hj e=>lia
  |nee x y j hj e=>lia
 ·have hk:4*i+2<(net w n es P).m:=by rw[hm];lia
  have:=key (4*i+2) hk (by simp[isU]);cases pipe hk with
  |src j hj e=>lia
  |usu j hj e=>lia
  |lea j hj e t h' d c=>obtain rfl:j=i:=by lia
                        rw[t,h',d]at this;exact this
  |snk j hj e=>lia
  |nee x y j hj e=>lia
 ·have hk:4*i+3<(net w n es P).m:=by rw[hm];lia
  have:=key (4*i+3) hk (by simp[isU]);cases pipe hk with
  |src j hj e=>lia
  |usu j hj e=>lia
  |lea j hj e=>lia
  |snk j hj e t h' d c=>obtain rfl:j=i:=by lia
                        rw[t,h',d]at this;lia
  |nee x y j hj e=>lia
 ·obtain⟨j,hj⟩:=bQ.mp he;have bf:=(aQ.mp hj).1;have hk:4*n+j<(net w n es P).m:=by rw[hm];lia
  have:=key (4*n+j) hk (by unfold isU;rw[decide_eq_false_iff_not];lia);cases pipe hk with
  |src i hi e=>lia
  |usu i hi e=>lia
  |lea i hi e=>lia
  |snk i hi e=>lia
  |nee x y j' kn e' t h' d c=>
   obtain rfl:j'=j:=by lia
   rw[hj]at kn;cases kn;rw[t,h',d]at this;dsimp only;lia
theorem aIy{x:Int}(h:x<=0):pos x=0:=by unfold pos;rw[if_neg (by lia)]
theorem aMG(hq:∀k,k<(net w n es P).m->isU n k=false->p ((net w n es P).t k)+(net w n es P).d k<=p ((net w n es P).h k)):cost (net w n es P) p=sm n fun i=>w.p i*pos (w.u i - (p (2*i+3) - p (2*i+2))):=by
 have z:∀k,k<(net w n es P).m->isU n k=false->(net w n es P).c k*pos ((net w n es P).d k - (p ((net w n es P).h k) - p ((net w n es P).t k)))=0:=fun k hk hu=>by
  have:=hq k hk hu;rw[aIy (by lia),aO6]
 have hm:(net w n es P).m=4*n+es.length:=rfl;unfold cost;show sm (4*n+es.length) _=_;rw[wF,aBl,l7 (n:=es.length) (fun i hi=>z _ (by rw[hm];lia) (by unfold isU;rw[decide_eq_false_iff_not];lia)),aPj]
 refine kJ fun i hi=>?_
 rw[z (4*i) (by rw[hm];lia) (by simp[isU]),z (4*i+2) (by rw[hm];lia) (by simp[isU]),z (4*i+3) (by rw[hm];lia) (by simp[isU])];have hk:4*i+1<(net w n es P).m:=by rw[hm];lia
 cases pipe hk with
 |src j hj e=>lia
 |usu j hj e t h' d c=>obtain rfl:j=i:=by lia
                       rw[t,h',d,c];lia
 |lea j hj e=>lia
 |snk j hj e=>lia
 |nee x y j hj e=>lia
end NF
namespace NF
variable {w:Wk}{n:Nat}{es:List (Nat×Nat)}{P E:Int}{f p q b h:Nat->Int}{a x:Int}
structure Good(w:Wk)(n:Nat)(es:List (Nat×Nat))(P:Int)(f:Nat->Int)(a:Int)(p:Nat->Int):Prop where
 flo:Flo (net w n es P) f a
 cap:Cap (net w n es P) f
 pot:Pot (net w n es P) f p
 p0:p 0=0
 ge:∀v,v<2*n+2->0<=p v
theorem Good.pour{r:List (Nat×Bool)}(G:Good w n es P f a p)(wk:Walk (net w n es P) r 0 1)(nd:(r.map (·.1)).Nodup)(tg:Tight (net w n es P) p r)(hx:0<=x)(hr:∀o∈r,x<=rr (net w n es P) f o):Good w n es P (pr r x f) (a+x) p:=
 ⟨G.flo.pour wk,G.cap.pour nd hx hr,G.pot.pour nd tg,G.p0,G.ge⟩
theorem Good.least(G:Good w n es P f a p)(L:Least (net w n es P) (2*n+2) f (fun _=>0) q):Good w n es P f a q/\∀v,v<2*n+2->q v<=p v:=by
 have h:=L.le p (fun v hv=>G.ge v hv) G.pot
 refine⟨⟨G.flo,G.cap,L.pot,?_,L.ge⟩,h⟩
 have h1:=h 0 (by lia);have h2:=L.ge 0 (by lia);rw[G.p0]at h1;try dsimp only at h2
 lia
theorem Good.bound(G:Good w n es P f a p)(T:Tim n es E b w.l)(h1:E<p 1):a<=sm n w.p:=aDC G.flo G.cap G.pot (by rw[G.p0];exact bR _) T h1
theorem Good.route(G:Good w n es P f a p)(L:Least (net w n es P) (2*n+2) f (fun _=>0) p)(ho:∀k,k<(net w n es P).m->isU n k=false->f k<(net w n es P).c k)(hn:∀e∈es,e.1<n/\e.2<n)(hl:∀i,i<n->0<=w.l i)(h0:0<n)
 (R:Nat->Prop)(r0:R 0)(hc:∀o,Open (net w n es P) f o->R (rt (net w n es P) o)->p (rt (net w n es P) o)+rd (net w n es P) o=p (rh (net w n es P) o)->R (rh (net w n es P) o)):R 1:=by
 obtain⟨q1,q2,q3,q4⟩:=aBc G.pot ho G.p0 hn;have hm:(net w n es P).m=4*n+es.length:=rfl;have fw:∀k,k<(net w n es P).m->isU n k=false->R ((net w n es P).t k)->p ((net w n es P).t k)+(net w n es P).d k=p ((net w n es P).h k)->R ((net w n es P).h k):=fun k hk hu hr ht=>by
  have:=hc (k,true) ⟨hk,by unfold rr;simp only[if_true];have:=ho k hk hu;lia⟩;simp only[rt,rh,rd,if_true]at this
  exact this hr ht
 have hb:∀i,i<n->p (2*i+2)=0->R (2*i+2):=fun i hi hz=>by
  have hk:4*i<(net w n es P).m:=by rw[hm];lia
  have:=fw (4*i) hk (by simp[isU]);cases pipe hk with
  |src j hj e t h' d c=>
   obtain rfl:j=i:=by lia
   rw[t,h',d,G.p0,hz]at this
   exact this r0 rfl
  |usu j hj e=>lia
  |lea j hj e=>lia
  |snk j hj e=>lia
  |nee x y j hj e=>lia
 have hd:∀i,i<n->p (2*i+3)=0->R (2*i+3):=fun i hi hz=>by
  have g1:=q1 i hi;have g2:=q2 i hi;have g3:=hl i hi;have hk:4*i+2<(net w n es P).m:=by rw[hm];lia
  have:=fw (4*i+2) hk (by simp[isU]);cases pipe hk with
  |src j hj e=>lia
  |usu j hj e=>lia
  |lea j hj e t h' d c=>
   obtain rfl:j=i:=by lia
   rw[t,h',d]at this
   exact this (hb j hi (by lia)) (by lia)
  |snk j hj e=>lia
  |nee x y j hj e=>lia
 refine reach L (aBG hn) (by lia) R (fun v hv hz=>?_) hc
 try dsimp only at hz
 by_cases v0:v=0
 ·rw[v0];exact r0
 ·by_cases v1:v=1
  ·subst v1;have g1:=q1 0 h0;have g2:=q2 0 h0;have g3:=q3 0 h0;have g4:=hl 0 h0;have hk:3<(net w n es P).m:=by rw[hm];lia
   have:=fw 3 hk (by simp[isU]);cases pipe hk with
   |src j hj e=>lia
   |usu j hj e=>lia
   |lea j hj e=>lia
   |snk j hj e t h' d c=>
    obtain rfl:j=0:=by lia
    rw[t,h',d]at this
    exact this (hd 0 h0 (by lia)) (by lia)
   |nee x y j hj e=>lia
  ·by_cases ve:v%2=0
   ·obtain⟨i,rfl⟩:∃i,v=2*i+2:=⟨v/2 - 1,by lia⟩
    exact hb i (by lia) hz
   ·obtain⟨i,rfl⟩:∃i,v=2*i+3:=⟨v/2 - 1,by lia⟩
    exact hd i (by lia) hz
theorem Good.price(G:Good w n es P f a p)(ho:∀k,k<(net w n es P).m->isU n k=false->f k<(net w n es P).c k):len (net w n es P) f - a*p 1=sm n fun i=>w.p i*pos (w.u i - (p (2*i+3) - p (2*i+2))):=by
 have:=strong G.flo G.cap G.pot;rw[G.p0,eG]at this;rw[this]
 exact aMG fun k hk hu=>(G.pot k hk).1 (ho k hk hu)
end NF
namespace NF
variable{e:(Nat×Nat)×Int}{L:Fl}
noncomputable abbrev Fl:=List ((Nat×Nat)×Int)
noncomputable def sl(L:Fl)(g:Nat×Nat->Int):Int:=(L.map fun e=>e.2*g e.1).sum
theorem aLL{g:Nat×Nat->Int}:sl [] g=0:=rfl
theorem mV{g:Nat×Nat->Int}:sl (e::L) g=e.2*g e.1+sl L g:=by unfold sl;rw[aM,eO]
def Con(L:Fl)(a:Int):Prop:=∀p:Nat->Int,sl L (fun s=>p s.2 - p s.1)=a*(p 1 - p 0)
theorem aH8{g:Nat×Nat->Int}:∀{L:Fl},(∀e∈L,0<=e.2*g e.1)->0<=sl L g
 | [],_=>bR _
 |e::L,h=>by
  rw[mV];have:=h e bJ;have:=aH8 fun e he=>h e (aZ _ he)
  lia
theorem aDB{g:Nat×Nat->Int}:∀{L:Fl},(∀e∈L,0<=e.2*g e.1)->∀e∈L,e.2*g e.1<=sl L g
 | [],_,_,he=>by cases he
 |e::L,h,e',he=>by
  rw[mV];have h0:=aH8 fun e he=>h e (aZ _ he)
  rcases bE.mp he with rfl|he
  ·lia
  ·have:=aDB (fun e he=>h e (aZ _ he)) e' he;have:=h e bJ
   lia
theorem aJ4{a:Int}(hc:Con L a)(h0:∀e∈L,0<=e.2){v:Nat}(hv0:v≠0)(lm:v≠1)(he:e∈L)(hv:e.1.2=v)(hp:0<e.2):∃e'∈L,e'.1.1=v/\0<e'.2:=by
 have hh:¬∀e'∈L,e'.1.1=v->¬0<e'.2:=fun no=>by
  have k:=hc fun u=>if u=v then 1 else 0
  rw[if_neg (Ne.symm lm),if_neg (Ne.symm hv0)]at k;have nn:∀e'∈L,0<=e'.2*((if e'.1.2=v then(1:Int)else 0) - if e'.1.1=v then 1 else 0):=fun e' ir=>by
   have z:=h0 e' ir;by_cases ht:e'.1.1=v
   ·have:e'.2=0:=by have:=no e' ir ht;lia
    rw[this,dR];exact bR _
   ·rw[if_neg ht,eG];split
    ·lia
    ·lia
  have:=aDB (g:=fun s=>(if s.2=v then(1:Int)else 0) - if s.1=v then 1 else 0) nn e he;rw[if_pos hv]at this;by_cases ht:e.1.1=v
  ·exact no e he ht hp
  ·rw[if_neg ht]at this;simp only[aQz,aO6]at k;have k':sl L (fun s=>(if s.2=v then(1:Int)else 0) - if s.1=v then 1 else 0)=0:=k
   lia
 apply c7;intro h
 exact hh fun e' ir ht hp'=>h ⟨e',ir,ht,hp'⟩
theorem aKN{a:Int}(hc:Con L a)(h0:∀e∈L,0<=e.2)(hz:∀e∈L,e.1.2≠0)(ha:0<a):∃e∈L,e.1.1=0/\0<e.2:=by
 apply c7;intro h;have k:=hc fun u=>if u=0 then 1 else 0
 rw[if_neg (by lia),if_pos rfl]at k;have k':sl L (fun s=>(if s.2=0 then(1:Int)else 0) - if s.1=0 then 1 else 0)=a*(0 - 1):=k;have:0<=sl L (fun s=>(if s.2=0 then(1:Int)else 0) - if s.1=0 then 1 else 0):=aH8 fun e he=>by
  rw[if_neg (hz e he)];by_cases ht:e.1.1=0
  ·have z:=h0 e he;have:¬0<e.2:=fun hp=>h ⟨e,he,ht,hp⟩
   have:e.2=0:=by lia
   rw[this,dR];exact bR _
  ·rw[if_neg ht];simp
 lia
noncomputable def tk(x:Int)(s:Nat×Nat)(L:Fl):Fl:=L.map fun e=>if e.1=s then(e.1,e.2 - x)else e
theorem aLr{x:Int}{s:Nat×Nat}{g:Nat×Nat->Int}:∀{L:Fl},(L.map (·.1)).Nodup->s∈L.map (·.1)->sl (tk x s L) g=sl L g - x*g s
 | [],_,h=>by cases h
 |e::L,hn,h=>by
  rw[aM,bV]at hn;unfold tk;rw[aM,mV,mV];by_cases hs:e.1=s
  ·rw[if_pos hs];have hk:(L.map fun e=>if e.1=s then(e.1,e.2 - x)else e)=L:=by
    conv=>rhs;rw[<-List.map_id L]
    refine cL fun e' ir=>?_
    rw[if_neg fun z=>hn.1 (by rw[hs,<-z];exact cR ir)];rfl
   rw[hk];subst hs;dsimp only;rw[aPf];lia
  ·rw[if_neg hs];have hm:s∈L.map (·.1):=by
    rcases bE.mp h with z|z
    ·exact absurd z.symm hs
    ·exact z
   have:=aLr (x:=x) (g:=g) hn.2 hm;unfold tk at this;rw[this];lia
theorem v8{x:Int}{s:Nat×Nat}:(tk x s L).map (·.1)=L.map (·.1):=by
 unfold tk;rw[cC]
 refine cL fun e _=>?_
 show(if e.1=s then(e.1,e.2 - x)else e).1=e.1;split<;>rfl
end NF
namespace NF
variable {L:Fl}{a x:Int}
def SW:List (Nat×Nat)->Nat->Nat->Prop
 | [],u,v=>u=v
 |s::r,u,v=>s.1=u/\SW r s.2 v
def tks(x:Int):List (Nat×Nat)->Fl->Fl
 | [],L=>L
 |s::r,L=>tks x r (tk x s L)
theorem oG:∀{r:List (Nat×Nat)}{L:Fl},(tks x r L).map (·.1)=L.map (·.1)
 | [],_=>rfl
 |s::r,L=>by unfold tks;rw[oG,v8]
theorem aHd{p:Nat->Int}:∀{r:List (Nat×Nat)}{L:Fl}{u v:Nat},(L.map (·.1)).Nodup->(∀s∈r,s∈L.map (·.1))->SW r u v->sl (tks x r L) (fun s=>p s.2 - p s.1)=sl L (fun s=>p s.2 - p s.1) - x*(p v - p u)
 | [],L,u,v,_,_,h=>by cases h;unfold tks;rw[aQz,aO6,eG]
 |s::r,L,u,v,hn,hm,⟨h1,h2⟩=>by
  unfold tks;rw[aHd (by rw[v8];exact hn) (fun s' hs=>by rw[v8];exact hm s' (aZ _ hs)) h2,aLr hn (hm s bJ)];subst h1;rw[cJ,cJ,cJ];lia
theorem Con.take{r:List (Nat×Nat)}(hc:Con L a)(hn:(L.map (·.1)).Nodup)(hm:∀s∈r,s∈L.map (·.1))(w:SW r 0 1):Con (tks x r L) (a - x):=fun p=>by
 rw[aHd hn hm w,hc p,aPf]
noncomputable def at_(L:Fl)(s:Nat×Nat):Int:=(L.lookup s).getD 0
theorem aLC{s s':Nat×Nat}:∀{L:Fl},at_ (tk x s L) s'=if s'=s/\s∈L.map (·.1)then at_ L s' - x else at_ L s'
 | []=>by unfold tk at_;simp
 |e::L=>by
  have ih:=aLC (s:=s) (s':=s') (L:=L);unfold tk at_ at ih|-;rw[aM];by_cases h1:s'=e.1
  ·subst h1;have hl:dL e.1 (e::L)=some e.2:=by rw[b4,beq_self_eq_true]
   by_cases h2:e.1=s
   ·subst h2;rw[if_pos rfl,if_pos ⟨rfl,by simp⟩,hl,b4,beq_self_eq_true];rfl
   ·have:¬(e.1=s/\s∈(e::L).map (·.1)):=fun z=>h2 z.1
    rw[if_neg h2,if_neg this,hl,b4,beq_self_eq_true]
  ·have hb:(s'==e.1)=false:=beq_eq_false_iff_ne.mpr h1;have hl:dL s' ((if e.1=s then(e.1,e.2 - x)else e)::L.map fun e=>if e.1=s then(e.1,e.2 - x)else e)=dL s' (L.map fun e=>if e.1=s then(e.1,e.2 - x)else e):=by
    rw[b4];split
    ·rename_i z;exfalso;by_cases h2:e.1=s
     ·rw[if_pos h2]at z;rw[hb]at z;cases z
     ·rw[if_neg h2]at z;rw[hb]at z;cases z
    ·rfl
   rw[hl,ih];rw[show dL s' (e::L)=dL s' L from by rw[b4,hb]];by_cases h3:s'=s
   ·subst h3;simp only[true_and,aM,bE,h1,false_or]
   ·simp only[h3,false_and]
theorem aGw{s':Nat×Nat}:∀{r:List (Nat×Nat)}{L:Fl},(∀s∈r,s∈L.map (·.1))->at_ (tks x r L) s'=at_ L s' - x*(r.count s':Int)
 | [],L,_=>by unfold tks;simp
 |s::r,L,hm=>by
  unfold tks;rw[aGw (fun s' hs=>by rw[v8];exact hm s' (aZ _ hs)),aLC,eN];by_cases h:s'=s
  ·subst h;rw[if_pos ⟨rfl,hm s' bJ⟩];simp only[beq_self_eq_true,if_true,Int.natCast_add,aQe]
   lia
  ·rw[if_neg (fun z=>h z.1),if_neg (by simpa using Ne.symm h)];simp
theorem aJu(hc:Con L a)(h0:∀e∈L,0<=e.2)(ρ:Nat->Int)(hr:∀e∈L,ρ e.1.1<ρ e.1.2){e:(Nat×Nat)×Int}(he:e∈L)(h1:ρ 0<ρ e.1.2)(h2:ρ e.1.2<=ρ 1):e.2<=a:=by
 have k:=hc fun v=>if ρ e.1.2<=ρ v then 1 else 0
 rw[if_pos h2,if_neg (aQH.mpr h1)]at k;have k':sl L (fun s=>(if ρ e.1.2<=ρ s.2 then(1:Int)else 0) - if ρ e.1.2<=ρ s.1 then 1 else 0)=a*(1 - 0):=k;have:=aDB (L:=L) (g:=fun s=>(if ρ e.1.2<=ρ s.2 then(1:Int)else 0) - if ρ e.1.2<=ρ s.1 then 1 else 0) (fun e' ir=>by
  refine dN (h0 e' ir) ?_
  have:=hr e' ir;split<;>split<;>lia) e he
 have hl:=hr e he;rw[if_pos (bR _),if_neg (by lia)]at this
 lia
end NF
namespace NF
variable {N:Nt}{f:Nat->Int}{a v:Int}{s:Nat×Nat}{g:Nat×Nat->Int}
noncomputable def ad(s:Nat×Nat)(v:Int):Fl->Fl
 | []=>[(s,v)]
 |e::L=>if e.1=s then(e.1,e.2+v)::L else e::ad s v L
theorem aLv:∀{L:Fl},sl (ad s v L) g=sl L g+v*g s
 | []=>by unfold ad;rw[mV,aLL];dsimp only;lia
 |e::L=>by
  unfold ad;split
  ·rename_i h;rw[mV,mV];subst h;dsimp only;rw[aOR];lia
  ·rw[mV,mV,aLv];lia
theorem aDK{s':Nat×Nat}:∀{L:Fl},s'∈(ad s v L).map (·.1)↔s'=s\/s'∈L.map (·.1)
 | []=>by unfold ad;simp
 |e::L=>by
  unfold ad;split
  ·rename_i h;subst h;simp only[aM,bE];constructor
   ·exact .inr
   ·rintro(h|h)
    ·exact .inl h
    ·exact h
  ·simp only[aM,bE];rw[aDK];constructor
   ·rintro(h|h|h)
    ·exact .inr (.inl h)
    ·exact .inl h
    ·exact .inr (.inr h)
   ·rintro(h|h|h)
    ·exact .inr (.inl h)
    ·exact .inl h
    ·exact .inr (.inr h)
theorem aBZ:∀{L:Fl},(L.map (·.1)).Nodup->((ad s v L).map (·.1)).Nodup
 | [],_=>by unfold ad;simp
 |e::L,h=>by
  unfold ad;rw[aM,bV]at h;split
  ·rw[aM,bV];exact h
  ·rename_i hs;rw[aM,bV]
   refine⟨fun z=>?_,aBZ h.2⟩
   rcases aDK.mp z with z|z
   ·exact hs z
   ·exact h.1 z
theorem aAR(hv:0<=v):∀{L:Fl},(∀e∈L,0<=e.2)->∀e∈ad s v L,0<=e.2
 | [],_,e,he=>by
   unfold ad at he;rw[bS.mp he];exact hv
 |e'::L,h,e,he=>by
  unfold ad at he;split at he
  ·rcases bE.mp he with rfl|he
   ·have:=h e' bJ;dsimp only;lia
   ·exact h e (aZ _ he)
  ·rcases bE.mp he with rfl|he
   ·exact h e bJ
   ·exact aAR hv (fun e he=>h e (aZ _ he)) e he
theorem aLp{s':Nat×Nat}:∀{L:Fl},at_ (ad s v L) s'=at_ L s'+if s'=s then v else 0
 | []=>by
   unfold ad at_;by_cases h:s'=s
   ·rw[b4,beq_iff_eq.mpr h,if_pos h];simp
   ·rw[b4,beq_eq_false_iff_ne.mpr h,if_neg h];simp
 |e::L=>by
  have ih:=aLp (s':=s') (L:=L);unfold ad;by_cases h1:s'=e.1
  ·subst h1;have l1:∀M:Fl,at_ (e::M) e.1=e.2:=fun M=>by unfold at_;rw[b4,beq_self_eq_true];rfl
   by_cases h2:e.1=s
   ·rw[if_pos h2,if_pos h2,l1];unfold at_;rw[b4,beq_self_eq_true];rfl
   ·rw[if_neg h2,if_neg h2,l1,l1];lia
  ·have l1:∀(y:Int)(M:Fl),at_ ((e.1,y)::M) s'=at_ M s':=fun y M=>by unfold at_;rw[b4,beq_eq_false_iff_ne.mpr h1]
   have l2:∀M:Fl,at_ (e::M) s'=at_ M s':=fun M=>l1 e.2 M
   by_cases h2:e.1=s
   ·rw[if_pos h2,l1,l2,if_neg (fun z=>h1 (z.trans h2.symm))];lia
   ·rw[if_neg h2,l2,l2,ih]
def stp(N:Nt)(f:Nat->Int):Nat->Fl
 |0=>[]
 |k+1=>ad (N.t k,N.h k) (f k) (stp N f k)
theorem aH4:∀{k:Nat},sl (stp N f k) g=sm k fun j=>f j*g (N.t j,N.h j)
 |0=>rfl
 |k+1=>by
  show sl (ad _ _ _) g=sm k _+_;rw[aLv,aH4]
theorem aMV(hf:Flo N f a):Con (stp N f N.m) a:=fun p=>by rw[aH4];exact hf p
theorem uT:∀{k:Nat},((stp N f k).map (·.1)).Nodup
 |0=>List.Pairwise.nil
 |k+1=>aBZ uT
theorem wY(h:∀k,k<N.m->0<=f k):∀{k:Nat},k<=N.m->∀e∈stp N f k,0<=e.2
 |0,_,e,he=>by cases he
 |k+1,hk,e,he=>aAR (h k (by lia)) (wY h (by lia)) e he
theorem aIh{s:Nat×Nat}:∀{k:Nat},at_ (stp N f k) s=sm k fun j=>if s=(N.t j,N.h j)then f j else 0
 |0=>rfl
 |k+1=>by
  show at_ (ad _ _ _) s=sm k _+_;rw[aLp,aIh]
theorem xX{s:Nat×Nat}:∀{k:Nat},s∈(stp N f k).map (·.1)->∃j,j<k/\s=(N.t j,N.h j)
 |0,h=>by cases h
 |k+1,h=>by
  rcases aDK.mp h with h|h
  ·exact⟨k,by lia,h⟩
  ·obtain⟨j,hj,e⟩:=xX h
   exact⟨j,by lia,e⟩
end NF
namespace NF
variable {w:Wk}{n:Nat}{es:List (Nat×Nat)}{P:Int}{f p:Nat->Int}{a:Int}
theorem aN4:len (net w n es P) f=sm n fun i=>f (4*i+1)*w.u i+f (4*i+2)*w.l i:=by
 have hm:(net w n es P).m=4*n+es.length:=rfl;unfold len;show sm (4*n+es.length) _=_;rw[wF,aBl,l7 (n:=es.length) (fun j hj=>?_),aPj]
 ·refine kJ fun i hi=>?_
  have e0:(net w n es P).d (4*i)=0:=by
   cases pipe (w:=w) (es:=es) (P:=P) (show 4*i<(net w n es P).m by rw[hm];lia)with
   |src j hj e t h d c=>exact d
   |usu j hj e=>lia
   |lea j hj e=>lia
   |snk j hj e=>lia
   |nee x y j hj e=>lia
  have e1:(net w n es P).d (4*i+1)=w.u i:=by
   cases pipe (w:=w) (es:=es) (P:=P) (show 4*i+1<(net w n es P).m by rw[hm];lia)with
   |src j hj e=>lia
   |usu j hj e t h d c=>obtain rfl:j=i:=by lia
                        exact d
   |lea j hj e=>lia
   |snk j hj e=>lia
   |nee x y j hj e=>lia
  have e2:(net w n es P).d (4*i+2)=w.l i:=by
   cases pipe (w:=w) (es:=es) (P:=P) (show 4*i+2<(net w n es P).m by rw[hm];lia)with
   |src j hj e=>lia
   |usu j hj e=>lia
   |lea j hj e t h d c=>obtain rfl:j=i:=by lia
                        exact d
   |snk j hj e=>lia
   |nee x y j hj e=>lia
  have e3:(net w n es P).d (4*i+3)=0:=by
   cases pipe (w:=w) (es:=es) (P:=P) (show 4*i+3<(net w n es P).m by rw[hm];lia)with
   |src j hj e=>lia
   |usu j hj e=>lia
   |lea j hj e=>lia
   |snk j hj e t h d c=>exact d
   |nee x y j hj e=>lia
  rw[e0,e1,e2,e3];lia
 ·have:(net w n es P).d (4*n+j)=0:=by
   cases pipe (w:=w) (es:=es) (P:=P) (show 4*n+j<(net w n es P).m by rw[hm];lia)with
   |src i hi e=>lia
   |usu i hi e=>lia
   |lea i hi e=>lia
   |snk i hi e=>lia
   |nee x y i hi e t h d c=>exact d
  rw[this,aO6]
theorem aJp{f1 f2 u l pr:Int}(h1:0<=f1)(h2:f1<=pr)(h3:0<=f2)(h:0<f2->f1=pr\/u=l):f1*u+f2*l=if f1+f2<=pr then(f1+f2)*u else pr*u+(f1+f2 - pr)*l:=by
 by_cases z:f2=0
 ·subst z;rw[aPj,if_pos h2,dR,aPj]
 ·rcases h (by lia)with e|e
  ·subst e;rw[if_neg (by lia),show f1+f2 - f1=f2 by lia]
  ·subst e;split
   ·rw[aOR]
   ·rw[<-aOR,<-aOR];congr 1;lia
theorem aA1(hc:Cap (net w n es P) f)(hp:Pot (net w n es P) f p)(gr:∀i,i<n->w.l i<=w.u i){i:Nat}(hi:i<n):0<f (4*i+2)->f (4*i+1)=w.p i\/w.u i=w.l i:=fun h2=>by
 have hm:(net w n es P).m=4*n+es.length:=rfl;have k1:4*i+1<(net w n es P).m:=by rw[hm];lia
 have k2:4*i+2<(net w n es P).m:=by rw[hm];lia
 have a1:=hp _ k1;have a2:=(hp _ k2).2 h2;have b1:=(hc _ k1).2;have hl:=gr i hi;cases pipe k2 with
 |src j hj e=>lia
 |usu j hj e=>lia
 |lea j hj e t h d c=>
  obtain rfl:j=i:=by lia
  rw[t,h,d]at a2;cases pipe k1 with
  |src j' kn e'=>lia
  |usu j' kn e' t' h' d' c'=>
   obtain rfl:j'=j:=by lia
   rw[t',h',d',c']at a1;rw[c']at b1;by_cases z:f (4*j'+1)<w.p j'
   ·have:=a1.1 z
    exact .inr (by lia)
   ·exact .inl (by lia)
  |lea j' kn e'=>lia
  |snk j' kn e'=>lia
  |nee x y j' kn e'=>lia
 |snk j hj e=>lia
 |nee x y j hj e=>lia
noncomputable def thr(f:Nat->Int)(i:Nat):Int:=f (4*i+1)+f (4*i+2)
theorem aGW(G:Good w n es P f a p)(gr:∀i,i<n->w.l i<=w.u i):len (net w n es P) f=sm n fun i=>if thr f i<=w.p i then thr f i*w.u i else w.p i*w.u i+(thr f i - w.p i)*w.l i:=by
 have hm:(net w n es P).m=4*n+es.length:=rfl;rw[aN4]
 refine kJ fun i hi=>?_
 have k1:4*i+1<(net w n es P).m:=by rw[hm];lia
 have k2:4*i+2<(net w n es P).m:=by rw[hm];lia
 have c1:=G.cap _ k1;have c2:=G.cap _ k2;have hP:(net w n es P).c (4*i+1)=w.p i:=by
  show(if 4*i+1<4*n/\(4*i+1)%4=1 then w.p ((4*i+1)/4)else P)=_;rw[if_pos (by lia),show(4*i+1)/4=i by lia]
 rw[hP]at c1
 exact aJp c1.1 c1.2 c2.1 (aA1 G.cap G.pot gr hi)
end NF
namespace NF
variable {w:Wk}{n:Nat}{es:List (Nat×Nat)}{P P':Int}{f f' p q m:Nat->Int}{a a' e:Int}
theorem rG(G:Good w n es P f a p)(G':Good w n es P f' a' q)(h1:p 1=e)(h2:q 1=e):len (net w n es P) f - a*e=len (net w n es P) f' - a'*e:=by
 have s1:=strong G.flo G.cap G.pot;have s2:=strong G'.flo G'.cap G'.pot;have w1:=weak G.flo G.cap q;have w2:=weak G'.flo G'.cap p;rw[G.p0,h1,eG]at s1 w2;rw[G'.p0,h2,eG]at s2 w1
 lia
theorem Good.amid(G:Good w n es P f a m)(G':Good w n es P f a q)(h1:m 1<=e)(h2:e<=q 1):∃p,Good w n es P f a p/\p 1=e:=by
 refine⟨fun v=>if m v<q v - (q 1 - e)then q v - (q 1 - e)else m v,⟨G.flo,G.cap,aKx G.pot G'.pot _,?_,fun v hv=>?_⟩,?_⟩
 ·show(if m 0<q 0 - (q 1 - e)then q 0 - (q 1 - e)else m 0)=0;rw[G.p0,G'.p0,if_neg (by lia)]
 ·have:=G.ge v hv;show 0<=if m v<q v - (q 1 - e)then q v - (q 1 - e)else m v
  split<;>lia
 ·show(if m 1<q 1 - (q 1 - e)then q 1 - (q 1 - e)else m 1)=e;split<;>lia
end NF
namespace NF
variable {N:Nt}{n:Nat}{f st x p:Nat->Int}
variable{o:Nat×Bool}{r:List (Nat×Bool)}
structure Ris(N:Nt)(n:Nat)(f st x:Nat->Int):Prop where
 ge:∀v,v<n->st v<=x v
 le:∀q,(∀v,v<n->st v<=q v)->Pot N f q->∀v,v<n->x v<=q v
theorem Ris.start:Ris N n f st st:=⟨fun _ _=>bR _,fun q h _=>h⟩
theorem Ris.raise(R:Ris N n f st x)(ho:Open N f o)(hi:rt N o<n)(hr:x (rh N o)<x (rt N o)+rd N o):Ris N n f st (up x (rh N o) (x (rt N o)+rd N o)):=by
 refine⟨fun v hv=>?_,fun q hq hp=>aGY hp ho (R.le q hq hp) hi⟩
 have:=R.ge v hv;unfold up;split
 ·rename_i z;subst z;lia
 ·exact this
theorem Ris.done(R:Ris N n f st x)(h:∀o,Open N f o->x (rt N o)+rd N o<=x (rh N o)):Least N n f st x:=⟨R.ge,mW.mpr h,R.le⟩
theorem aHY{n:Nat}{x:Nat->Int}{k:Nat}{v:Int}(hk:k<n):sm n (up x k v)=sm n x+(v - x k):=by
 have:=aLK (f:=x) (g:=fun _=>1) (v:=v) hk;simpa using this
theorem Ris.sum_le(R:Ris N n f st x){q:Nat->Int}(hq:∀v,v<n->st v<=q v)(hp:Pot N f q):sm n x<=sm n q:=y7 fun v hv=>R.le q hq hp v hv
theorem z7(hh:rh N o<n)(hr:x (rh N o)<x (rt N o)+rd N o):sm n x<sm n (up x (rh N o) (x (rt N o)+rd N o)):=by
 rw[aHY hh];lia
structure Rte(N:Nt)(f p:Nat->Int)(r:List (Nat×Bool))(v:Nat):Prop where
 wk:Walk N r 0 v
 tg:Tight N p r
 op:∀o∈r,Open N f o
 nd:(0::r.map (rh N)).Nodup
theorem Walk.snoc:∀{r:List (Nat×Bool)}{u v:Nat}{o:Nat×Bool},Walk N r u v->o.1<N.m->rt N o=v->Walk N (r++[o]) u (rh N o)
 | [],u,v,o,h,h1,h2=>by cases h;exact⟨h1,h2,rfl⟩
 |e::r,u,v,o,⟨a,b,c⟩,h1,h2=>⟨a,b,Walk.snoc c h1 h2⟩
theorem Rte.nil:Rte N f p [] 0:=⟨rfl,(fun e h=>by cases h),(fun e h=>by cases h),by simp⟩
theorem Rte.snoc{v:Nat}(R:Rte N f p r v)(ho:Open N f o)(ht:rt N o=v)(tg:p (rt N o)+rd N o=p (rh N o))(hn:rh N o∉0::r.map (rh N)):Rte N f p (r++[o]) (rh N o):=by
 refine⟨R.wk.snoc ho.1 ht,fun e he=>?_,fun e he=>?_,?_⟩
 ·rcases bM.mp he with he|he
  ·exact R.tg e he
  ·rw[bS.mp he];exact tg
 ·rcases bM.mp he with he|he
  ·exact R.op e he
  ·rw[bS.mp he];exact ho
 ·rw[bP,<-aV]
  refine dO.mpr ⟨R.nd,by simp,fun a ha b hb=>?_⟩
  simp only[aM,bB,bS]at hb;rintro rfl;subst hb
  exact hn ha
theorem yF:∀{r:List (Nat×Bool)}{u v:Nat},Walk N r u v->(u::r.map (rh N)).Nodup->(r.map (·.1)).Nodup
 | [],_,_,_,_=>List.Pairwise.nil
 |e::r,u,v,⟨_,h2,h3⟩,hn=>by
  rw[aM,bV]at hn;rw[aM,bV]
  refine⟨fun z=>?_,yF h3 hn.2⟩
  obtain⟨e',ir,z⟩:=bL.mp z;have hm:rh N e'∈r.map (rh N):=cR ir;have h4:=(bV.mp hn.2).1;by_cases hb:e'.2=e.2
  ·have:e'=e:=aQC z hb;subst this
   exact h4 hm
  ·have:rh N e'=rt N e:=by
    unfold rh rt;rw[z];cases h5:e'.2<;>cases h6:e.2<;>simp_all
   rw[this,h2]at hm
   exact hn.1 (aZ _ hm)
theorem Rte.pipes{v:Nat}(R:Rte N f p r v):(r.map (·.1)).Nodup:=yF R.wk R.nd
end NF
namespace NF
variable {n:Nat}{es:List (Nat×Nat)}
noncomputable def od{α:Type}:List α->List α
 |_::y::r=>y::od r
 |_=>[]
inductive Ky(n:Nat)(es:List (Nat×Nat))(s:Nat×Nat):Prop where
 |src (i:Nat) (hi:i<n) (e:s=(0,2*i+2))
 |wk (i:Nat) (hi:i<n) (e:s=(2*i+2,2*i+3))
 |snk (i:Nat) (hi:i<n) (e:s=(2*i+3,1))
 |nee (x y:Nat) (h:(x,y)∈es) (e:s=(2*x+3,2*y+2))
theorem aOn{w:Wk}{P:Int}{f:Nat->Int}{s:Nat×Nat}(h:s∈(stp (net w n es P) f (net w n es P).m).map (·.1)):Ky n es s:=by
 obtain⟨j,hj,rfl⟩:=xX h;cases pipe hj with
 |src i hi e t h d c=>exact .src i hi (by rw[t,h])
 |usu i hi e t h d c=>exact .wk i hi (by rw[t,h])
 |lea i hi e t h d c=>exact .wk i hi (by rw[t,h])
 |snk i hi e t h d c=>exact .snk i hi (by rw[t,h])
 |nee x y i hi e t h d c=>exact .nee x y (bC hi) (by rw[t,h])
noncomputable def stw(i:Nat):Nat×Nat:=(2*i+2,2*i+3)
def Chn(es:List (Nat×Nat)):Option Nat->List Nat->Prop
 |_,[]=>True
 |b,i::r=>(∀a,b=some a->(a,i)∈es)/\Chn es (some i) r
theorem aLf{i j:Nat}(h:stw i=stw j):i=j:=by
 unfold stw at h;have:=(aQI.inj h).1
 lia
theorem aHC:∀(r:List (Nat×Nat))(b:Option Nat),SW r (match b with|none=>0|some a=>2*a+3) 1->(∀s∈r,Ky n es s)->
 ∃is:List Nat,od r=is.map stw/\(∀i∈is,i<n)/\Chn es b is/\(b=none->is≠[])/\∀i,r.count (stw i)=is.count i
 | [],b,h,_=>by
   exfalso;have h:(match b with|none=>0|some a=>2*a+3)=1:=h;cases b<;>simp at h
 | [s],b,⟨h1,h2⟩,hk=>by
   have h2:s.2=1:=h2
   refine⟨[],rfl,by simp,trivial,fun hb=>?_,fun i=>?_⟩
   ·subst hb;exfalso;cases hk s bJ with
    |src i hi e=>rw[e]at h2;simp at h2
    |wk i hi e=>rw[e]at h1;simp at h1
    |snk i hi e=>rw[e]at h1;simp at h1
    |nee x y h e=>rw[e]at h1;simp at h1
   ·rw[aPP,List.count_nil,if_neg];intro z;have:s=stw i:=by simpa using z
    rw[this]at h2;unfold stw at h2;simp at h2
 |s::s2::r,b,⟨h1,h2,h3⟩,hk=>by
  have k1:=hk s bJ;have k2:=hk s2 (aZ _ bJ);have key:∃i,i<n/\s2=stw i/\(∀a,b=some a->(a,i)∈es)/\∀j,s≠stw j:=by
   cases k1 with
   |src i hi e=>
    subst e;have hb:b=none:=by cases b<;>simp_all
    cases k2 with
    |src j hj e=>subst e;simp at h2
    |wk j hj e=>
     subst e
     refine⟨j,hj,rfl,fun a ha=>?_,fun j' z=>?_⟩
     ·rw[hb]at ha;cases ha
     ·unfold stw at z;simp at z
    |snk j hj e=>subst e;simp at h2;lia
    |nee x y h e=>subst e;simp at h2;lia
   |wk i hi e=>subst e;cases b<;>simp at h1<;>lia
   |snk i hi e=>
    subst e;cases k2 with
    |src j hj e=>subst e;simp at h2
    |wk j hj e=>subst e;simp at h2
    |snk j hj e=>subst e;simp at h2
    |nee x y h e=>subst e;simp at h2
   |nee x y h e=>
    subst e;cases k2 with
    |src j hj e=>subst e;simp at h2
    |wk j hj e=>
     subst e;have hjy:j=y:=by simp at h2;lia
     subst hjy
     refine⟨j,hj,rfl,fun a ha=>?_,fun j' z=>?_⟩
     ·subst ha;have:x=a:=by simp at h1;lia
      subst this;exact h
     ·unfold stw at z;simp at z;lia
    |snk j hj e=>subst e;simp at h2;lia
    |nee x' y' h' e=>subst e;simp at h2;lia
  obtain⟨i,hi,e2,hb,hs⟩:=key;subst e2;obtain⟨is,q1,q2,q3,_,q5⟩:=aHC r (some i) h3 fun s hs=>hk s (aZ _ (aZ _ hs))
  refine⟨i::is,?_,?_,⟨hb,q3⟩,fun _=>by simp,fun j=>?_⟩
  ·show stw i::od r=_;rw[q1];rfl
  ·intro j hj;rcases bE.mp hj with rfl|hj
   ·exact hi
   ·exact q2 j hj
  ·have c1:(s==stw j)=false:=beq_eq_false_iff_ne.mpr (hs j);rw[eN,eN,q5,eN,c1];by_cases ko:i=j
   ·subst ko;simp
   ·have c2:(stw i==stw j)=false:=beq_eq_false_iff_ne.mpr fun z=>ko (aLf z)
    have c3:(i==j)=false:=beq_eq_false_iff_ne.mpr ko;rw[c2,c3];simp
end NF
namespace TL
open PySem L2
section
variable {τ:TSt}{C:Sto}{Q:T->Sto->Prop}{QL:List T->Sto->Prop}{QS:Fl->TSt->Sto->Prop}{a b c fo fk fv:FE}{fa:FN}{F:FS}
variable{cls:String}{ks:List (List Key)}{i j:Int}{G:List T->Sto->Option (T×Sto)}{td tk:T}
theorem aIu{c:Nat}{ns:List Str}{ts:List T}(e:C[c]?=some (.o cls ns,ts)):oc cls C (.cell c)=some (c,ns,ts):=by
 show(C[c]?).bind _=_;rw[e,aU]
 exact if_pos rfl
theorem tU{c:Nat}{ks:List Key}{ts:List T}(e:C[c]?=some (.dk ks,ts)):dkc C (.cell c)=some (c,ks,ts):=by
 show(C[c]?).bind _=_;rw[e];rfl
theorem aIf{c:Nat}{ts:List T}(e:C[c]?=some (.dt ks,ts)):dtc C (.cell c)=some (c,ks,ts):=by
 show(C[c]?).bind _=_;rw[e];rfl
theorem aIB{c:Nat}{ts:List T}(e:C[c]?=some (.dt ks,ts)\/C[c]?=some (.dz ks,ts)):dzc C (.cell c)=some (c,ks,ts):=by
 show(C[c]?).bind _=_;rcases e with e|e<;>(rw[e];rfl)
theorem aHr{c:Nat}{ts:List T}(e:C[c]?=some (.dt ks,ts)\/C[c]?=some (.dz ks,ts)):dkc C (.cell c)=none:=by
 show(C[c]?).bind _=_;rcases e with e|e<;>(rw[e];rfl)
def nY(cls:String)(f:Str)(C:Sto)(t:T):Option T:=(oc cls C t).bind fun x=>getN f x.2.1 x.2.2
theorem wD{f:Str}:wpE (kL cls f a) τ C Q↔wpE a τ C fun t C1=>∃u,nY cls f C1 t=some u/\Q u C1:=by
 rw[xG];unfold wpE;constructor
 ·rintro⟨t,C1,e,u,C2,e2,q⟩;unfold aFT at e2;obtain⟨x,e3,e2⟩:=aK.mp e2;obtain⟨y,e4,e2⟩:=aL.mp e2;cases e2
  exact⟨t,_,e,u,by unfold nY;rw[e3];exact e4,q⟩
 ·rintro⟨t,C1,e,u,e2,q⟩;unfold nY at e2;obtain⟨x,e3,e2⟩:=aK.mp e2
  exact⟨t,C1,e,u,C1,by unfold aFT;rw[e3,aU,e2];rfl,q⟩
theorem aJ3{f:Str}{t:T}:wpO (aFT cls f t C) Q↔∃u,nY cls f C t=some u/\Q u C:=by
 unfold wpO aFT nY;constructor
 ·rintro⟨u,C2,e2,q⟩;obtain⟨x,e3,e2⟩:=aK.mp e2;obtain⟨y,e4,e2⟩:=aL.mp e2;cases e2
  exact⟨u,by rw[e3];exact e4,q⟩
 ·rintro⟨u,e2,q⟩;obtain⟨x,e3,e2⟩:=aK.mp e2
  exact⟨u,C,by rw[e3,aU,e2];rfl,q⟩
def aGe(cls:String)(f:Str)(x:T)(C:Sto)(t:T):Option Sto:=(oc cls C t).bind fun y=>if y.2.1.length<900 then some (C.set y.1 (.o cls (pn f y.2.1),pv f x y.2.1 y.2.2))else none
theorem mK{f:Str}(h:wpE a τ C fun x C1=>wpE fo τ C1 fun t C2=>∃C3,aGe cls f x C2 t=some C3/\QS .nx τ C3):wpS (nU cls f fo a) τ C QS:=by
 obtain⟨x,C1,e1,t,C2,e2,C3,e3,q⟩:=h
 refine⟨.nx,τ,C3,?_,q⟩
 unfold nU;rw[e1,aU,e2,aU];unfold aGe at e3;obtain⟨y,e4,e3⟩:=aK.mp e3;rw[e4,aU];try dsimp only at e3|-
 split at e3
 ·rename_i h;cases e3;rw[if_pos h]
 ·cases e3
theorem y3{f:Str}{g:Int->Int->Int}(h:wpE fo τ C fun t C1=>nY cls f C1 t=some (.int i)/\wpE a τ C1 fun x C2=>x=.int j/\∃C3,aGe cls f (.int (g i j)) C2 t=some C3/\QS .nx τ C3):wpS (vE cls f g fo a) τ C QS:=by
 obtain⟨t,C1,e1,e2,x,C2,e3,rfl,C3,e4,q⟩:=h
 refine⟨.nx,τ,C3,?_,q⟩
 unfold vE;rw[e1,aU];unfold nY at e2;obtain⟨y,e5,e2⟩:=aK.mp e2;rw[e5,aU];try dsimp only at e2|-
 rw[e2,aU];try dsimp only
 rw[e3,aU];try dsimp only
 unfold aGe at e4;obtain⟨z,e6,e4⟩:=aK.mp e4;rw[e6,aU];try dsimp only at e4|-
 split at e4
 ·rename_i h;cases e4;rw[if_pos h]
 ·cases e4
theorem jH{n:Nat}:wpE (k7 n G fa) τ C Q↔wpA fa τ C fun ts C1=>ts.length=n/\wpO (G ts C1) Q:=by
 rw[gC];unfold wpA wpO pJ;constructor
 ·rintro⟨ts,C1,e,t,C2,e2,q⟩;split at e2
  ·exact⟨ts,C1,e,‹_›,t,C2,e2,q⟩
  ·cases e2
 ·rintro⟨ts,C1,e,h,t,C2,e2,q⟩
  exact⟨ts,C1,e,t,C2,by rw[if_pos h];exact e2,q⟩
def noAt(cls:String)(m:Str)(C:Sto)(t:T):Prop:=∃x,oc cls C t=some x/\getN m x.2.1 x.2.2=none
theorem kF{m:Str}{n:Nat}(h:wpE fo τ C fun t C1=>noAt cls m C1 t/\wpA fa τ C1 fun ts C2=>ts.length+1=n/\wpO (G (t::ts) C2) Q):wpE (kE cls m n G fo fa) τ C Q:=by
 obtain⟨t,C1,e1,⟨x,e2,e3⟩,ts,C2,e4,hl,r,C3,e5,q⟩:=h
 refine⟨r,C3,?_,q⟩
 unfold kE;rw[e1,aU];try dsimp only
 rw[e2,aU];try dsimp only
 rw[e3];try dsimp only
 rw[e4,aU];unfold pJ;rw[if_pos (by simpa using hl)]
 exact e5
theorem sE{n:Nat}{gk:List T}(h:wpA fa τ C fun ts C1=>(ts++gk).length+1=n/\wpO (G (.cell C1.length::(ts++gk)) (C1++[(.o cls [],[])])) fun r C2=>r=.non/\Q (.cell C1.length) C2):wpE (sX cls n G gk fa) τ C Q:=by
 obtain⟨ts,C1,e1,hl,r,C2,e2,rfl,q⟩:=h
 refine⟨_,C2,?_,q⟩
 unfold sX;rw[e1,aU];try dsimp only
 unfold pJ;rw[if_pos (by simpa using hl),e2];rfl
theorem iI{B:FS}{m:Nat}{ts:List T}(h:wpS B (st0 m ts) C fun l ag C'=>match l with
 | .nx=>Q .non C'
 | .rt r=>Q r C'
 |_=>False):wpO (mY B m ts C) Q:=by
 obtain⟨l,ag,C',e,q⟩:=h;cases l with
 |nx=>exact⟨_,C',by unfold mY;rw[e],q⟩
 |rt r=>exact⟨_,C',by unfold mY;rw[e],q⟩
 |bk=>exact q.elim
 |ct=>exact q.elim
 |ex c=>exact q.elim
theorem aC2{kd:Kd}:wpE (vG kd) τ C Q↔Q (.cell C.length) (C++[(kd,[])]):=by
 unfold wpE vG;constructor
 ·rintro⟨_,_,e,q⟩;cases e;exact q
 ·exact fun q=>⟨_,_,rfl,q⟩
theorem sW:wpO (aE7 td tk C) Q↔∃t,dval C td tk=some (some t)/\Q t C:=by
 unfold wpO aE7;constructor
 ·rintro⟨t,C',e,q⟩;split at e
  ·rename_i u hu;cases e;exact⟨_,hu,q⟩
  ·cases e
 ·rintro⟨t,e,q⟩
  exact⟨t,C,by rw[e],q⟩
theorem aBk{n:Bool}:wpO (wX n tk td C) Q↔∃o,dval C td tk=some o/\Q (.bl (o.isSome==n)) C:=by
 unfold wpO wX;constructor
 ·rintro⟨t,C',e,q⟩;obtain⟨o,e1,e⟩:=aL.mp e;cases e
  exact⟨o,e1,q⟩
 ·rintro⟨o,e,q⟩
  exact⟨_,C,by rw[e];rfl,q⟩
theorem aFw(h:wpE fo τ C fun td C1=>isDc C1 td=true/\wpE fk τ C1 fun tk C2=>wpE fv τ C2 fun tx C3=>∃o,dval C3 td tk=some o/\Q (o.getD tx) C3):wpE (uK fo fk fv) τ C Q:=by
 obtain⟨td,C1,e1,hd,tk,C2,e2,tx,C3,e3,o,e4,q⟩:=h
 refine⟨_,C3,?_,q⟩
 unfold uK;rw[e1,aU];try dsimp only
 rw[if_pos hd,e2,aU];try dsimp only
 rw[e3,aU];try dsimp only
 rw[e4];rfl
theorem aCN(h:wpE fv τ C fun tv C1=>wpE fo τ C1 fun td C2=>wpE fk τ C2 fun tk C3=>∃C4,dput C3 td tk tv=some C4/\QS .nx τ C4):wpS (zB fo fk fv) τ C QS:=by
 obtain⟨tv,C1,e1,td,C2,e2,tk,C3,e3,C4,e4,q⟩:=h
 refine⟨.nx,τ,C4,?_,q⟩
 unfold zB;rw[e1,aU];try dsimp only
 rw[e2,aU];try dsimp only
 rw[e3,aU];try dsimp only
 rw[e4];rfl
theorem aIw{g:Int->Int->Int}(h:wpE fo τ C fun td C1=>wpE fk τ C1 fun tk C2=>dval C2 td tk=some (some (.int i))/\wpE fv τ C2 fun tv C3=>tv=.int j/\∃C4,dput C3 td tk (.int (g i j))=some C4/\QS .nx τ C4):wpS (aAQ g fo fk fv) τ C QS:=by
 obtain⟨td,C1,e1,tk,C2,e2,e3,tv,C3,e4,rfl,C4,e5,q⟩:=h
 refine⟨.nx,τ,C4,?_,q⟩
 unfold aAQ;rw[e1,aU];try dsimp only
 rw[e2,aU];try dsimp only
 rw[e3];try dsimp only
 rw[e4,aU];try dsimp only
 rw[e5];rfl
theorem aGa{k:Key}{x:T}(h:wpE fk τ (C++[(.dk [],[])]) fun tk C1=>kyT tk=some k/\wpE fv τ C1 fun tv C2=>tv=x/\C2[C.length]?=some (.dk [],[])/\Q (.cell C.length) (C2.set C.length (.dk [k],[x]))):wpE (tZ fk fv) τ C Q:=by
 obtain⟨tk,C1,e1,e2,tv,C2,e3,rfl,e4,q⟩:=h
 refine⟨_,_,?_,q⟩
 unfold tZ;rw[e1,aU];try dsimp only
 rw[e3,aU];try dsimp only
 rw[e2,aU];have:=tU e4;rw[this]
theorem aHW{c1 c2:Nat}{ks ks':List Key}{ts cg:List T}(h:wpE fo τ C fun td C1=>td=.cell c1/\isDc C1 td=true/\wpE fv τ C1 fun te C2=>te=.cell c2/\C2[c1]?=some (.dk ks,ts)/\C2[c2]?=some (.dk ks',cg)/\c1≠c2/\ks.length+ks'.length<=lim/\
 Q .non (C2.set c1 (.dk (mrgK ks' cg (ks,ts)).1,(mrgK ks' cg (ks,ts)).2))):wpE (zD fo fv) τ C Q:=by
 obtain⟨td,C1,e1,rfl,hd,te,C2,e2,rfl,e3,e4,hn,hl,q⟩:=h
 refine⟨_,_,?_,q⟩
 unfold zD;rw[e1,aU];try dsimp only
 rw[if_pos hd,e2,aU];try dsimp only
 have h1:=tU e3;have h2:=tU e4;rw[h1,h2,aU,aU];try dsimp only
 rw[if_pos ⟨hn,hl⟩]
theorem aJv:wpA (aGb a) τ C QL↔wpE a τ C fun t C1=>∃ts,liT C1 t=some ts/\QL (od ts) C1:=by
 unfold wpA wpE aGb;constructor
 ·rintro⟨us,C',e,q⟩;obtain⟨⟨t,C1⟩,e1,e⟩:=aK.mp e;obtain⟨ts,e2,e⟩:=aL.mp e;cases e
  exact⟨t,_,e1,ts,e2,q⟩
 ·rintro⟨t,C1,e1,ts,e2,q⟩
  exact⟨_,_,by rw[e1,aU,e2];rfl,q⟩
theorem aCm{g:FG}:wpS (yA a g F) τ C QS↔wpE a τ C fun t C1=>∃ts,liT C1 t=some ts/\wpS (kK (stays t ts) g F (aBj ts)) τ C1 QS:=by
 unfold wpS wpE yA;constructor
 ·rintro⟨l,ag,C',e,q⟩;obtain⟨⟨t,C1⟩,e1,e⟩:=aK.mp e;obtain⟨ts,e2,e⟩:=aK.mp e
  exact⟨t,C1,e1,ts,e2,l,ag,C',e,q⟩
 ·rintro⟨t,C1,e1,ts,e2,l,ag,C',e,q⟩
  exact⟨l,ag,C',by rw[e1,aU];try dsimp only;rw[e2,aU];exact e,q⟩
theorem aC1{α:Type}{f:α->T}{xs:List α}:aBj (xs.map f)=(xs.zipIdx).map fun p=>.tup [.int p.2,f p.1]:=by
 unfold aBj;rw[List.zipIdx_map,cC];rfl
theorem aFC{k:Nat}{is:List Nat}{g:FG}{fb:FB}{fe:FE}{c:Nat}{ts:List T}
 (h:wpE a τ C fun t C1=>t=.cell c/\C1[c]?=some (.dt ks,ts)/\ks.length=ts.length/\ks.length<lim/\wpC (jX g fb fe (scT k is τ) (ks.map aGQ) (C1.set c (.dz ks,ts))) fun us C2=>C2=C1.set c (.dz ks,ts)/\QL us C1):wpA (tX a k is g fb fe) τ C QL:=by
 obtain⟨t,C1,e1,rfl,e2,hl,fm,us,C2,e3,rfl,q⟩:=h;have hc:c<C1.length:=(aQ.mp e2).1
 refine⟨us,C1,?_,q⟩
 unfold tX;rw[e1,aU];try dsimp only
 have h1:=aIf e2;rw[h1,aU];try dsimp only
 rw[if_pos ⟨fm,hl⟩,e3,aU];try dsimp only
 rw[bN hc];try dsimp only
 rw[eI,<-(aQ.mp e2).2,eQ]
end
end TL
namespace TL
open PySem L2
variable{c:Nat}{cls:String}{ns:List Str}
noncomputable def pnm:List Str:=["tail","head","hours","room","back"]
noncomputable def nnm:List Str:=["pipes","places"]
theorem mF{C:Sto}{x:Cl}(h:c<C.length):(C.set c x)[c]?=some x:=bN h
theorem j9{C:Sto}{x:Cl}(h:C[c]?=some x):c<C.length:=(aQ.mp h).1
theorem lG{f:Str}{x:T}{C:Sto}{ns':List Str}{ts cg:List T}(e:C[c]?=some (.o cls ns,ts))(h:ns.length<900)(h1:pn f ns=ns')(h2:pv f x ns ts=cg):aGe cls f x C (.cell c)=some (C.set c (.o cls ns',cg)):=by
 unfold aGe;rw[aIu e,aU];dsimp only;rw[if_pos h,h1,h2]
theorem kP{f:Str}{C:Sto}{ts:List T}{u:T}(e:C[c]?=some (.o cls ns,ts))(h:getN f ns ts=some u):nY cls f C (.cell c)=some u:=by
 unfold nY;rw[aIu e];exact h
theorem lI{m:Str}{C:Sto}{ts:List T}(e:C[c]?=some (.o cls ns,ts))(h:getN m ns ts=none):noAt cls m C (.cell c):=⟨_,aIu e,h⟩
end TL
namespace Lib
open PySem L2 TL
variable{c:Nat}{h d r:T}{Q:T->Sto->Prop}
theorem aCi{C:Sto}{t:T}(e:C[c]?=some (.o "Pipe" [],[]))(q:Q .non (C.set c (.o "Pipe" pnm,[t,h,d,r,.non]))):wpO (lP [.cell c,t,h,d,r] C) Q:=by
 have hc:=j9 e
 refine iI ?_
 unfold yE;walk_at "b"
 refine fK.mpr (mK ?_)
 try simp_arith[if_true]
 refine⟨_,lG e (by decide) rfl rfl,?_⟩
 refine mK ?_
 try simp_arith[if_true]
 refine⟨_,lG (mF hc) (by decide) rfl rfl,?_⟩
 rw[eI]
 refine mK ?_
 try simp_arith[if_true]
 refine⟨_,lG (mF hc) (by decide) rfl rfl,?_⟩
 rw[eI]
 refine mK ?_
 try simp_arith[if_true]
 refine⟨_,lG (mF hc) (by decide) rfl rfl,?_⟩
 rw[eI]
 refine mK ?_
 try simp_arith[if_true]
 refine⟨_,lG (mF hc) (by decide) rfl rfl,?_⟩
 rw[eI]
 exact q
theorem qF{C:Sto}{t:T}(q:Q .non (C++[(.o "Pipe" pnm,[t,h,d,r,.non])])):wpO (lP [.cell C.length,t,h,d,r] (C++[(.o "Pipe" [],[])])) Q:=by
 refine aCi (by simp) ?_
 rw[b8 _ _ (bF _),dE]
 exact q
theorem aL3{C:Sto}{d:Nat}{ps:List T}{pl:T}{t h x r:Int}(e1:C[c]?=some (.o "Net" nnm,[.cell d,pl]))(e2:C[d]?=some (.l,ps))(hl:ps.length<lim)
 (q:Q .non (C.set d (.l,ps++[.cell C.length])++[(.o "Pipe" pnm,[.int t,.int h,.int x,.int r,.cell (C.length+1)]),(.o "Pipe" pnm,[.int h,.int t,.int (-x),.int 0,.cell C.length])])):
 wpO (jJ [.cell c,.int t,.int h,.int x,.int r] C) Q:=by
 have hc:=j9 e1;have hd:=j9 e2
 refine iI ?_
 unfold aAP;walk_at "b"
 refine fK.mpr (f6.mpr (sE ?_))
 try simp_arith[if_true]
 first|refine qF ⟨rfl,?_⟩|refine⟨rfl,qF ⟨rfl,?_⟩⟩
 try simp_arith[if_true]
 refine sE ?_
 try simp_arith[if_true]
 first|refine qF ⟨rfl,?_⟩|refine⟨rfl,qF ⟨rfl,?_⟩⟩
 try simp_arith[if_true]
 have l1:(C++[(Kd.o "Pipe" pnm,[T.int t,T.int h,T.int x,T.int r,T.non])]).length=C.length+1:=by simp
 rw[l1];have f1:(C++[(Kd.o "Pipe" pnm,[T.int t,T.int h,T.int x,T.int r,T.non])]++[(Kd.o "Pipe" pnm,[T.int h,T.int t,T.int (-x),T.int 0,T.non])])[C.length]?=some (Kd.o "Pipe" pnm,[T.int t,T.int h,T.int x,T.int r,T.non]):=by simp
 refine mK ?_
 try simp_arith[if_true]
 refine⟨_,lG f1 (by decide) rfl rfl,?_⟩
 have f2:((C++[(Kd.o "Pipe" pnm,[T.int t,T.int h,T.int x,T.int r,T.non])]++[(Kd.o "Pipe" pnm,[T.int h,T.int t,T.int (-x),T.int 0,T.non])]).set C.length (Kd.o "Pipe" pnm,[T.int t,T.int h,T.int x,T.int r,T.cell (C.length+1)]))=C++[(Kd.o "Pipe" pnm,[T.int t,T.int h,T.int x,T.int r,T.cell (C.length+1)]),(Kd.o "Pipe" pnm,[T.int h,T.int t,T.int (-x),T.int 0,T.non])]:=by
  rw[cS,b8 _ _ (bF _),dE];rfl
 rw[show(pv ("back":Str) (T.cell (C.length+1)) pnm [T.int t,T.int h,T.int x,T.int r,T.non])=[T.int t,T.int h,T.int x,T.int r,T.cell (C.length+1)]from rfl,show pn ("back":Str) pnm=pnm from rfl,f2];try simp_arith[if_true]
 refine mK ?_
 try simp_arith[if_true]
 have f3:(C++[(Kd.o "Pipe" pnm,[T.int t,T.int h,T.int x,T.int r,T.cell (C.length+1)]),(Kd.o "Pipe" pnm,[T.int h,T.int t,T.int (-x),T.int 0,T.non])])[C.length+1]?=some (Kd.o "Pipe" pnm,[T.int h,T.int t,T.int (-x),T.int 0,T.non]):=by
  rw[bK (by lia)];simp
 refine⟨_,lG f3 (by decide) rfl rfl,?_⟩
 have f4:((C++[(Kd.o "Pipe" pnm,[T.int t,T.int h,T.int x,T.int r,T.cell (C.length+1)]),(Kd.o "Pipe" pnm,[T.int h,T.int t,T.int (-x),T.int 0,T.non])]).set (C.length+1) (Kd.o "Pipe" pnm,[T.int h,T.int t,T.int (-x),T.int 0,T.cell C.length]))=C++[(Kd.o "Pipe" pnm,[T.int t,T.int h,T.int x,T.int r,T.cell (C.length+1)]),(Kd.o "Pipe" pnm,[T.int h,T.int t,T.int (-x),T.int 0,T.cell C.length])]:=by
  rw[b8 _ _ (by lia),show C.length+1 - C.length=1 by lia];rfl
 rw[show(pv ("back":Str) (T.cell C.length) pnm [T.int h,T.int t,T.int (-x),T.int 0,T.non])=[T.int h,T.int t,T.int (-x),T.int 0,T.cell C.length]from rfl,show pn ("back":Str) pnm=pnm from rfl,f4];simp only[aJ3];have g1:(C++[(Kd.o "Pipe" pnm,[T.int t,T.int h,T.int x,T.int r,T.cell (C.length+1)]),(Kd.o "Pipe" pnm,[T.int h,T.int t,T.int (-x),T.int 0,T.cell C.length])])[c]?=some (.o "Net" nnm,[.cell d,pl]):=by rw[aY hc];exact e1
 have g2:lc (C++[(Kd.o "Pipe" pnm,[T.int t,T.int h,T.int x,T.int r,T.cell (C.length+1)]),(Kd.o "Pipe" pnm,[T.int h,T.int t,T.int (-x),T.int 0,T.cell C.length])]) d=some ps:=by rw[fY,aY hd];exact e2
 refine⟨_,kP g1 rfl,d,rfl,by rw[g2];rfl,ps,g2,hl,?_⟩
 rw[aPN _ _ hd]
 exact q
end Lib
namespace Lib
open PySem L2 TL NF
variable{c:Nat}{nd:List (List Int)}
noncomputable def pc(c:Nat)(o:Nat×Bool):Nat:=c+2+2*o.1+if o.2 then 0 else 1
theorem aN3{k:Nat}:pc c (k,true)=c+2+2*k:=rfl
theorem aNC{k:Nat}:pc c (k,false)=c+2+2*k+1:=rfl
def pcell(N:Nt)(f:Nat->Int)(c:Nat)(o:Nat×Bool):Cl:=(.o "Pipe" pnm,[.int (rt N o),.int (rh N o),.int (rd N o),.int (rr N f o),.cell (pc c (o.1,!o.2))])
structure Pre(N:Nt)(k:Nat)(C0:Sto)(pl:Int)(C:Sto):Prop where
 pre:∀i,i<C0.length->C[i]?=C0[i]?
 len:C.length=C0.length+2+2*k
 net:C[C0.length]?=some (.o "Net" nnm,[.cell (C0.length+1),.int pl])
 lst:C[C0.length+1]?=some (.l,(bI k).map fun j=>.cell (pc C0.length (j,true)))
 pip:∀o:Nat×Bool,o.1<k->C[pc C0.length o]?=some (pcell N (fun _=>0) C0.length o)
theorem Pre.lay{N:Nt}{k:Nat}{C0 C:Sto}{pl:Int}(P:Pre N k C0 pl C)(hk:k<90000){t h d r:Int}(ht:t=N.t k)(hh:h=N.h k)(hd:d=N.d k)(hr:r=N.c k){Q:T->Sto->Prop}(q:∀C',Pre N (k+1) C0 pl C'->Q .non C'):
 wpO (jJ [.cell C0.length,.int t,.int h,.int d,.int r] C) Q:=by
 subst ht hh hd hr
 refine aL3 P.net P.lst (by simp[lim];lia) (q _ ?_)
 have hl:=P.len;have kl:C0.length+1<C.length:=by lia
 have old:∀i,i<C.length->i≠C0.length+1->(C.set (C0.length+1) (Kd.l,(bI k).map (fun j=>T.cell (pc C0.length (j,true)))++[T.cell C.length])++
  [(Kd.o "Pipe" pnm,[T.int (N.t k),T.int (N.h k),T.int (N.d k),T.int (N.c k),T.cell (C.length+1)]),(Kd.o "Pipe" pnm,[T.int (N.h k),T.int (N.t k),T.int (-N.d k),T.int 0,T.cell C.length])])[i]?=C[i]?:=fun i hi hn=>by
  rw[aY (by simpa using hi),aR (Ne.symm hn)]
 refine⟨fun i hi=>?_,by simp;lia,?_,?_,fun o ho=>?_⟩
 ·rw[old i (by lia) (by lia)];exact P.pre i hi
 ·rw[old _ (by lia) (by lia)];exact P.net
 ·rw[aY (by simpa using kl),bN kl,dY,bP,hl];rfl
 ·by_cases hok:o.1<k
  ·rw[old _ (by unfold pc;split<;>lia) (by unfold pc;lia)]
   exact P.pip o hok
  ·have:o.1=k:=by lia
   obtain⟨j,b⟩:=o;cases this;cases b with
   |true=>
    rw[aN3,bK (by simp;lia)];simp only[cM,hl,dE,bT];unfold pcell rt rh rd rr;simp[aNC]
   |false=>
    rw[aNC,bK (by simp;lia)];simp only[cM,hl];rw[show C0.length+2+2*j+1 - (C0.length+2+2*j)=1 by lia];unfold pcell rt rh rd rr;simp[aN3]
noncomputable def gR(ws:List (Int×Int×Int)):Wk:=⟨fun i=>((ws[i]?).getD (0,0,0)).1,fun i=>((ws[i]?).getD (0,0,0)).2.1,fun i=>((ws[i]?).getD (0,0,0)).2.2⟩
noncomputable def iM:Nat->List (List Int)->List (Nat×Nat)
 |_,[]=>[]
 |s,l::r=>(l.map fun a=>(a.toNat,s))++iM (s+1) r
theorem aBL:∀{nd:List (List Int)}{s b j:Nat}{l:List Int}{a:Int},nd[b]?=some l->l[j]?=some a->(iM s nd)[(iM s (nd.take b)).length+j]?=some (a.toNat,s+b)
 | [],s,b,j,l,a,h,_=>by simp at h
 |x::nd,s,0,j,l,a,h,h2=>by
  simp at h;subst h;show((x.map fun a=>(a.toNat,s))++iM (s+1) nd)[0+j]?=_;rw[aOU,aY (by simpa using(aQ.mp h2).1),bH,h2];rfl
 |x::nd,s,b+1,j,l,a,h,h2=>by
  have ih:=aBL (s:=s+1) (b:=b) (nd:=nd) (by simpa using h) h2;show((x.map fun a=>(a.toNat,s))++iM (s+1) nd)[((x.map fun a=>(a.toNat,s))++iM (s+1) (nd.take b)).length+j]?=_;rw[bD,aPy,bK (by lia),Nat.add_sub_cancel_left,ih];congr 2;lia
theorem aF4:∀{s b:Nat}{l:List Int},nd[b]?=some l->(iM s (nd.take (b+1))).length=(iM s (nd.take b)).length+l.length:=by
 induction nd with
 |nil=>intro s b l h;simp at h
 |cons x nd ih=>
  intro s b l h;cases b with
  |zero=>simp at h;subst h;simp[iM]
  |succ b=>
   have:=ih (s:=s+1) (b:=b) (by simpa using h);simp only[aPR,iM,bD,aS]at this|-
   lia
theorem aCx{z:Nat}(h:∀l∈nd,l.length<=z):∀{s:Nat},(iM s nd).length<=nd.length*z:=by
 induction nd with
 |nil=>intro s;simp[iM]
 |cons x nd ih=>
  intro s;have h1:=h x bJ;have h2:=ih (fun l hl=>h l (aZ _ hl)) (s:=s+1);simp only[iM,bD,aS,aN,Nat.add_mul,Nat.one_mul]
  lia
theorem aGK{e:Nat×Nat}:∀{s:Nat},e∈iM s nd->∃b l a,nd[b]?=some l/\a∈l/\e=(a.toNat,s+b):=by
 induction nd with
 |nil=>intro s h;simp[iM]at h
 |cons x nd ih=>
  intro s h;rcases bM.mp (show e∈(x.map fun a=>(a.toNat,s))++iM (s+1) nd from h)with h|h
  ·obtain⟨a,ha,rfl⟩:=bL.mp h
   exact⟨0,x,a,rfl,ha,rfl⟩
  ·obtain⟨b,l,a,h1,h2,h3⟩:=ih h
   exact⟨b+1,l,a,by simpa using h1,h2,by rw[h3];congr 1;lia⟩
theorem aLe{b:Nat}{l:List Int}{a:Int}(h:nd[b]?=some l)(ha:a∈l):(a.toNat,b)∈iM 0 nd:=by
 obtain⟨j,hj⟩:=bQ.mp ha;have:=aBL (s:=0) h hj;rw[aOU]at this
 exact bC this
end Lib
namespace Lib
open PySem L2 TL NF
variable{i:Nat}{w:Wk}{es:List (Nat×Nat)}{P:Int}
theorem xO:iR [.int i]=some (.int (2*i+2)):=by
 apply iJ;unfold q9;walk_at "b";simp_arith[if_true]
 refine⟨gM (by lia) (by lia),?_⟩
 rfl
theorem zJ:jA [.int i]=some (.int (2*i+3)):=by
 apply iJ;unfold rZ;walk_at "b";simp_arith[if_true]
 refine⟨gM (by lia) (by lia),?_⟩
 rfl
theorem aDP:qL [.int (2*i+2)]=some (.int i):=by
 apply iJ;unfold aAu;walk_at "b";simp_arith[if_true]
 refine⟨by decide,?_⟩
 show some (T.int ((2*(i:Int)+2)/2 - 1))=_;congr 2;lia
theorem aJw{n:Nat}(hi:i<n):(net w n es P).t (4*i)=0/\(net w n es P).h (4*i)=2*i+2/\(net w n es P).d (4*i)=0/\(net w n es P).c (4*i)=P:=by
 have h4:4*i<4*n:=by lia
 have hm:4*i%4=0:=by lia
 have hd:4*i/4=i:=by lia
 refine⟨?_,?_,?_,?_⟩<;>simp[net,h4,hm,hd]
theorem aJF{n:Nat}(hi:i<n):(net w n es P).t (4*i+1)=2*i+2/\(net w n es P).h (4*i+1)=2*i+3/\(net w n es P).d (4*i+1)=w.u i/\(net w n es P).c (4*i+1)=w.p i:=by
 have h4:4*i+1<4*n:=by lia
 have hm:(4*i+1)%4=1:=by lia
 have hd:(4*i+1)/4=i:=by lia
 refine⟨?_,?_,?_,?_⟩<;>simp[net,h4,hm,hd]
theorem aK1{n:Nat}(hi:i<n):(net w n es P).t (4*i+2)=2*i+2/\(net w n es P).h (4*i+2)=2*i+3/\(net w n es P).d (4*i+2)=w.l i/\(net w n es P).c (4*i+2)=P:=by
 have h4:4*i+2<4*n:=by lia
 have hm:(4*i+2)%4=2:=by lia
 have hd:(4*i+2)/4=i:=by lia
 refine⟨?_,?_,?_,?_⟩<;>simp[net,h4,hm,hd]
theorem aJW{n:Nat}(hi:i<n):(net w n es P).t (4*i+3)=2*i+3/\(net w n es P).h (4*i+3)=1/\(net w n es P).d (4*i+3)=0/\(net w n es P).c (4*i+3)=P:=by
 have h4:4*i+3<4*n:=by lia
 have hm:(4*i+3)%4=3:=by lia
 have hd:(4*i+3)/4=i:=by lia
 refine⟨?_,?_,?_,?_⟩<;>simp[net,h4,hm,hd]
theorem aJM{n:Nat}{j a b:Nat}(hj:es[j]?=some (a,b)):(net w n es P).t (4*n+j)=2*a+3/\(net w n es P).h (4*n+j)=2*b+2/\(net w n es P).d (4*n+j)=0/\(net w n es P).c (4*n+j)=P:=by
 have h4:¬4*n+j<4*n:=by lia
 have hs:4*n+j - 4*n=j:=by lia
 refine⟨?_,?_,?_,?_⟩<;>simp[net,h4,hs,hj]
noncomputable def plenty(ws:List (Int×Int×Int))(bonus:Int):Int:=(ws.map (·.2.2)).sum+bonus+1
def iA(ws:List (Int×Int×Int))(nd:List (List Int))(bonus:Int):Nt:=net (gR ws) ws.length (iM 0 nd) (plenty ws bonus)
theorem aIX{C:Sto}{c:Nat}{t h d r:Int}{τ:TSt}{QS:TL.Fl->TSt->Sto->Prop}{ft fh fd fr:FE}{pl:T}{e:Nat}(h0:τ[0]?=some (some (.cell c)))(h1:C[c]?=some (.o "Net" nnm,[.cell e,pl]))
 (ht:ft τ C=some (.int t,C))(hh:fh τ C=some (.int h,C))(hd:fd τ C=some (.int d,C))(hr:fr τ C=some (.int r,C))(q:wpO (jJ [.cell c,.int t,.int h,.int d,.int r] C) fun _ C'=>QS .nx τ C'):
 wpS (mJ (kE "Net" "lay" 5 jJ Y0 (eX ft (eX fh (eX fd (eX fr fH)))))) τ C QS:=by
 refine oI.mpr (kF ?_)
 refine eY.mpr ⟨_,h0,lI h1 rfl,?_⟩
 refine e9.mpr ⟨_,_,ht,e9.mpr ⟨_,_,hh,e9.mpr ⟨_,_,hd,e9.mpr ⟨_,_,hr,fJ.mpr ⟨rfl,q⟩⟩⟩⟩⟩
theorem oT{τ:TSt}{C:Sto}{k:Nat}(h:τ[k]?=some (some (.int i))):f7 1 iR (eX (jF k) fH) τ C=some (.int (2*i+2),C):=by
 have:wpE (f7 1 iR (eX (jF k) fH)) τ C fun t C'=>t=.int (2*i+2)/\C'=C:=by
  refine gC.mpr (e9.mpr (eY.mpr ⟨_,h,fJ.mpr ?_⟩))
  exact(fQ xO rfl rfl).mpr ⟨rfl,rfl⟩
 obtain⟨t,C',e,rfl,rfl⟩:=this
 exact e
theorem qG{τ:TSt}{C:Sto}{k:Nat}(h:τ[k]?=some (some (.int i))):f7 1 jA (eX (jF k) fH) τ C=some (.int (2*i+3),C):=by
 have:wpE (f7 1 jA (eX (jF k) fH)) τ C fun t C'=>t=.int (2*i+3)/\C'=C:=by
  refine gC.mpr (e9.mpr (eY.mpr ⟨_,h,fJ.mpr ?_⟩))
  exact(fQ zJ rfl rfl).mpr ⟨rfl,rfl⟩
 obtain⟨t,C',e,rfl,rfl⟩:=this
 exact e
theorem xW{τ:TSt}{C:Sto}{k:Nat}{t:T}(h:τ[k]?=some (some t)):jF k τ C=some (t,C):=by unfold jF;rw[h]
theorem aHy{τ:TSt}{C:Sto}{k:Nat}{w:Int×Int×Int}(h:τ[k]?=some (some (w3 w))):fIx (jF k) (fI 0) τ C=some (.int w.1,C)/\fIx (jF k) (fI 1) τ C=some (.int w.2.1,C)/\fIx (jF k) (fI 2) τ C=some (.int w.2.2,C):=by
 refine⟨?_,?_,?_⟩<;>(show(jF k τ C).bind _=_;rw[xW h];rfl)
end Lib
namespace Lib
open PySem L2 TL NF
variable{C0:Sto}{pl bonus:Int}{QS:TL.Fl->TSt->Sto->Prop}{ws:List (Int×Int×Int)}{nd:List (List Int)}
theorem Pre.step{N:Nt}{k:Nat}{C:Sto}(P:Pre N k C0 pl C)(hk:k<90000){t h d r:Int}{τ:TSt}{ft fh fd fr:FE}(h0:τ[0]?=some (some (.cell C0.length)))
 (ht:ft τ C=some (.int t,C))(hh:fh τ C=some (.int h,C))(hd:fd τ C=some (.int d,C))(hr:fr τ C=some (.int r,C))(e:t=N.t k/\h=N.h k/\d=N.d k/\r=N.c k)(q:∀C',Pre N (k+1) C0 pl C'->QS .nx τ C'):
 wpS (mJ (kE "Net" "lay" 5 jJ Y0 (eX ft (eX fh (eX fd (eX fr fH)))))) τ C QS:=
 aIX h0 P.net ht hh hd hr (P.lay hk e.1 e.2.1 e.2.2.1 e.2.2.2 fun C' h=>q C' h)
theorem aIM{C:Sto}{i:Nat}{w:Int×Int×Int}{τ:TSt}(hw:ws[i]?=some w)(hl:ws.length<=8)(P:Pre (iA ws nd bonus) (4*i) C0 pl C)
 (h0:τ[0]?=some (some (.cell C0.length)))(h4:τ[4]?=some (some (.int (plenty ws bonus))))(h5:τ[5]?=some (some (.int i)))(h6:τ[6]?=some (some (w3 w)))(q:∀C',Pre (iA ws nd bonus) (4*(i+1)) C0 pl C'->QS .nx τ C'):wpS nN τ C QS:=by
 have hi:i<ws.length:=(aQ.mp hw).1;have eu:(gR ws).u i=w.1:=by simp[gR,hw]
 have el:(gR ws).l i=w.2.1:=by simp[gR,hw]
 have ep:(gR ws).p i=w.2.2:=by simp[gR,hw]
 unfold nN;obtain⟨a1,a2,a3,a4⟩:=aJw (w:=gR ws) (es:=iM 0 nd) (P:=plenty ws bonus) hi
 refine fK.mpr (P.step (t:=0) (h:=2*i+2) (d:=0) (r:=plenty ws bonus) (by lia) h0 rfl (oT h5) rfl (xW h4) ⟨by rw[show(iA ws nd bonus).t (4*i)=0 from a1];rfl,by rw[show(iA ws nd bonus).h (4*i)=_ from a2];simp,by rw[show(iA ws nd bonus).d (4*i)=_ from a3],by rw[show(iA ws nd bonus).c (4*i)=_ from a4]⟩ fun C1 P1=>?_)
 obtain⟨a1,a2,a3,a4⟩:=aJF (w:=gR ws) (es:=iM 0 nd) (P:=plenty ws bonus) hi
 refine fW.mpr (fK.mpr (P1.step (t:=2*i+2) (h:=2*i+3) (d:=w.1) (r:=w.2.2) (by lia) h0 (oT h5) (qG h5) (aHy h6).1 (aHy h6).2.2 ⟨by rw[show(iA ws nd bonus).t (4*i+1)=_ from a1];simp,by rw[show(iA ws nd bonus).h (4*i+1)=_ from a2];simp,by rw[show(iA ws nd bonus).d (4*i+1)=_ from a3,eu],by rw[show(iA ws nd bonus).c (4*i+1)=_ from a4,ep]⟩ fun C2 P2=>?_))
 obtain⟨a1,a2,a3,a4⟩:=aK1 (w:=gR ws) (es:=iM 0 nd) (P:=plenty ws bonus) hi
 refine fW.mpr (fK.mpr (P2.step (t:=2*i+2) (h:=2*i+3) (d:=w.2.1) (r:=plenty ws bonus) (by lia) h0 (oT h5) (qG h5) (aHy h6).2.1 (xW h4) ⟨by rw[show(iA ws nd bonus).t (4*i+1+1)=_ from a1];simp,by rw[show(iA ws nd bonus).h (4*i+1+1)=_ from a2];simp,by rw[show(iA ws nd bonus).d (4*i+1+1)=_ from a3,el],by rw[show(iA ws nd bonus).c (4*i+1+1)=_ from a4]⟩ fun C3 P3=>?_))
 obtain⟨a1,a2,a3,a4⟩:=aJW (w:=gR ws) (es:=iM 0 nd) (P:=plenty ws bonus) hi
 refine fW.mpr (P3.step (t:=2*i+3) (h:=1) (d:=0) (r:=plenty ws bonus) (by lia) h0 (qG h5) rfl rfl (xW h4) ⟨by rw[show(iA ws nd bonus).t (4*i+1+1+1)=_ from a1];simp,by rw[show(iA ws nd bonus).h (4*i+1+1+1)=_ from a2];rfl,by rw[show(iA ws nd bonus).d (4*i+1+1+1)=_ from a3],by rw[show(iA ws nd bonus).c (4*i+1+1+1)=_ from a4]⟩ fun C4 P4=>q C4 ?_)
 rw[show 4*(i+1)=4*i+1+1+1+1 by lia];exact P4
theorem aFR{C:Sto}{b:Nat}{l:List Int}{τ:TSt}(hb:nd[b]?=some l)(hnn:∀a∈l,0<=a)(hsz:4*ws.length+(iM 0 nd).length<90000)(P:Pre (iA ws nd bonus) (4*ws.length+(iM 0 (nd.take b)).length) C0 pl C)
 (nu:τ.length=10)(h0:τ[0]?=some (some (.cell C0.length)))(h4:τ[4]?=some (some (.int (plenty ws bonus))))(h7:τ[7]?=some (some (.int b)))(h8:τ[8]?=some (some (iT l)))
 (q:∀ag C',(∀i,i<7->ag[i]?=τ[i]?)->ag.length=10->Pre (iA ws nd bonus) (4*ws.length+(iM 0 (nd.take (b+1))).length) C0 pl C'->QS .nx ag C'):wpS nW τ C QS:=by
 unfold nW
 refine lY.mpr (eY.mpr ⟨_,h8,l.map T.int,rfl,?_⟩)
 refine i9 (en:=T.int) (xs:=l) (fun j ag C'=>(∀i,i<9->ag[i]?=τ[i]?)/\ag.length=10/\Pre (iA ws nd bonus) (4*ws.length+(iM 0 (nd.take b)).length+j) C0 pl C') ⟨fun _ _=>rfl,nu,P⟩ ?_ ?_
 ·rintro j a ag C' hj ⟨e1,e2,P'⟩;have he:=aBL (s:=0) hb hj;rw[aOU]at he;have bf:(iM 0 (nd.take b)).length+j<(iM 0 nd).length:=(aQ.mp he).1;have ha:0<=a:=hnn a (bC hj);obtain⟨a1,a2,a3,a4⟩:=aJM (w:=gR ws) (n:=ws.length) (P:=plenty ws bonus) he
  refine f9.mpr ?_
  have g0:(ag.set 9 (some (T.int a)))[0]?=some (some (.cell C0.length)):=by rw[aR (by decide),e1 0 (by decide)];exact h0
  have g4:(ag.set 9 (some (T.int a)))[4]?=some (some (.int (plenty ws bonus))):=by rw[aR (by decide),e1 4 (by decide)];exact h4
  have g7:(ag.set 9 (some (T.int a)))[7]?=some (some (.int b)):=by rw[aR (by decide),e1 7 (by decide)];exact h7
  have g9:(ag.set 9 (some (T.int a)))[9]?=some (some (.int (a.toNat:Int))):=by rw[bN (by rw[e2];decide),bZ ha]
  unfold uU
  refine P'.step (t:=2*a.toNat+3) (h:=2*b+2) (d:=0) (r:=plenty ws bonus) (by lia) g0 (qG g9) (oT g7) rfl (xW g4) ?_ fun C2 P2=>⟨trivial,fun i hi=>?_,by simpa using e2,by rw[aPy]at P2;exact P2⟩
  ·rw[aPy]
   exact⟨by rw[show(iA ws nd bonus).t _=_ from a1];simp,by rw[show(iA ws nd bonus).h _=_ from a2];simp,by rw[show(iA ws nd bonus).d _=_ from a3],by rw[show(iA ws nd bonus).c _=_ from a4]⟩
  ·rw[aR (by lia)];exact e1 i hi
 ·rintro ag C' ⟨e1,e2,P'⟩
  refine q ag C' (fun i hi=>e1 i (by lia)) e2 ?_
  rw[aF4 hb,<-aPy];exact P'
end Lib
namespace Lib
open PySem L2 TL NF
theorem zE{ws:List (Int×Int×Int)}{ps:List (Int×Int)}{nd:List (List Int)}{bonus:Int}{C0:Sto}(hl:ws.length<=8)(hp:ps.length<=1000)(hw:InW ws.length ps)(hN:gQ [.int ws.length,.lst (ps.map pT)]=some (.lst (nd.map iT)))(gq:Nd ps ws.length nd){Q:T->Sto->Prop}
 (q:∀C',Pre (iA ws nd bonus) (iA ws nd bonus).m C0 (2*ws.length+2) C'->Q .non C'):wpO (lT [.cell C0.length,.lst (ws.map w3),.lst (ps.map pT),.int bonus] (C0++[(.o "Net" [],[])])) Q:=by
 have hsz:4*ws.length+(iM 0 nd).length<90000:=by
  have:=aCx (nd:=nd) (z:=1000) (fun l hl=>?_) (s:=0)
  ·rw[gq.1]at this;have h2:ws.length*1000<=8*1000:=aPQ _ hl
   lia
  ·obtain⟨b,hb⟩:=bQ.mp hl
   exact cB (gq.2 b l hb).1 hp
 refine iI ?_
 unfold aAd;walk_at "b"
 refine fK.mpr (mK ?_)
 try simp_arith[if_true]
 refine⟨by decide,?_⟩
 have f1:(C0++[(Kd.o "Net" [],[])]++[(Kd.l,[])])[C0.length]?=some (Kd.o "Net" [],[]):=by simp
 refine⟨_,lG f1 (by decide) rfl rfl,?_⟩
 have f2:(C0++[(Kd.o "Net" [],[])]++[(Kd.l,[])]).set C0.length (Kd.o "Net" ["pipes"],[T.cell (C0.length+1)])=C0++[(Kd.o "Net" ["pipes"],[T.cell (C0.length+1)]),(Kd.l,[])]:=by
  rw[cS,b8 _ _ (bF _),dE];rfl
 have f0:(C0++[(Kd.o "Net" [],([]:List T))]).length=C0.length+1:=by simp
 rw[f0];rw[show pn ("pipes":Str) []=[("pipes":Str)]from rfl,show TL.pv ("pipes":Str) (T.cell (C0.length+1)) [] []=[T.cell (C0.length+1)]from rfl,f2]
 refine mK ?_
 try simp_arith[if_true]
 refine⟨gM (by lia) (by lia),?_⟩
 have f3:(C0++[(Kd.o "Net" ["pipes"],[T.cell (C0.length+1)]),(Kd.l,[])])[C0.length]?=some (Kd.o "Net" ["pipes"],[T.cell (C0.length+1)]):=by simp
 refine⟨_,lG f3 (by decide) rfl rfl,?_⟩
 have f4:∀x:T,(C0++[(Kd.o "Net" ["pipes"],[T.cell (C0.length+1)]),(Kd.l,[])]).set C0.length (Kd.o "Net" (pn ("places":Str) ["pipes"]),TL.pv ("places":Str) x ["pipes"] [T.cell (C0.length+1)])=C0++[(Kd.o "Net" nnm,[T.cell (C0.length+1),x]),(Kd.l,[])]:=fun x=>by
  rw[b8 _ _ (bF _),dE];rfl
 rw[f4];try simp_arith[if_true]
 rw[aS]
 refine⟨by simp[lim];lia,?_⟩
 refine g8 (xs:=ws) (en:=w3) (fun w=>T.int w.2.2) (fun w _=>?_) ?_
 ·try simp_arith[if_true]
  exact⟨_,rfl,_,rfl,_,rfl,rfl⟩
 refine⟨_,oJ (f:=fun w:Int×Int×Int=>w.2.2),?_⟩
 have P0:Pre (iA ws nd bonus) (4*0) C0 (2*ws.length+2) (C0++[(Kd.o "Net" nnm,[T.cell (C0.length+1),T.int (2*ws.length+2)]),(Kd.l,[])]):=by
  refine⟨fun i hi=>aY hi,by simp,by simp,?_,fun o ho=>by lia⟩
  rw[bK (by lia),show C0.length+1 - C0.length=1 by lia];rfl
 refine aCm.mpr ?_
 try simp_arith[if_true]
 rw[aC1]
 refine i9 (xs:=ws.zipIdx) (fun i τ C=>τ.length=10/\τ[0]?=some (some (.cell C0.length))/\τ[1]?=some (some (.lst (ws.map w3)))/\τ[2]?=some (some (.lst (ps.map pT)))/\τ[4]?=some (some (.int (plenty ws bonus)))/\Pre (iA ws nd bonus) (4*i) C0 (2*ws.length+2) C) ⟨rfl,rfl,rfl,rfl,rfl,P0⟩ ?_ ?_
 ·rintro i ⟨w,k⟩ τ C hi ⟨t1,t2,t3,t4,t5,P⟩;rw[aPe]at hi;obtain⟨w',bv,e⟩:=aL.mp hi;cases e;rw[aOU]
  refine y9.mpr ⟨_,rfl,rfl,?_⟩
  show wpS nN ((τ.set 5 (some (T.int i))).set 6 (some (w3 w))) C _
  refine aIM bv hl P ?_ ?_ ?_ ?_ fun C' P'=>⟨?_,?_,?_,?_,?_,?_,P'⟩
  ·rw[aR (by decide),aR (by decide)];exact t2
  ·rw[aR (by decide),aR (by decide)];exact t5
  ·rw[aR (by decide),bN (by rw[t1];decide)]
  ·rw[bN (by rw[cM,t1];decide)]
  ·trivial
  ·simpa using t1
  ·rw[aR (by decide),aR (by decide)];exact t2
  ·rw[aR (by decide),aR (by decide)];exact t3
  ·rw[aR (by decide),aR (by decide)];exact t4
  ·rw[aR (by decide),aR (by decide)];exact t5
 ·rintro τ C ⟨t1,t2,t3,t4,t5,P⟩;rw[aPX]at P
  refine fW.mpr (aCm.mpr ?_)
  refine gC.mpr (e9.mpr ?_)
  refine gC.mpr (e9.mpr (eY.mpr ⟨_,t3,fJ.mpr ?_⟩))
  refine sZ.mpr ⟨_,rfl,e9.mpr (eY.mpr ⟨_,t4,fJ.mpr ?_⟩)⟩
  rw[aS]
  refine(fQ hN rfl (by walk_at "c";rw[mD];rfl)).mpr ⟨_,rfl,?_⟩
  rw[aC1]
  refine i9 (xs:=nd.zipIdx) (fun b τ C=>τ.length=10/\τ[0]?=some (some (.cell C0.length))/\τ[4]?=some (some (.int (plenty ws bonus)))/\Pre (iA ws nd bonus) (4*ws.length+(iM 0 (nd.take b)).length) C0 (2*ws.length+2) C) ⟨t1,t2,t5,P⟩ ?_ ?_
  ·rintro b ⟨l,k⟩ τ C hi ⟨t1,t2,t5,P⟩;rw[aPe]at hi;obtain⟨l',dq,e⟩:=aL.mp hi;cases e;rw[aOU]
   refine y9.mpr ⟨_,rfl,rfl,?_⟩
   show wpS nW ((τ.set 7 (some (T.int b))).set 8 (some (iT l))) C _
   refine aFR dq (fun a ha=>?_) hsz P (by simpa using t1) ?_ ?_ ?_ ?_ fun ag C' e1 e2 P'=>⟨trivial,e2,?_,?_,P'⟩
   ·exact(hw _ (((gq.2 b l dq).2 a).mp ha)).1.1
   ·rw[aR (by decide),aR (by decide)];exact t2
   ·rw[aR (by decide),aR (by decide)];exact t5
   ·rw[aR (by decide),bN (by rw[t1];decide)]
   ·rw[bN (by rw[cM,t1];decide)]
   ·rw[e1 0 (by decide),aR (by decide),aR (by decide)];exact t2
   ·rw[e1 4 (by decide),aR (by decide),aR (by decide)];exact t5
  ·rintro τ C ⟨t1,t2,t5,P⟩;rw[aPX,cY]at P
   exact q C P
end Lib
namespace Lib
open PySem L2 TL NF
variable{N:Nt}{pl:Int}{c:Nat}{C':Sto}{o:Nat×Bool}{Q:T->Sto->Prop}
structure hZ(N:Nt)(f:Nat->Int)(c:Nat)(pl:Int)(C:Sto):Prop where
 net:C[c]?=some (.o "Net" nnm,[.cell (c+1),.int pl])
 lst:C[c+1]?=some (.l,(bI N.m).map fun j=>.cell (pc c (j,true)))
 pip:∀o:Nat×Bool,o.1<N.m->C[pc c o]?=some (pcell N f c o)
theorem Pre.at{C0 C:Sto}(P:Pre N N.m C0 pl C):hZ N (fun _=>0) C0.length pl C:=⟨P.net,P.lst,P.pip⟩
theorem hZ.mono{f:Nat->Int}{C:Sto}(A:hZ N f c pl C)(h:∀i,c<=i->i<c+2+2*N.m->C'[i]?=C[i]?):hZ N f c pl C':=
 ⟨by rw[h c (by lia) (by lia)];exact A.net,by rw[h (c+1) (by lia) (by lia)];exact A.lst,fun o ho=>by rw[h _ (by unfold pc;lia) (by unfold pc;split<;>lia)];exact A.pip o ho⟩
theorem hZ.app{f:Nat->Int}{C G:Sto}(A:hZ N f c pl C)(hc:c+2+2*N.m<=C.length):hZ N f c pl (C++G):=A.mono fun i _ h=>aY (by lia)
theorem hZ.len{f:Nat->Int}{C:Sto}(A:hZ N f c pl C):c+2+2*N.m<=C.length:=by
 by_cases h:N.m=0
 ·have:=j9 A.lst;lia
 ·have:=j9 (A.pip (N.m - 1,false) (by show N.m - 1<N.m;lia));rw[aNC]at this;lia
theorem hZ.fld{f:Nat->Int}{C:Sto}(A:hZ N f c pl C)(ho:o.1<N.m):nY "Pipe" "tail" C (.cell (pc c o))=some (.int (rt N o))/\nY "Pipe" "head" C (.cell (pc c o))=some (.int (rh N o))/\
 nY "Pipe" "hours" C (.cell (pc c o))=some (.int (rd N o))/\nY "Pipe" "room" C (.cell (pc c o))=some (.int (rr N f o))/\nY "Pipe" "back" C (.cell (pc c o))=some (.cell (pc c (o.1,!o.2))):=
 ⟨kP (A.pip o ho) rfl,kP (A.pip o ho) rfl,kP (A.pip o ho) rfl,kP (A.pip o ho) rfl,kP (A.pip o ho) rfl⟩
noncomputable def both(N:Nt):List (Nat×Bool):=(bI N.m).map (fun k=>(k,true))++(bI N.m).map fun k=>(k,false)
def opn(N:Nt)(f:Nat->Int):List (Nat×Bool):=(both N).filter fun o=>decide (0<rr N f o)
theorem aEG:o∈both N↔o.1<N.m:=by
 obtain⟨k,b⟩:=o;unfold both;cases b<;>simp
theorem oW{f:Nat->Int}:o∈opn N f↔Open N f o:=by
 unfold opn Open;rw[dB,aEG,decide_eq_true_iff]
theorem f8{f:FE}{τ:TSt}{C:Sto}{t:T}(e:f τ C=some (t,C'))(q:Q t C'):wpE f τ C Q:=⟨t,C',e,q⟩
theorem iS{cls:String}{f:Str}{τ:TSt}{C:Sto}{k:Nat}{t u:T}(h:τ[k]?=some (some t))(e:nY cls f C t=some u):kL cls f (jF k) τ C=some (u,C):=by
 have:wpE (kL cls f (jF k)) τ C fun x C'=>x=u/\C'=C:=wD.mpr (eY.mpr ⟨_,h,_,e,rfl,rfl⟩)
 obtain⟨_,_,e',rfl,rfl⟩:=this
 exact e'
theorem q8{f:Nat->Int}{C:Sto}(A:hZ N f c pl C)(hm:N.m<40000)(q:Q (.lst ((opn N f).map fun o=>.cell (pc c o))) C):wpO (jD [.cell c] C) Q:=by
 have hf:nY "Net" "pipes" C (.cell c)=some (.cell (c+1)):=kP A.net rfl;have hl:lc C (c+1)=some ((bI N.m).map fun j=>.cell (pc c (j,true))):=fY.mpr A.lst
 refine iI ?_
 unfold n6;walk_at "b"
 refine fK.mpr (f6.mpr (gE.mpr (sT.mpr ?_)))
 refine f8 (iS rfl hf) (gE.mpr (kY.mpr (f8 (iS rfl hf) ⟨_,hl,by simp[lim];lia,?_⟩)))
 refine g8 (xs:=bI N.m) (en:=fun j=>T.cell (pc c (j,true))) (fun j=>T.cell (pc c (j,false))) (fun j hj=>?_) ?_
 ·refine f9.mpr (f8 (iS (t:=.cell (pc c (j,true))) rfl (A.fld (o:=(j,true)) (cT.mp hj)).2.2.2.2) ⟨rfl,rfl⟩)
 refine wH.mpr ⟨_,hl,_,rfl,by simp[lim];lia,?_⟩
 refine f9.mpr (fW.mpr (iF.mpr (gE.mpr (kY.mpr (eY.mpr ⟨_,rfl,_,rfl,by simp[lim];lia,?_⟩)))))
 have eb:((bI N.m).map (fun j=>T.cell (pc c (j,true)))++(bI N.m).map fun j=>T.cell (pc c (j,false)))=(both N).map fun o=>T.cell (pc c o):=by
  unfold both;rw[bP,cC,cC];rfl
 rw[eb]
 refine tE (xs:=both N) (en:=fun o=>T.cell (pc c o)) (fun o=>decide (0<rr N f o)) (fun o=>T.cell (pc c o)) (fun o ho=>?_) q
 have hr:=(A.fld (aEG.mp ho)).2.2.2.1
 refine f9.mpr (gT.mpr (fL.mpr (f8 (iS (t:=.cell (pc c o)) rfl hr) (gG.mpr (jS.mpr ⟨_,rfl,rfl,?_,fun _=>eY.mpr ⟨_,rfl,rfl,rfl⟩⟩)))))
 rfl
end Lib
namespace TL
open PySem L2
theorem uQ{τ:TSt}{C:Sto}{c:FB}{F:FS}{Q:Fl->TSt->Sto->Prop}(J:Nat->TSt->Sto->Prop){n m:Nat}(hm:m<n)(h0:J m τ C)
 (hs:∀m τ C,J m τ C->wpB c τ C fun b C1=>if b=true then wpS F τ C1 (fun l ap C2=>match l with
  | .nx=>∃m',m'<m/\J m' ap C2
  | .ct=>∃m',m'<m/\J m' ap C2
  | .bk=>Q .nx ap C2
  | .rt v=>Q (.rt v) ap C2
  | .ex v=>Q (.ex v) ap C2)else Q .nx τ C1):wpS (lD c F n) τ C Q:=by
 induction n generalizing m τ C with
 |zero=>lia
 |succ d ih=>
  obtain⟨b,C1,e1,h⟩:=hs m τ C h0;cases b with
  |false=>
   rw[if_neg (by simp)]at h
   exact⟨.nx,τ,C1,by unfold lD;rw[e1];rfl,h⟩
  |true=>
   rw[if_pos rfl]at h;obtain⟨l,ap,C2,e2,h⟩:=h;cases l with
   |nx=>
    obtain⟨m',h1,h2⟩:=h;obtain⟨l,ag,C',e,q⟩:=ih (m:=m') (by lia) h2
    exact⟨l,ag,C',by unfold lD;rw[e1,aU,if_pos rfl,e2,aU];exact e,q⟩
   |ct=>
    obtain⟨m',h1,h2⟩:=h;obtain⟨l,ag,C',e,q⟩:=ih (m:=m') (by lia) h2
    exact⟨l,ag,C',by unfold lD;rw[e1,aU,if_pos rfl,e2,aU];exact e,q⟩
   |bk=>exact⟨.nx,ap,C2,by unfold lD;rw[e1,aU,if_pos rfl,e2];rfl,h⟩
   |rt v=>exact⟨.rt v,ap,C2,by unfold lD;rw[e1,aU,if_pos rfl,e2];rfl,h⟩
   |ex v=>exact⟨.ex v,ap,C2,by unfold lD;rw[e1,aU,if_pos rfl,e2];rfl,h⟩
end TL
namespace Lib
open PySem L2 TL NF
variable{N:Nt}{c mq:Nat}{pl:Int}
noncomputable def kO(n:Nat)(x:Nat->Int):List T:=(bI n).map fun v=>T.int (x v)
theorem sO{n:Nat}{x:Nat->Int}:(kO n x).length=n:=by simp[kO]
theorem sI{n:Nat}{x:Nat->Int}{v:Nat}(h:v<n):(kO n x)[v]?=some (.int (x v)):=by simp[kO,h]
theorem aAV{n:Nat}{x:Nat->Int}{v:Nat}(h:v<n):atI (kO n x) (v:Int)=some (.int (x v)):=aE4 (sI h)
theorem aEU{n:Nat}{x:Nat->Int}{v:Nat}(h:v<n):ixN (kO n x).length (v:Int)=some v:=by
 unfold ixN;rw[sO];simp[h]
theorem aB3{n:Nat}{x:Nat->Int}{v:Nat}{y:Int}:(kO n x).set v (.int y)=kO n (up x v y):=by
 apply aP2;intro i;by_cases hi:i<n
 ·by_cases hv:v=i
  ·subst hv;rw[bN (by rw[sO];exact hi),sI hi,jM]
  ·rw[aR hv,sI hi,sI hi,sA (Ne.symm hv)]
 ·rw[dA (by rw[cM,sO];lia),dA (by rw[sO];lia)]
theorem hZ.mom{f:Nat->Int}{C:Sto}(A:hZ N f c pl C)(h:mq<c\/c+2+2*N.m<=mq)(y:Cl):hZ N f c pl (C.set mq y):=A.mono fun i h1 h2=>aR (by lia)
theorem aA4{f:FE}{τ:TSt}{C:Sto}{t:T}(h:wpE f τ C fun t' C'=>t'=t/\C'=C):f τ C=some (t,C):=by
 obtain⟨_,_,e,rfl,rfl⟩:=h
 exact e
theorem aA5{τ:TSt}{C:Sto}{a k n v:Nat}{x:Nat->Int}{p:T}{fl:Str}(h0:τ[a]?=some (some (.cell mq)))(h3:τ[k]?=some (some p))(hl:lc C mq=some (kO n x))(hf:nY "Pipe" fl C p=some (.int v))(hv:v<n):
 fIx (jF a) (kL "Pipe" fl (jF k)) τ C=some (.int (x v),C):=
 aA4 (fL.mpr (eY.mpr ⟨_,h0,f8 (iS h3 hf) (jG.mpr ⟨_,hl,_,aAV hv,rfl,rfl⟩)⟩))
theorem aIC{f:Nat->Int}{n:Nat}{C:Sto}{x:Nat->Int}{os:List (Nat×Bool)}(A:hZ N f c pl C)(hi:In N n)(om:mq<c\/c+2+2*N.m<=mq)(e:C[mq]?=some (.l,kO n x))(ho:∀o∈os,Open N f o){Q:T->Sto->Prop}
 (q:∀r x',(∀s0,Ris N n f s0 x->Ris N n f s0 x')->(r=false->x'=x/\∀o∈os,x (rt N o)+rd N o<=x (rh N o))->(r=true->sm n x<sm n x')->Q (.bl r) (C.set mq (.l,kO n x'))):
 wpO (kZ [.cell mq,.lst (os.map fun o=>.cell (pc c o))] C) Q:=by
 have bf:=j9 e
 refine iI ?_
 unfold pA;walk_at "b";simp_arith[if_true]
 refine i9 (xs:=os) (en:=fun o=>T.cell (pc c o)) (fun j τ C'=>∃x' r a b,τ=[some (.cell mq),some (.lst (os.map fun o=>.cell (pc c o))),some (.bl r),a,b]/\C'=C.set mq (.l,kO n x')/\(∀s0,Ris N n f s0 x->Ris N n f s0 x')/\
  (r=false->x'=x/\∀o∈os.take j,x (rt N o)+rd N o<=x (rh N o))/\(r=true->sm n x<sm n x')/\sm n x<=sm n x') ?_ ?_ ?_
 ·refine⟨x,false,_,_,rfl,?_,fun s0 h=>h,fun _=>⟨rfl,by simp⟩,(fun h=>by cases h),bR _⟩
  obtain⟨h1,h2⟩:=aQ.mp e;rw[<-h2,eQ]
 ·rintro j o τ C' hj ⟨x',r,a,b,rfl,rfl,h1,h2,h3,h4⟩;have bp:=ho o (bC hj);have hk:rt N o<n/\rh N o<n:=by
   obtain⟨k,d⟩:=o;have:=hi k bp.1;unfold rt rh;cases d<;>simp<;>lia
  have A':=A.mom om (.l,kO n x');obtain⟨f1,f2,f3,f4,f5⟩:=A'.fld bp.1;have gi:lc (C.set mq (.l,kO n x')) mq=some (kO n x'):=fY.mpr (mF bf);have tk:∀P:Nat×Bool->Prop,(∀o∈os.take j,P o)->P o->∀o∈os.take (j+1),P o:=fun P ha hb z hz=>by
   rw[aO7,hj]at hz;rcases bM.mp hz with hz|hz
   ·exact ha z hz
   ·have:z=o:=by simpa using hz
    rw[this];exact hb
  unfold nP
  refine f9.mpr (fK.mpr (f6.mpr (fL.mpr ?_)))
  refine f8 (aA5 (k:=3) (p:=.cell (pc c o)) rfl rfl gi f1 hk.1) ?_
  refine f8 (iS rfl f3) (jS.mpr (f9.mpr (fW.mpr (lO.mpr (gT.mpr (fL.mpr ?_))))))
  refine eY.mpr ⟨_,rfl,?_⟩
  refine f8 (aA5 (k:=3) (p:=.cell (pc c o)) rfl rfl gi f2 hk.2) (jS.mpr ⟨_,rfl,?_⟩)
  by_cases hr:x' (rh N o)<x' (rt N o)+rd N o
  ·rw[if_pos (decide_eq_true hr)]
   refine fK.mpr (yR.mpr (eY.mpr ⟨_,rfl,eY.mpr ⟨_,rfl,f8 (iS rfl f2) ⟨_,_,rfl,rfl,_,gi,_,aEU hk.2,?_⟩⟩⟩))
   refine fW.mpr (f6.mpr (gG.mpr (f9.mpr ⟨trivial,_,true,_,_,rfl,?_,fun s0 h=>(h1 s0 h).raise bp hk.1 hr,(fun z=>by cases z),fun _=>?_,?_⟩)))
   ·rw[aB3,eI]
   ·have:=z7 (N:=N) (x:=x') (o:=o) hk.2 hr;lia
   ·have:=z7 (N:=N) (x:=x') (o:=o) hk.2 hr;lia
  ·rw[if_neg (by rw[decide_eq_false hr];simp)]
   refine iD.mpr ⟨trivial,x',r,_,_,rfl,rfl,h1,fun z=>⟨(h2 z).1,tk _ (h2 z).2 ?_⟩,h3,h4⟩
   have:=(h2 z).1;subst this
   lia
 ·rintro τ C' ⟨x',r,a,b,rfl,rfl,h1,h2,h3,h4⟩;rw[cY]at h2;simp_arith[if_true]
  exact q r x' h1 h2 h3
end Lib
namespace Lib
open PySem L2 TL NF
noncomputable def st1(e:Int)(v:Nat):Int:=if v=1 then e else 0
theorem aDT{N:Nt}{f:Nat->Int}{c n:Nat}{C:Sto}{e:Int}(A:hZ N f c n C)(hm:N.m<40000)(hi:In N n)(hn:1<n)(yh:n<50000){y:Nat->Int}(hy:∀v,v<n->st1 e v<=y v)(hp:Pot N f y)(hb:sm n y - sm n (st1 e)<10^199){Q:T->Sto->Prop}
 (q:∀p,Least N n f (st1 e) p->Q (.cell C.length) (C++[(.l,kO n p)])):wpO (jB [.cell c,.int e] C) Q:=by
 have ai:=A.len;have hf:nY "Net" "places" C (.cell c)=some (.int n):=kP A.net rfl
 refine iI ?_
 unfold qW;walk_at "b"
 refine fK.mpr (f6.mpr (jK.mpr (rL.mpr (f8 (iS rfl hf) ⟨_,rfl,⟨by lia,by lia⟩,?_⟩))))
 rw[pU,c9]
 refine g8 (xs:=bI n) (fun _=>T.int 0) (fun j _=>f9.mpr (gG.mpr ⟨rfl,rfl⟩)) ?_
 have e0:(bI n).map (fun _=>T.int 0)=kO n fun _=>0:=rfl
 rw[e0];have yn:lc (C++[(Kd.l,kO n fun _=>0)]) C.length=some (kO n fun _=>0):=fY.mpr (by simp)
 refine f9.mpr (fW.mpr (fK.mpr (yR.mpr (eY.mpr ⟨_,rfl,eY.mpr ⟨_,rfl,gG.mpr ⟨_,_,rfl,rfl,_,yn,_,aEU (v:=1) hn,?_⟩⟩⟩))))
 have e1:(C++[(Kd.l,kO n fun _=>0)]).set C.length (Kd.l,(kO n fun _=>0).set 1 (.int e))=C++[(Kd.l,kO n (st1 e))]:=by
  rw[b8 _ _ (bF _),dE,aB3];rfl
 rw[e1];have A1:hZ N f c n (C++[(Kd.l,kO n (st1 e))]):=A.app ai
 refine fW.mpr (fK.mpr (f6.mpr (kF (eY.mpr ⟨_,rfl,lI A1.net rfl,fJ.mpr ⟨rfl,q8 A1 hm ?_⟩⟩))))
 refine f9.mpr (fW.mpr (fK.mpr ?_))
 refine uQ (fun m τ C'=>∃x,τ=[some (.cell c),some (.int e),some (.cell C.length),some (.lst ((opn N f).map fun o=>.cell (pc c o)))]/\C'=C++[(Kd.l,kO n x)]/\Ris N n f (st1 e) x/\sm n y - sm n x<=(m:Int)) (m:=(sm n y - sm n (st1 e)).toNat) (by
  have:(sm n y - sm n (st1 e)).toNat<10^199:=by lia
  exact bO this (dZ (by decide) (by decide))) ⟨st1 e,rfl,rfl,Ris.start,by lia⟩ ?_
 rintro m τ C' ⟨x,rfl,rfl,hR,vm⟩;have A2:hZ N f c n (C++[(Kd.l,kO n x)]):=A.app ai
 refine lZ.mpr (jH.mpr (e9.mpr (eY.mpr ⟨_,rfl,e9.mpr (eY.mpr ⟨_,rfl,fJ.mpr ⟨rfl,?_⟩⟩)⟩)))
 refine aIC (x:=x) A2 hi (.inr ai) (by simp) (fun o ho=>oW.mp ho) fun r x' h1 h2 h3=>⟨r,rfl,?_⟩
 have e2:(C++[(Kd.l,kO n x)]).set C.length (Kd.l,kO n x')=C++[(Kd.l,kO n x')]:=by
  rw[b8 _ _ (bF _),dE];rfl
 rw[e2];cases r with
 |true=>
  rw[if_pos rfl];have s1:=h3 rfl;have s2:=(h1 _ hR).sum_le hy hp
  refine iD.mpr ⟨(sm n y - sm n x').toNat,by lia,x',rfl,rfl,h1 _ hR,by lia⟩
 |false=>
  rw[if_neg (by simp)];obtain⟨rfl,h5⟩:=h2 rfl
  exact fW.mpr (iF.mpr (eY.mpr ⟨_,rfl,q _ (hR.done fun o ho=>h5 o (oW.mpr ho))⟩))
end Lib
namespace Lib
open PySem L2 TL NF
section
variable {α β κ:Type}[DecidableEq α][DecidableEq κ]{kf:α->κ}{vf:β->T}
variable{p:α×β}{rs:List (α×β)}{b:β}
noncomputable def lk(rs:List (α×β))(a:α):Option β:=(rs.find? fun p=>decide (p.1=a)).map (·.2)
noncomputable def mI(rs:List (α×β))(a:α)(b:β):List (α×β):=if a∈rs.map (·.1)then rs.map (fun p=>if p.1=a then(p.1,b)else p)else rs++[(a,b)]
theorem aLO{a:α}:lk ([]:List (α×β)) a=none:=rfl
theorem mU{a:α}:lk (p::rs) a=if p.1=a then some p.2 else lk rs a:=by
 unfold lk;rw[dC];by_cases h:p.1=a
 ·rw[if_pos h,decide_eq_true h];rfl
 ·rw[if_neg h,decide_eq_false h]
theorem aA0{a:α}{b:β}:∀{rs:List (α×β)},lk rs a=some b->(a,b)∈rs
 | [],h=>by cases h
 |p::rs,h=>by
  rw[mU]at h;split at h
  ·rename_i e;cases h;subst e;exact bJ
  ·exact aZ _ (aA0 h)
theorem oY{a:α}:∀{rs:List (α×β)},(lk rs a).isSome=true↔a∈rs.map (·.1)
 | []=>by simp[aLO]
 |p::rs=>by
  rw[mU,aM,bE];by_cases h:p.1=a
  ·rw[if_pos h];simp[h]
  ·rw[if_neg h,oY];constructor
   ·exact .inr
   ·rintro(z|z)
    ·exact absurd z.symm h
    ·exact z
theorem aDE(inj:∀a b,kf a=kf b->a=b){a:α}:∀{rs:List (α×β)},vl ((rs.map fun p=>kf p.1).zip (rs.map fun p=>vf p.2)) (kf a)=(lk rs a).map vf
 | []=>rfl
 |p::rs=>by
  rw[aM,aM,cD,mU];unfold vl;rw[dC];by_cases h:p.1=a
  ·rw[if_pos h,show decide ((kf p.1,vf p.2).1=kf a)=true from decide_eq_true (by rw[h])];rfl
  ·rw[if_neg h,show decide ((kf p.1,vf p.2).1=kf a)=false from decide_eq_false (fun z=>h (inj _ _ z))]
   exact aDE inj
theorem aA7(inj:∀a b,kf a=kf b->a=b){a:α}:kf a∈(rs.map fun p=>kf p.1)↔a∈rs.map (·.1):=by
 constructor
 ·intro h;obtain⟨p,hp,e⟩:=bL.mp h
  exact bL.mpr ⟨p,hp,inj _ _ e⟩
 ·intro h;obtain⟨p,hp,e⟩:=bL.mp h
  exact bL.mpr ⟨p,hp,by rw[e]⟩
theorem aAZ(inj:∀a b,kf a=kf b->a=b){a:α}:pkK (kf a) (rs.map fun p=>kf p.1)=((mI rs a b).map fun p=>kf p.1)/\pvK (kf a) (vf b) (rs.map fun p=>kf p.1) (rs.map fun p=>vf p.2)=(mI rs a b).map fun p=>vf p.2:=by
 unfold pkK pvK mI;by_cases h:a∈rs.map (·.1)
 ·rw[if_pos ((aA7 inj).mpr h),if_pos ((aA7 inj).mpr h),if_pos h];have hz:∀rs:List (α×β),(rs.map fun p=>kf p.1).zip (rs.map fun p=>vf p.2)=rs.map fun p=>(kf p.1,vf p.2):=fun rs=>by rw[List.zip_map']
  constructor
  ·rw[cC];apply cL;intro p _;simp only[d3];split<;>rfl
  ·rw[hz,cC,cC];apply cL;intro p _;simp only[d3];by_cases e:p.1=a
   ·rw[if_pos e,if_pos (by rw[e])]
   ·rw[if_neg e,if_neg (fun z=>e (inj _ _ z))]
 ·rw[if_neg (fun z=>h ((aA7 inj).mp z)),if_neg (fun z=>h ((aA7 inj).mp z)),if_neg h,bP,bP]
  exact⟨rfl,rfl⟩
theorem aAz{a:α}:(mI rs a b).map (·.1)=if a∈rs.map (·.1)then rs.map (·.1)else rs.map (·.1)++[a]:=by
 unfold mI;split
 ·rw[cC];apply cL;intro p _;simp only[d3];split<;>rfl
 ·rw[bP];rfl
theorem aLa{a:α}(h:(rs.map (·.1)).Nodup):((mI rs a b).map (·.1)).Nodup:=by
 rw[aAz];split
 ·exact h
 ·rename_i hn
  refine dO.mpr ⟨h,by simp,fun x hx y hy=>?_⟩
  rw[bS.mp hy];rintro rfl;exact hn hx
theorem aGD{a:α}(h:p∈mI rs a b):p=(a,b)\/p∈rs:=by
 unfold mI at h;split at h
 ·obtain⟨q,hq,e⟩:=bL.mp h;split at e
  ·rename_i z;rw[<-e,z];exact .inl rfl
  ·rw[<-e];exact .inr hq
 ·rcases bM.mp h with h|h
  ·exact .inr h
  ·exact .inl (bS.mp h)
theorem yO{a x:α}:x∈(mI rs a b).map (·.1)↔x=a\/x∈rs.map (·.1):=by
 rw[aAz];split
 ·rename_i h;constructor
  ·exact .inr
  ·rintro(z|z)
   ·rw[z];exact h
   ·exact z
 ·rw[bM,bS,or_comm]
end
variable{c d:Nat}{rs:List (Nat×List (Nat×Bool))}
theorem aES{α β:Type}[DecidableEq α]{kf:α->Key}{vf:β->T}(inj:∀a b,kf a=kf b->a=b):∀{fs rs:List (α×β)},(fs.map (·.1)).Nodup->(∀a∈fs.map (·.1),a∉rs.map (·.1))->
 mrgK (fs.map fun p=>kf p.1) (fs.map fun p=>vf p.2) ((rs.map fun p=>kf p.1),(rs.map fun p=>vf p.2))=(((rs++fs).map fun p=>kf p.1),((rs++fs).map fun p=>vf p.2))
 | [],rs,_,_=>by simp[mrgK]
 |p::fs,rs,hn,hd=>by
  rw[aM,bV]at hn;rw[aM,aM];unfold mrgK;dsimp only;obtain⟨e1,e2⟩:=aAZ (vf:=vf) inj (a:=p.1) (b:=p.2) (rs:=rs);have hp:p.1∉rs.map (·.1):=hd _ (by simp);rw[e1,e2];have e3:mI rs p.1 p.2=rs++[p]:=by unfold mI;rw[if_neg hp]
  rw[e3,aES inj hn.2 (fun a ha=>?_),cS]
  ·rfl
  ·rw[bP,bM,aM,bB,bS];rintro(z|z)
   ·exact hd a (by rw[aM];exact aZ _ ha) z
   ·rw[z]at ha;exact hn.1 ha
noncomputable def kyN(v:Nat):Key:=.inl (v:Int)
theorem tK(a b:Nat)(h:kyN a=kyN b):a=b:=by
 have:(a:Int)=b:=Sum.inl.inj h
 lia
def rtT(c:Nat)(r:List (Nat×Bool)):T:=.lst (r.map fun o=>.cell (pc c o))
def mM(c:Nat)(rs:List (Nat×List (Nat×Bool))):Cl:=(.dk (rs.map fun p=>kyN p.1),rs.map fun p=>rtT c p.2)
theorem v5{C:Sto}{v:Nat}(e:C[d]?=some (mM c rs)):dval C (.cell d) (.int v)=some ((lk rs v).map (rtT c)):=by
 unfold dval;rw[tU e];show some (vl _ (kyN v))=_;rw[aDE tK]
theorem aLj{C:Sto}{v:Nat}{r:List (Nat×Bool)}(e:C[d]?=some (mM c rs))(hl:rs.length<lim):dput C (.cell d) (.int v) (rtT c r)=some (C.set d (mM c (mI rs v r))):=by
 unfold dput;rw[tU e];show(if _ then some (C.set d (.dk (pkK (kyN v) _),pvK (kyN v) _ _ _))else none)=_;rw[if_pos (by simpa using hl)];obtain⟨e1,e2⟩:=aAZ (vf:=rtT c) tK (a:=v) (b:=r) (rs:=rs);rw[e1,e2];rfl
end Lib
namespace Lib
open PySem L2 TL NF
theorem aG3{α β:Type}[DecidableEq α]{rs:List (α×β)}{a:α}{b:β}:(mI rs a b).length<=rs.length+1:=by
 unfold mI;split
 ·simp
 ·simp
theorem y4{N:Nt}{f:Nat->Int}{c d:Nat}{pl:Int}{C:Sto}{rs:List (Nat×List (Nat×Bool))}{ts:List (Nat×Bool)}(A:hZ N f c pl C)(e:C[d]?=some (mM c rs))(ht:∀o∈ts,o.1<N.m)(hl:ts.length<90000)(hr:∀p∈rs,p.2.length<=1000){Q:T->Sto->Prop}
 (q:∀fs:List (Nat×List (Nat×Bool)),(fs.map (·.1)).Nodup->(∀a∈fs.map (·.1),a∉rs.map (·.1))->(∀p∈fs,∃o∈ts,∃r0,(rt N o,r0)∈rs/\p=(rh N o,r0++[o]))->(∀o∈ts,rt N o∈rs.map (·.1)->rh N o∉rs.map (·.1)->rh N o∈fs.map (·.1))->Q (.cell C.length) (C++[mM c fs])):
 wpO (l5 [.cell d,.lst (ts.map fun o=>.cell (pc c o))] C) Q:=by
 have ai:=A.len;have hd:=j9 e
 refine iI ?_
 unfold qU;walk_at "b"
 refine fK.mpr (f6.mpr (aC2.mpr (f9.mpr (fW.mpr (fK.mpr (lY.mpr (eY.mpr ⟨_,rfl,_,rfl,?_⟩)))))))
 refine i9 (xs:=ts) (en:=fun o=>T.cell (pc c o)) (fun j τ C'=>∃fs a,τ=[some (.cell d),some (.lst (ts.map fun o=>.cell (pc c o))),some (.cell C.length),a]/\C'=C++[mM c fs]/\fs.length<=j/\(fs.map (·.1)).Nodup/\(∀a∈fs.map (·.1),a∉rs.map (·.1))/\
  (∀p∈fs,∃o∈ts,∃r0,(rt N o,r0)∈rs/\p=(rh N o,r0++[o]))/\∀o∈ts.take j,rt N o∈rs.map (·.1)->rh N o∉rs.map (·.1)->rh N o∈fs.map (·.1)) ?_ ?_ ?_
 ·exact⟨[],_,rfl,rfl,bF _,by simp,by simp,by simp,by simp⟩
 ·rintro j o τ C' hj ⟨fs,a,rfl,rfl,h1,h2,h3,h4,h5⟩;have hot:=bC hj;have hjl:j<ts.length:=(aQ.mp hj).1;have A':hZ N f c pl (C++[mM c fs]):=A.app ai;obtain⟨f1,f2,f3,f4,f5⟩:=A'.fld (ht o hot);have e':(C++[mM c fs])[d]?=some (mM c rs):=by rw[aY hd];exact e
  have eF:(C++[mM c fs])[C.length]?=some (mM c fs):=by simp
  have v1:=v5 (v:=rt N o) e';have v2:=v5 (v:=rh N o) e';have tk:∀P:Nat×Bool->Prop,(∀o∈ts.take j,P o)->P o->∀o∈ts.take (j+1),P o:=fun P ha hb z hz=>by
   rw[aO7,hj]at hz;rcases bM.mp hz with hz|hz
   ·exact ha z hz
   ·have:z=o:=by simpa using hz
    rw[this];exact hb
  unfold o5
  refine f9.mpr (lO.mpr (aBx.mpr (gT.mpr (fL.mpr ?_))))
  refine f8 (iS (t:=.cell (pc c o)) rfl f1) (eY.mpr ⟨_,rfl,aBk.mpr ⟨_,v1,_,rfl,?_⟩⟩)
  cases l1:lk rs (rt N o)with
  |none=>
   rw[if_neg (by simp),if_neg (by simp)]
   refine iD.mpr ⟨trivial,fs,_,rfl,rfl,by lia,h2,h3,h4,tk _ h5 fun z=>?_⟩
   have:=oY.mpr z;rw[l1]at this;cases this
  |some r0=>
   rw[if_pos (by simp)]
   refine gT.mpr (fL.mpr ?_)
   refine f8 (iS (t:=.cell (pc c o)) rfl f2) (eY.mpr ⟨_,rfl,aBk.mpr ⟨_,v2,_,rfl,?_⟩⟩)
   cases l2:lk rs (rh N o)with
   |some r1=>
    rw[if_neg (by simp)]
    refine iD.mpr ⟨trivial,fs,_,rfl,rfl,by lia,h2,h3,h4,tk _ h5 fun _ z=>?_⟩
    exact absurd (oY.mp (by rw[l2];rfl)) z
   |none=>
    rw[if_pos (by simp)];have hn:rh N o∉rs.map (·.1):=fun z=>by
     have:=oY.mpr z;rw[l2]at this;cases this
    have gh:r0.length<=1000:=hr _ (aA0 l1)
    refine aCN (gE.mpr (sT.mpr (fL.mpr (eY.mpr ⟨_,rfl,?_⟩))))
    refine f8 (iS (t:=.cell (pc c o)) rfl f1) (sW.mpr ⟨rtT c r0,by rw[v1,l1];rfl,?_⟩)
    refine gE.mpr (hJ.mpr (e9.mpr (eY.mpr ⟨_,rfl,fJ.mpr ⟨by simp[lim],?_⟩⟩)))
    refine wH.mpr ⟨_,rfl,_,rfl,by simp[lim];lia,eY.mpr ⟨_,rfl,?_⟩⟩
    refine f8 (iS (t:=.cell (pc c o)) rfl f2) ?_
    have er:(.lst ((r0.map fun o=>T.cell (pc c o))++[T.cell (pc c o)]):T)=rtT c (r0++[o]):=by unfold rtT;rw[bP];rfl
    refine⟨_,by rw[er];exact aLj eF (by simp[lim];lia),trivial,mI fs (rh N o) (r0++[o]),_,rfl,?_,?_,aLa h2,?_,?_,?_⟩
    ·rw[b8 _ _ (bF _),dE];rfl
    ·exact cB aG3 (by lia)
    ·intro a ha;rcases yO.mp ha with rfl|ha
     ·exact hn
     ·exact h3 a ha
    ·intro p hp;rcases aGD hp with rfl|hp
     ·exact⟨o,hot,r0,aA0 l1,rfl⟩
     ·exact h4 p hp
    ·exact tk _ (fun z hz z1 z2=>yO.mpr (.inr (h5 z hz z1 z2))) fun _ _=>yO.mpr (.inl rfl)
 ·rintro τ C' ⟨fs,a,rfl,rfl,h1,h2,h3,h4,h5⟩;rw[cY]at h5
  exact fW.mpr (iF.mpr (eY.mpr ⟨_,rfl,q fs h2 h3 h4 h5⟩))
end Lib
namespace Lib
open PySem L2 TL NF
variable{Q:T->Sto->Prop}{N:Nt}{p:Nat->Int}
theorem aFu{τ:TSt}{C:Sto}{fo fv:FE}{c1:Nat}(h:wpE fo τ C fun td C1=>td=.cell c1/\isDc C1 td=true/\wpE fv τ C1 fun te C2=>∃c2 ks ks' ts cg,te=.cell c2/\C2[c1]?=some (.dk ks,ts)/\C2[c2]?=some (.dk ks',cg)/\c1≠c2/\ks.length+ks'.length<=lim/\
 Q .non (C2.set c1 (.dk (mrgK ks' cg (ks,ts)).1,(mrgK ks' cg (ks,ts)).2))):wpE (zD fo fv) τ C Q:=by
 obtain⟨td,C1,e1,rfl,hd,te,C2,e2,c2,ks,ks',ts,cg,rfl,e3,e4,hn,hl,q⟩:=h
 exact aHW ⟨_,C1,e1,rfl,hd,_,C2,e2,rfl,e3,e4,hn,hl,q⟩
theorem pM:∀(n:Nat)(l:List Nat),l.Nodup->(∀a∈l,a<n)->l.length<=n
 |0,l,_,h=>by
  cases l with
  |nil=>exact bF _
  |cons a l=>exact absurd (h a bJ) (by lia)
 |n+1,l,hn,h=>by
  have h1:=pM n (l.erase n) (hn.erase n) fun a ha=>by
   have hm:=(List.Nodup.mem_erase_iff hn).mp ha;have:=h a hm.2;have:=hm.1
   lia
  by_cases hm:n∈l
  ·rw[d4 hm]at h1;lia
  ·rw[List.erase_of_not_mem hm]at h1;lia
structure Rts(N:Nt)(n:Nat)(f p:Nat->Int)(rs:List (Nat×List (Nat×Bool))):Prop where
 nd:(rs.map (·.1)).Nodup
 lt:∀a∈rs.map (·.1),a<n
 z:0∈rs.map (·.1)
 rte:∀x∈rs,Rte N f p x.2 x.1/\(∀v∈x.2.map (rh N),v∈rs.map (·.1))
theorem Rts.len{n:Nat}{f:Nat->Int}{rs:List (Nat×List (Nat×Bool))}(R:Rts N n f p rs){x:Nat×List (Nat×Bool)}(hx:x∈rs):x.2.length<=n:=by
 obtain⟨h1,h2⟩:=R.rte x hx;have:=pM n _ (bV.mp h1.nd).2 fun a ha=>R.lt a (h2 a ha)
 simpa using this
theorem yS{f:Nat->Int}{c n mq:Nat}{pl:Int}{C:Sto}(A:hZ N f c pl C)(hm:N.m<40000)(hi:In N n)(hn:n<40)(sj:0<n)(om:C[mq]?=some (.l,kO n p))
 (reach:∀R:Nat->Prop,R 0->(∀o,Open N f o->R (rt N o)->p (rt N o)+rd N o=p (rh N o)->R (rh N o))->R 1)(q:∀r G,Rte N f p r 1->Q (rtT c r) (C++G)):
 wpO (lV [.lst ((opn N f).map fun o=>.cell (pc c o)),.cell mq] C) Q:=by
 have ai:=A.len;have gi:lc C mq=some (kO n p):=fY.mpr om;have fu:∀o:Nat×Bool,o.1<N.m->rt N o<n/\rh N o<n:=fun o ho=>by
  obtain⟨k,d⟩:=o;have:=hi k ho;unfold rt rh;cases d<;>simp<;>lia
 have hol:(opn N f).length<90000:=by
  have:(opn N f).length<=(both N).length:=aO9 _ _;have h2:(both N).length=N.m+N.m:=by simp[both]
  lia
 refine iI ?_
 unfold qT;walk_at "b"
 refine fK.mpr (f6.mpr (gE.mpr (kY.mpr (eY.mpr ⟨_,rfl,_,rfl,by simp[lim];lia,?_⟩))))
 refine tE (xs:=opn N f) (en:=fun o=>T.cell (pc c o)) (fun o=>decide (p (rt N o)+rd N o=p (rh N o))) (fun o=>T.cell (pc c o)) (fun o ho=>?_) ?_
 ·have bp:=oW.mp ho;obtain⟨f1,f2,f3,f4,f5⟩:=A.fld bp.1;obtain⟨k1,k2⟩:=fu o bp.1
  refine f9.mpr (gT.mpr (fL.mpr (fL.mpr ?_)))
  refine f8 (aA5 (a:=1) (k:=0) (p:=.cell (pc c o)) rfl rfl gi f1 k1) ?_
  refine f8 (iS rfl f3) (jS.mpr ?_)
  refine f8 (aA5 (a:=1) (k:=0) (p:=.cell (pc c o)) rfl rfl gi f2 k2) ?_
  refine rS.mpr ⟨_,rfl,rfl,rfl,fun _=>eY.mpr ⟨_,rfl,rfl,rfl⟩⟩
 refine f9.mpr (fW.mpr (fK.mpr (f6.mpr (aGa (k:=kyN 0) (x:=rtT c []) ?_))))
 refine gG.mpr ⟨rfl,gE.mpr (hJ.mpr (fJ.mpr ⟨by decide,rfl,by simp,?_⟩))⟩
 have e0:(C++[(Kd.dk [],[])]).set C.length (Kd.dk [kyN 0],[rtT c []])=C++[mM c [(0,[])]]:=by
  rw[b8 _ _ (bF _),dE];rfl
 rw[e0]
 refine f9.mpr (fW.mpr (fK.mpr ?_))
 refine uQ (fun m τ C'=>∃rs G,τ=[some (.lst ((opn N f).map fun o=>.cell (pc c o))),some (.cell mq),some (.lst (((opn N f).filter fun o=>decide (p (rt N o)+rd N o=p (rh N o))).map fun o=>.cell (pc c o))),some (.cell C.length)]/\C'=C++mM c rs::G/\Rts N n f p rs/\n - rs.length<=m) (m:=n) (by lia) ?_ ?_
 ·refine⟨[(0,[])],[],rfl,rfl,⟨by simp,by simpa using sj,by simp,fun x hx=>?_⟩,by lia⟩
  have:x=(0,[]):=by simpa using hx
  subst this
  exact⟨Rte.nil,by simp⟩
 rintro m τ C' ⟨rs,G,rfl,rfl,R,vm⟩;have eD:(C++mM c rs::G)[C.length]?=some (mM c rs):=by simp
 have A':hZ N f c pl (C++mM c rs::G):=A.app ai
 refine gT.mpr (fL.mpr (gG.mpr (eY.mpr ⟨_,rfl,aBk.mpr ⟨_,v5 (v:=1) eD,_,rfl,?_⟩⟩)))
 cases l1:lk rs 1 with
 |some r=>
  rw[if_neg (by simp)]
  refine fW.mpr (iF.mpr (fL.mpr (eY.mpr ⟨_,rfl,gG.mpr (sW.mpr ⟨rtT c r,?_,?_⟩)⟩)))
  ·have:=v5 (v:=1) eD;rw[l1]at this;exact this
  ·exact q r _ (R.rte _ (aA0 l1)).1
 |none=>
  rw[if_pos (by simp)];unfold o9
  refine oI.mpr (aFu (c1:=C.length) (eY.mpr ⟨_,rfl,rfl,by unfold isDc;rw[tU eD];rfl,jH.mpr (e9.mpr (eY.mpr ⟨_,rfl,e9.mpr (eY.mpr ⟨_,rfl,fJ.mpr ⟨rfl,?_⟩⟩)⟩))⟩))
  refine y4 A' eD (fun o ho=>(oW.mp ((dB.mp ho).1)).1) (dW (aO9 _ _) hol) (fun x hx=>cB (R.len hx) (by lia)) fun fs h1 h2 h3 h4=>?_
  have bf:∀a∈fs.map (·.1),a<n:=fun a ha=>by
   obtain⟨x,hx,rfl⟩:=bL.mp ha;obtain⟨o,ho,r0,_,e⟩:=h3 x hx;rw[e];exact(fu o (oW.mp ((dB.mp ho).1)).1).2
  have R':Rts N n f p (rs++fs):=by
   refine⟨?_,fun a ha=>?_,?_,fun x hx=>?_⟩
   ·rw[bP]
    exact dO.mpr ⟨R.nd,h1,fun a ha b hb z=>h2 b hb (z ▸ ha)⟩
   ·rw[bP]at ha;rcases bM.mp ha with ha|ha
    ·exact R.lt a ha
    ·exact bf a ha
   ·rw[bP];exact bM.mpr (.inl R.z)
   ·rcases bM.mp hx with hx|hx
    ·refine⟨(R.rte x hx).1,fun v hv=>?_⟩
     rw[bP];exact bM.mpr (.inl ((R.rte x hx).2 v hv))
    ·obtain⟨o,ho,r0,xy,e⟩:=h3 x hx;have bp:=oW.mp ((dB.mp ho).1);have htg:p (rt N o)+rd N o=p (rh N o):=of_decide_eq_true (dB.mp ho).2;have lw:=h2 x.1 (cR hx);obtain⟨g1,g2⟩:=R.rte _ xy;rw[e]at lw|-
     refine⟨g1.snoc bp rfl htg fun z=>?_,fun v hv=>?_⟩
     ·rcases bE.mp z with z|z
      ·exact lw (by rw[z];exact R.z)
      ·exact lw (g2 _ z)
     ·rw[bP]at hv;rw[bP];rcases bM.mp hv with hv|hv
      ·exact bM.mpr (.inl (g2 v hv))
      ·have:v=rh N o:=by simpa using hv
       rw[this]
       exact bM.mpr (.inr (bL.mpr ⟨x,hx,by rw[e]⟩))
  have ba:fs≠[]:=fun z=>by
   subst z;have:=reach (fun v=>v∈rs.map (·.1)) R.z fun o ho h5 h6=>by
    by_cases h7:rh N o∈rs.map (·.1)
    ·exact h7
    ·exact absurd (h4 o (dB.mpr ⟨oW.mpr ho,decide_eq_true h6⟩) h5 h7) (by simp)
   have h8:=oY.mpr this;rw[l1]at h8;cases h8
  have hfl:fs.length<=n:=by
   have:=pM n _ h1 bf;simpa using this
  have gh:(rs++fs).length<=n:=by
   have:=pM n _ R'.nd R'.lt;simpa using this
  have hrl2:rs.length<=n:=by rw[bD]at gh;lia
  have hf1:0<fs.length:=d7.mpr ba
  refine⟨_,rs.map (fun x=>kyN x.1),fs.map (fun x=>kyN x.1),rs.map (fun x=>rtT c x.2),fs.map (fun x=>rtT c x.2),rfl,?_,?_,?_,?_,?_⟩
  ·exact(by simp:(C++mM c rs::G++[mM c fs])[C.length]?=some (mM c rs))
  ·exact(by simp:(C++mM c rs::G++[mM c fs])[(C++mM c rs::G).length]?=some (mM c fs))
  ·simp
  ·rw[aS,aS];simp[lim];lia
  ·rw[aES tK h1 h2]
   refine⟨n - (rs++fs).length,?_,rs++fs,G++[mM c fs],rfl,?_,R',bF _⟩
   ·rw[bD]at gh|-;lia
   ·rw[cS,b8 _ _ (bF _),dE];rfl
end Lib
namespace Lib
open PySem L2 TL NF
variable{N:Nt}{r:List (Nat×Bool)}{o:Nat×Bool}{c:Nat}{pl:Int}
def rmin(N:Nt)(f:Nat->Int)(r:List (Nat×Bool)):Int:=uJ (r.map (rr N f))
theorem y8:∀{ns:List Int},ns≠[]->uJ ns∈ns/\∀a∈ns,uJ ns<=a:=by
 have key:∀(ns:List Int)(n:Int),(ns.foldl (fun a b=>if b<a then b else a) n=n\/ns.foldl (fun a b=>if b<a then b else a) n∈ns)/\ns.foldl (fun a b=>if b<a then b else a) n<=n/\∀a∈ns,ns.foldl (fun a b=>if b<a then b else a) n<=a:=by
  intro ns;induction ns with
  |nil=>intro n;exact⟨.inl rfl,bR _,fun a h=>nomatch h⟩
  |cons m ns ih=>
   intro n;rw[aPg];obtain⟨h1,h2,h3⟩:=ih (if m<n then m else n);by_cases hm:m<n
   ·rw[if_pos hm]at h1 h2 h3|-
    refine⟨?_,by lia,fun a ha=>?_⟩
    ·rcases h1 with h1|h1
     ·rw[h1];simp
     ·exact .inr (aZ _ h1)
    ·rcases bE.mp ha with rfl|ha
     ·exact h2
     ·exact h3 a ha
   ·rw[if_neg hm]at h1 h2 h3|-
    refine⟨?_,h2,fun a ha=>?_⟩
    ·rcases h1 with h1|h1
     ·exact .inl h1
     ·exact .inr (aZ _ h1)
    ·rcases bE.mp ha with rfl|ha
     ·lia
     ·exact h3 a ha
 intro ns ba;cases ns with
 |nil=>exact absurd rfl ba
 |cons n ns=>
  obtain⟨h1,h2,h3⟩:=key ns n
  refine⟨?_,fun a ha=>?_⟩
  ·rcases h1 with h1|h1
   ·show aPT (fun a b=>if b<a then b else a) n ns∈n::ns;rw[h1];simp
   ·exact aZ _ h1
  ·rcases bE.mp ha with rfl|ha
   ·exact h2
   ·exact h3 a ha
theorem aJy{f:Nat->Int}(ho:o∈r):rmin N f r<=rr N f o:=
 (y8 (ns:=r.map (rr N f)) (by rintro z;have:=aPi.mp z;subst this;cases ho)).2 _ (cR ho)
theorem aHO{f:Nat->Int}(hr:r≠[])(ho:∀o∈r,Open N f o):0<rmin N f r:=by
 obtain⟨h1,h2⟩:=y8 (ns:=r.map (rr N f)) (by rintro z;exact hr (aPi.mp z));obtain⟨o,bp,e⟩:=bL.mp h1;unfold rmin;rw[<-e];exact(ho o bp).2
theorem aDy{f:Nat->Int}{C:Sto}(A:hZ N f c pl C)(hr:r≠[])(ho:∀o∈r,o.1<N.m)(hl:r.length<1000){Q:T->Sto->Prop}(q:Q (.int (rmin N f r)) C):wpO (qH [rtT c r] C) Q:=by
 refine iI ?_
 unfold aAg;walk_at "b"
 refine iF.mpr (gC.mpr (e9.mpr (gE.mpr (kY.mpr (eY.mpr ⟨_,rfl,_,rfl,by simp[lim];lia,?_⟩)))))
 refine g8 (xs:=r) (en:=fun o=>T.cell (pc c o)) (fun o=>T.int (rr N f o)) (fun o bp=>f9.mpr (f8 (iS (t:=.cell (pc c o)) rfl (A.fld (ho o bp)).2.2.2.1) ⟨rfl,rfl⟩)) ?_
 refine fJ.mpr (rX.mpr ⟨_,rfl,_,oJ (f:=rr N f),?_,q⟩)
 cases r with
 |nil=>exact absurd rfl hr
 |cons o r=>rfl
theorem hZ.pour1{f:Nat->Int}{C:Sto}(A:hZ N f c pl C)(ho:o.1<N.m)(x:Int):
 hZ N (up f o.1 (f o.1+if o.2 then x else -x)) c pl ((C.set (pc c o) (.o "Pipe" pnm,[.int (rt N o),.int (rh N o),.int (rd N o),.int (rr N f o - x),.cell (pc c (o.1,!o.2))])).set (pc c (o.1,!o.2)) (.o "Pipe" pnm,[.int (rt N (o.1,!o.2)),.int (rh N (o.1,!o.2)),.int (rd N (o.1,!o.2)),.int (rr N f (o.1,!o.2)+x),.cell (pc c (o.1,!!o.2))])):=by
 have l1:=j9 (A.pip o ho);have l2:=j9 (A.pip (o.1,!o.2) ho);obtain⟨k,b⟩:=o;have ba:pc c (k,b)≠pc c (k,!b):=by unfold pc;cases b<;>simp
 have low:∀i,i<c+2->i≠pc c (k,b)/\i≠pc c (k,!b):=fun i hi=>by unfold pc;constructor<;>lia
 refine⟨?_,?_,fun o' im=>?_⟩
 ·rw[aR (Ne.symm (low c (by lia)).2),aR (Ne.symm (low c (by lia)).1)];exact A.net
 ·rw[aR (Ne.symm (low (c+1) (by lia)).2),aR (Ne.symm (low (c+1) (by lia)).1)];exact A.lst
 ·obtain⟨k',b'⟩:=o';by_cases hk:k'=k
  ·subst hk;by_cases hb:b'=b
   ·subst hb;rw[aR (Ne.symm ba),mF l1];unfold pcell rr;rw[jM];cases b'<;>simp<;>lia
   ·have ue:b'= !b:=by cases b<;>cases b'<;>simp_all
    subst ue;rw[mF (by rw[cM];exact l2)];unfold pcell rr;rw[jM];cases b<;>simp<;>lia
  ·have n1:pc c (k',b')≠pc c (k,b):=by unfold pc;dsimp only;split<;>split<;>lia
   have n2:pc c (k',b')≠pc c (k,!b):=by unfold pc;dsimp only;split<;>split<;>lia
   rw[aR (Ne.symm n2),aR (Ne.symm n1),A.pip (k',b') im];unfold pcell rr;rw[sA hk]
theorem aKM{x:Int}:∀{r:List (Nat×Bool)}{f:Nat->Int}{C:Sto},hZ N f c pl C->(∀o∈r,o.1<N.m)->∀{Q:T->Sto->Prop},(∀C',hZ N (pr r x f) c pl C'->C'.length=C.length->(∀i,i<c\/c+2+2*N.m<=i->C'[i]?=C[i]?)->Q .non C')->wpO (aBb [rtT c r,.int x] C) Q:=by
 intro r f C A ho Q q
 refine iI ?_
 unfold aIK;walk_at "b"
 refine lY.mpr (eY.mpr ⟨_,rfl,_,rfl,?_⟩)
 refine i9 (xs:=r) (en:=fun o=>T.cell (pc c o)) (fun j τ C'=>∃a,τ=[some (rtT c r),some (.int x),a]/\hZ N (pr (r.take j) x f) c pl C'/\C'.length=C.length/\∀i,i<c\/c+2+2*N.m<=i->C'[i]?=C[i]?) ⟨_,rfl,A,rfl,fun _ _=>rfl⟩ ?_ ?_
 ·rintro j o τ C' hj ⟨a,rfl,A',hl,gx⟩;have bp:=ho o (bC hj);obtain⟨f1,f2,f3,f4,f5⟩:=A'.fld bp;have A2:=A'.pour1 bp x;have l2:=j9 (A'.pip (o.1,!o.2) bp);have ba:pc c o≠pc c (o.1,!o.2):=by obtain⟨k,b⟩:=o;unfold pc;cases b<;>simp
  have hpr:∀(r:List (Nat×Bool))(f:Nat->Int),pr (r++[o]) x f=up (pr r x f) o.1 (pr r x f o.1+if o.2 then x else -x):=fun r=>by
   induction r with
   |nil=>intro f;rfl
   |cons e r ih=>intro f;show pr (r++[o]) x _=_;rw[ih];rfl
  unfold aCV
  refine f9.mpr (fK.mpr (y3 (i:=rr N (pr (r.take j) x f) o) (j:=x) (eY.mpr ⟨_,rfl,f4,eY.mpr ⟨_,rfl,rfl,_,lG (A'.pip o bp) (by decide) rfl rfl,?_⟩⟩)))
  have g5:nY "Pipe" "back" (C'.set (pc c o) (.o "Pipe" pnm,[.int (rt N o),.int (rh N o),.int (rd N o),.int (rr N (pr (r.take j) x f) o - x),.cell (pc c (o.1,!o.2))])) (.cell (pc c o))=some (.cell (pc c (o.1,!o.2))):=kP (mF (j9 (A'.pip o bp))) rfl;have g6:(C'.set (pc c o) (.o "Pipe" pnm,[.int (rt N o),.int (rh N o),.int (rd N o),.int (rr N (pr (r.take j) x f) o - x),.cell (pc c (o.1,!o.2))]))[pc c (o.1,!o.2)]?=some (pcell N (pr (r.take j) x f) c (o.1,!o.2)):=by
   rw[aR ba];exact A'.pip (o.1,!o.2) bp
  refine fW.mpr (y3 (i:=rr N (pr (r.take j) x f) (o.1,!o.2)) (j:=x) (f8 (iS (t:=.cell (pc c o)) rfl g5) ⟨kP g6 rfl,eY.mpr ⟨_,rfl,rfl,_,lG g6 (by decide) rfl rfl,trivial,_,rfl,?_,?_,?_⟩⟩))
  ·rw[aO7,hj,dI,hpr]
   exact A2
  ·rw[cM,cM];exact hl
  ·intro i hi;rw[aR (by unfold pc;split<;>lia),aR (by unfold pc;split<;>lia)]
   exact gx i hi
 ·rintro τ C' ⟨a,rfl,A',hl,gx⟩;rw[cY]at A'
  exact q C' A' hl gx
end Lib
namespace Lib
open PySem L2 TL NF
variable{w:Wk}{es:List (Nat×Nat)}{P:Int}{p:Nat->Int}{c:Nat}{Q:T->Sto->Prop}
structure Wel(w:Wk)(n:Nat)(es:List (Nat×Nat))(P:Int):Prop where
 n8:n<=8
 m:(net w n es P).m<40000
 ein:∀e∈es,e.1<n/\e.2<n
 rk:∃r:Nat->Int,(∀i,i<n->0<=r i/\r i<n)/\∀e∈es,r e.1<r e.2
 l0:∀i,i<n->0<=w.l i
 pP:sm n w.p<P
 big:sm n w.p<10^199
theorem Wel.open{n:Nat}(W:Wel w n es P){f:Nat->Int}{a:Int}(G:Good w n es P f a p)(ha:a<P):∀k,k<(net w n es P).m->isU n k=false->f k<(net w n es P).c k:=fun k hk hu=>by
 obtain⟨r,h1,h2⟩:=W.rk
 exact NF.plenty G.flo G.cap h1 h2 W.ein ha hk hu
theorem aGP:st1 0=fun _=>0:=by funext v;unfold st1;split<;>rfl
theorem aOO{n:Nat}:sm n (fun _=>0)=0:=l7 fun _ _=>rfl
theorem moments0{n:Nat}(W:Wel w n es P){f:Nat->Int}{a:Int}{C:Sto}(A:hZ (net w n es P) f c (2*n+2:Nat) C)(G:Good w n es P f a p)(hb:sm (2*n+2) p<10^199)
 (q:∀p',Least (net w n es P) (2*n+2) f (fun _=>0) p'->Good w n es P f a p'->(∀v,v<2*n+2->p' v<=p v)->Q (.cell C.length) (C++[(.l,kO (2*n+2) p')])):wpO (jB [.cell c,.int 0] C) Q:=by
 refine aDT A W.m (aBG W.ein) (by lia) (by have:=W.n8;lia) (y:=p) (fun v hv=>by rw[aGP];exact G.ge v hv) G.pot (by rw[aGP,aOO];lia) fun p' L=>?_
 rw[aGP]at L;obtain⟨G',h⟩:=G.least L
 exact q p' L G' h
structure Filled(w:Wk)(n:Nat)(es:List (Nat×Nat))(P:Int)(e:Int)(f0:Nat->Int)(a0:Int)(p0 f p:Nat->Int)(a:Int):Prop where
 good:Good w n es P f a p
 least:Least (net w n es P) (2*n+2) f (fun _=>0) p
 le:∀v,v<2*n+2->p v<=p0 v
 ready:p 1<=e
 how:f=f0\/a0<a/\∃q,Good w n es P f a q/\e<q 1/\∀v,v<2*n+2->q v<=p0 v
theorem aEk{n:Nat}(W:Wel w n es P){E e:Int}{b:Nat->Int}(TM:Tim n es E b w.l)(hE:E<=e)(he0:0<=e){f0 p0:Nat->Int}{a0:Int}(G0:Good w n es P f0 a0 p0)(iy:a0<=sm n w.p)(a00:0<=a0)(hb:sm (2*n+2) p0<10^199)
 {C:Sto}(A:hZ (net w n es P) f0 c (2*n+2:Nat) C)
 (q:∀f p a C',Filled w n es P e f0 a0 p0 f p a->a<=sm n w.p->a0<=a->hZ (net w n es P) f c (2*n+2:Nat) C'->C.length<=C'.length->(∀i,i<C.length->(i<c\/c+2+2*(net w n es P).m<=i)->C'[i]?=C[i]?)->Q .non C'):
 wpO (lQ [.cell c,.int e] C) Q:=by
 have ai:=A.len;have hn8:=W.n8
 refine iI ?_
 unfold x6;walk_at "b"
 refine fK.mpr (f6.mpr (kF (eY.mpr ⟨_,rfl,lI A.net rfl,e9.mpr (gG.mpr (fJ.mpr ⟨rfl,moments0 W A G0 hb fun p1 L1 G1 h1=>?_⟩))⟩)))
 refine f9.mpr (fW.mpr ?_)
 refine uQ (fun m τ C'=>∃f p a mq x,τ=[some (.cell c),some (.int e),some (.cell mq),x]/\C'[mq]?=some (.l,kO (2*n+2) p)/\hZ (net w n es P) f c (2*n+2:Nat) C'/\Good w n es P f a p/\Least (net w n es P) (2*n+2) f (fun _=>0) p/\(∀v,v<2*n+2->p v<=p0 v)/\
  a<=sm n w.p/\a0<=a/\(f=f0\/a0<a/\∃q,Good w n es P f a q/\e<q 1/\∀v,v<2*n+2->q v<=p0 v)/\C.length<=C'.length/\(∀i,i<C.length->(i<c\/c+2+2*(net w n es P).m<=i)->C'[i]?=C[i]?)/\sm n w.p+1 - a<=(m:Int)) (m:=(sm n w.p+1 - a0).toNat) ?_ ?_ ?_
 ·have h2:=W.big;have h3:(sm n w.p+1 - a0).toNat<=10^199:=by lia
  exact dW h3 (Nat.pow_lt_pow_right (by decide) (by decide))
 ·refine⟨f0,p1,a0,C.length,_,rfl,by simp,A.app ai,G1,L1,h1,iy,bR _,.inl rfl,by simp,fun i hi _=>aY hi,by lia⟩
 rintro m τ C' ⟨f,p,a,mq,x,rfl,om,A',G,L,hle,ha,zf,how,hCl,gx,vm⟩;have gi:lc C' mq=some (kO (2*n+2) p):=fY.mpr om
 refine gT.mpr (fL.mpr (fL.mpr (eY.mpr ⟨_,rfl,gG.mpr (jG.mpr ⟨_,gi,_,aAV (v:=1) (by lia),eY.mpr ⟨_,rfl,jS.mpr ⟨_,rfl,?_⟩⟩⟩)⟩)))
 by_cases hp:e<p 1
 ·rw[if_pos (decide_eq_true hp)];have sj:0<n:=by
   rcases aO2 n with z|z
   ·exfalso;have hm0:(net w n es P).m=0:=by
     show 4*n+es.length=0;have:es=[]:=by
      cases es with
      |nil=>rfl
      |cons x r=>have:=(W.ein x bJ).1;lia
     rw[this,z];rfl
    have:=L.le (fun _=>0) (fun _ _=>bR _) (fun k hk=>by lia) 1 (by lia)
    lia
   ·exact z
  have ho:=W.open G (dJ ha W.pP);have su:=A'.len;unfold tG
  refine fK.mpr (f6.mpr (jH.mpr (e9.mpr (kF (eY.mpr ⟨_,rfl,lI A'.net rfl,fJ.mpr ⟨rfl,q8 A' W.m ?_⟩⟩)))))
  refine e9.mpr (eY.mpr ⟨_,rfl,fJ.mpr ⟨rfl,?_⟩⟩)
  refine yS A' W.m (aBG W.ein) (by lia) (by lia) om (fun R r0 hc=>G.route L ho W.ein W.l0 sj R r0 hc) fun r G2 hr=>?_
  have A2:hZ (net w n es P) f c (2*n+2:Nat) (C'++G2):=A'.app su;have ba:r≠[]:=fun z=>by
   subst z;have:=hr.wk
   exact absurd (show(0:Nat)=1 from this) (by decide)
  have vg:∀o∈r,o.1<(net w n es P).m:=fun o bp=>(hr.op o bp).1
  have fu:=aBG (w:=w) (P:=P) W.ein;have gh:r.length<1000:=by
   have h5:=pM (2*n+2) _ (bV.mp hr.nd).2 fun v hv=>by
    obtain⟨⟨k,d⟩,bp,rfl⟩:=bL.mp hv;have:=fu k (hr.op _ bp).1;unfold rh;cases d<;>simp<;>lia
   rw[aS]at h5
   lia
  refine f9.mpr (fW.mpr (fK.mpr (oI.mpr (jH.mpr (e9.mpr (eY.mpr ⟨_,rfl,e9.mpr (jH.mpr (e9.mpr (eY.mpr ⟨_,rfl,fJ.mpr ⟨rfl,aDy A2 ba vg gh (fJ.mpr ⟨rfl,?_⟩)⟩⟩)))⟩))))))
  refine aKM A2 vg fun C3 A3 hl3 hf3=>?_
  have hx:=aHO ba hr.op;have G3:Good w n es P (pr r (rmin (net w n es P) f r) f) (a+rmin (net w n es P) f r) p:=G.pour hr.wk hr.pipes hr.tg (by lia) fun o bp=>aJy bp
  have hb3:=G3.bound TM (by lia);have fg:sm (2*n+2) p<10^199:=dJ (y7 hle) hb
  refine fW.mpr (f6.mpr (kF (eY.mpr ⟨_,rfl,lI A3.net rfl,e9.mpr (gG.mpr (fJ.mpr ⟨rfl,moments0 W A3 G3 fg fun p4 L4 G4 h4=>?_⟩))⟩)))
  have hl5:C'.length<=C3.length:=by rw[hl3];simp
  refine f9.mpr ⟨(sm n w.p+1 - (a+rmin (net w n es P) f r)).toNat,by lia,_,p4,_,C3.length,_,rfl,by simp,A3.app A3.len,G4,L4,fun v hv=>aPk (h4 v hv) (hle v hv),hb3,by lia,.inr ⟨by lia,p,G3,hp,hle⟩,by rw[bD];lia,fun i hi hic=>?_,by lia⟩
  rw[aY (by lia),hf3 i hic,aY (by lia)]
  exact gx i hi hic
 ·rw[if_neg (by rw[decide_eq_false hp];simp)]
  exact q f p a C' ⟨G,L,hle,by lia,how⟩ ha zf A' hCl gx
end Lib
namespace Lib
open PySem L2 TL NF
variable{d:Nat}{s:Nat×Nat}{L:NF.Fl}{Q:T->Sto->Prop}
def ky2(s:Nat×Nat):List Key:=[kyN s.1,kyN s.2]
theorem aFa(a b:Nat×Nat)(h:ky2 a=ky2 b):a=b:=by
 have h1:=aP9.inj h;have h2:=aP9.inj h1.2
 exact aQC (tK _ _ h1.1) (tK _ _ h2.1)
noncomputable def stT(s:Nat×Nat):T:=.tup [.int s.1,.int s.2]
def mH(L:NF.Fl):Cl:=(.dt (L.map fun p=>ky2 p.1),L.map fun p=>.int p.2)
def aKg(L:NF.Fl):Cl:=(.dz (L.map fun p=>ky2 p.1),L.map fun p=>.int p.2)
theorem wC{C:Sto}(e:C[d]?=some (mH L)\/C[d]?=some (aKg L)):dval C (.cell d) (stT s)=some ((lk L s).map T.int):=by
 unfold dval;rw[aHr e,aIB e];show some (vl _ (ky2 s))=_;rw[aDE (vf:=fun i:Int=>T.int i) aFa]
theorem aEX{C:Sto}{v:Int}(e:C[d]?=some (mH L))(hl:L.length<lim):dput C (.cell d) (stT s) (.int v)=some (C.set d (mH (mI L s v))):=by
 unfold dput;rw[aHr (.inl e),aIf e];show(if _ then some (C.set d (.dt (pkK (ky2 s) _),pvK (ky2 s) _ _ _))else none)=_;rw[if_pos (by simpa using hl)];obtain⟨e1,e2⟩:=aAZ (vf:=fun i:Int=>T.int i) aFa (a:=s) (b:=v) (rs:=L);rw[e1,e2];rfl
theorem rA:(lk L s).getD 0=at_ L s:=by
 unfold at_;congr 1;induction L with
 |nil=>rfl
 |cons e L ih=>
  obtain⟨k,v⟩:=e;rw[mU,b4];by_cases h:k=s
  ·rw[if_pos h,show(s==k)=true from beq_iff_eq.mpr h.symm]
  ·rw[if_neg h,show(s==k)=false from beq_eq_false_iff_ne.mpr (Ne.symm h)];exact ih
theorem aBE{p:(Nat×Nat)×Int}{v:Int}(h:¬p.1=s):mI (p::L) s v=p::mI L s v:=by
 unfold mI;rw[aM];by_cases hs:s∈L.map (·.1)
 ·rw[if_pos (aZ _ hs),if_pos hs,aM,if_neg h]
 ·rw[if_neg (fun z=>by rcases bE.mp z with z|z;·exact h z.symm
                       ·exact hs z),if_neg hs];rfl
theorem aDI{g:(Nat×Nat)×Int->(Nat×Nat)×Int}(h:s∉L.map (·.1)):L.map (fun p=>if p.1=s then g p else p)=L:=by
 induction L with
 |nil=>rfl
 |cons e L ih=>
  rw[aM,bE,not_or]at h;rw[aM,ih h.2,if_neg (fun z=>h.1 z.symm)]
theorem aEZ{s:Nat×Nat}{v:Int}:∀{L:NF.Fl},(L.map (·.1)).Nodup->mI L s (at_ L s+v)=ad s v L
 | [],_=>by simp[mI,ad,at_]
 | (k,x)::L,hn=>by
   rw[aM,bV]at hn;unfold ad;by_cases h:k=s
   ·subst h;have e:at_ ((k,x)::L) k=x:=by rw[<-rA,mU,if_pos rfl];rfl
    rw[e,if_pos rfl];unfold mI;rw[if_pos (by simp),aM,if_pos rfl,aDI hn.1]
   ·have e:at_ ((k,x)::L) s=at_ L s:=by rw[<-rA,mU,if_neg h,rA]
    rw[e,if_neg h,aBE h,aEZ hn.2]
theorem aKh{x:Int}(hn:(L.map (·.1)).Nodup)(hs:s∈L.map (·.1)):mI L s (at_ L s - x)=tk x s L:=by
 unfold mI;rw[if_pos hs];unfold tk;induction L with
 |nil=>rfl
 |cons e L ih=>
  obtain⟨k,y⟩:=e;rw[aM,bV]at hn;rw[aM,aM];by_cases h:k=s
  ·subst h;have e:at_ ((k,y)::L) k=y:=by rw[<-rA,mU,if_pos rfl];rfl
   rw[e,if_pos rfl,aDI hn.1,aDI (g:=fun e=>(e.1,e.2 - x)) hn.1]
  ·have e:at_ ((k,y)::L) s=at_ L s:=by rw[<-rA,mU,if_neg h,rA]
   rw[aM]at hs;rw[e,if_neg h,if_neg h,ih hn.2 ((bE.mp hs).resolve_left (Ne.symm h))]
theorem aLJ{e:(Nat×Nat)×Int}(hn:(L.map (·.1)).Nodup)(he:e∈L):lk L e.1=some e.2:=by
 induction L with
 |nil=>cases he
 |cons p L ih=>
  rw[aM,bV]at hn;rw[mU];rcases bE.mp he with rfl|he
  ·rw[if_pos rfl]
  ·rw[if_neg (fun z=>hn.1 (by rw[z];exact cR he)),ih hn.2 he]
noncomputable def outs(L:NF.Fl)(v:Nat):List (Nat×Nat):=(L.filter fun e=>decide (e.1.1=v)&&decide (0<e.2)).map (·.1)
theorem qS{C:Sto}{v:Nat}(e:C[d]?=some (mH L))(hn:(L.map (·.1)).Nodup)(hl:L.length<90000)(q:Q (.lst ((outs L v).map stT)) C):wpO (lK [.int v,.cell d] C) Q:=by
 have hd:=j9 e
 refine iI ?_
 unfold tN;walk_at "b"
 refine iF.mpr (gE.mpr (aFC (c:=d) (ks:=L.map fun p:(Nat×Nat)×Int=>ky2 p.1) (ts:=L.map fun p:(Nat×Nat)×Int=>T.int p.2) (eY.mpr ⟨_,rfl,rfl,e,by simp,by simp[lim];lia,?_⟩)))
 have hz:(C.set d (aKg L))[d]?=some (aKg L):=mF hd;rw[cC,show(aGQ ∘ fun p:(Nat×Nat)×Int=>ky2 p.1)=fun p=>stT p.1 from rfl]
 refine tE (xs:=L) (en:=fun p=>stT p.1) (fun e=>decide (e.1.1=v)&&decide (0<e.2)) (fun p=>stT p.1) (fun x hx=>?_) ?_
 ·refine f9.mpr (aBx.mpr (gT.mpr (fL.mpr (fL.mpr ?_))))
  refine eY.mpr ⟨stT x.1,rfl,?_⟩
  refine gG.mpr (jG.mpr ⟨[.int x.1.1,.int x.1.2],rfl,.int x.1.1,rfl,?_⟩)
  refine eY.mpr ⟨.int v,rfl,?_⟩
  refine rS.mpr ⟨_,rfl,?_⟩
  have hv:((x.1.1:Int)=v)↔x.1.1=v:=by lia
  by_cases h:x.1.1=v
  ·rw[if_pos (decide_eq_true (hv.mpr h))];have hg:=wC (s:=x.1) (L:=L) (C:=C.set d (aKg L)) (.inr hz);rw[aLJ hn hx]at hg
   refine gT.mpr (fL.mpr (fL.mpr (eY.mpr ⟨_,rfl,eY.mpr ⟨_,rfl,sW.mpr ⟨_,hg,gG.mpr (jS.mpr ⟨_,rfl,rfl,?_,fun _=>eY.mpr ⟨_,rfl,rfl,rfl⟩⟩)⟩⟩⟩)))
   rw[decide_eq_true h,Bool.true_and]
  ·rw[if_neg (by rw[decide_eq_false (fun z=>h (hv.mp z))];simp)]
   refine⟨rfl,by rw[decide_eq_false h,aPK],fun z=>?_⟩
   rw[decide_eq_false h,aPK]at z;cases z
 ·have:(L.filter fun e=>decide (e.1.1=v)&&decide (0<e.2)).map (fun p=>stT p.1)=(outs L v).map stT:=by unfold outs;rw[cC];rfl
  rw[this]
  exact⟨rfl,q⟩
theorem aB5{x:Int}{s:Nat×Nat}:∀{r:List (Nat×Nat)}{L:NF.Fl},tks x (r++[s]) L=tk x s (tks x r L)
 | [],L=>rfl
 |a::r,L=>by show tks x (r++[s]) (tk x a L)=_;rw[aB5];rfl
theorem aCj{C:Sto}{rc:Nat}{r:List (Nat×Nat)}(e:C[d]?=some (mH L))(e2:C[rc]?=some (.l,r.map stT))(hn:(L.map (·.1)).Nodup)(hl:L.length<90000)(hr:r≠[])(gh:r.length<1000)(hk:∀s∈r,s∈L.map (·.1))
 (q:Q (.int (uJ (r.map (at_ L)))) (C.set d (mH (tks (uJ (r.map (at_ L))) r L)))):wpO (o0 [.cell d,.cell rc] C) Q:=by
 have hd:=j9 e;have hdr:d≠rc:=fun z=>by subst z;rw[e]at e2;cases e2
 have gi:lc C rc=some (r.map stT):=fY.mpr e2;have lkk:∀(L':NF.Fl)(s:Nat×Nat),s∈L'.map (·.1)->lk L' s=some (at_ L' s):=fun L' s hs=>by
  obtain⟨v,hv⟩:=cO.mp (oY.mpr hs);rw[hv,<-rA,hv];rfl
 generalize hx:uJ (r.map (at_ L))=x at q
 refine iI ?_
 unfold yT;walk_at "b"
 refine fK.mpr (f6.mpr (gC.mpr (e9.mpr (gE.mpr (kY.mpr (eY.mpr ⟨_,rfl,_,gi,by simp[lim];lia,?_⟩))))))
 refine g8 (xs:=r) (en:=stT) (fun s=>T.int (at_ L s)) (fun s hs=>f9.mpr (fL.mpr (eY.mpr ⟨_,rfl,eY.mpr ⟨_,rfl,sW.mpr ⟨_,by rw[wC (.inl e),lkk L s (hk s hs)];rfl,rfl,rfl⟩⟩⟩))) ?_
 refine fJ.mpr (rX.mpr ⟨_,rfl,_,oJ (f:=at_ L),?_,?_⟩)
 ·cases r with
  |nil=>exact absurd rfl hr
  |cons s r=>rfl
 rw[show uJ (r.map (at_ L))=x from hx]
 refine f9.mpr (fW.mpr (fK.mpr (lY.mpr (eY.mpr ⟨_,rfl,_,gi,?_⟩))))
 refine i9 (xs:=r) (en:=stT) (fun j τ C'=>∃y,τ=[some (.cell d),some (.cell rc),some (.int x),y]/\C'=C.set d (mH (tks x (r.take j) L))) ⟨_,rfl,?_⟩ ?_ ?_
 ·obtain⟨h1,h2⟩:=aQ.mp e;show C=C.set d (mH L);rw[<-h2,eQ]
 ·rintro j s τ C' hj ⟨y,rfl,rfl⟩;have hs:=hk s (bC hj);have og:s∈(tks x (r.take j) L).map (·.1):=by rw[oG];exact hs
  have kj:((tks x (r.take j) L).map (·.1)).Nodup:=by rw[oG];exact hn
  have dq:(tks x (r.take j) L).length<90000:=by
   have:=congrArg aQd (oG (x:=x) (r:=r.take j) (L:=L));rw[aS,aS]at this;lia
  have e':(C.set d (mH (tks x (r.take j) L)))[d]?=some (mH (tks x (r.take j) L)):=mF hd;unfold tT
  refine f9.mpr (aIw (i:=at_ (tks x (r.take j) L) s) (j:=x) (eY.mpr ⟨_,rfl,eY.mpr ⟨_,rfl,by rw[wC (.inl e'),lkk _ s og];rfl,eY.mpr ⟨_,rfl,rfl,_,aEX e' (by simp[lim];lia),?_,_,rfl,?_⟩⟩⟩))
  ·show lc _ rc=_;rw[fY,eI,aR hdr];exact e2
  ·rw[eI,aKh kj og,aO7,hj,dI,aB5]
 ·rintro τ C' ⟨y,rfl,rfl⟩;rw[cY]
  exact fW.mpr (iF.mpr (eY.mpr ⟨_,rfl,q⟩))
end Lib
namespace Lib
open PySem L2 TL NF
variable{L:NF.Fl}{e:(Nat×Nat)×Int}
structure Flw(L:NF.Fl)(a:Int)(ρ:Nat->Int):Prop where
 con:Con L a
 nn:∀e∈L,0<=e.2
 nd:(L.map (·.1)).Nodup
 hz:∀e∈L,e.1.2≠0
 rk:∀e∈L,ρ e.1.1<ρ e.1.2
 h1:∀e∈L,ρ e.1.2<=ρ 1
 h0:∀e∈L,ρ 0<=ρ e.1.1
 small:ρ 1 - ρ 0<=30
 le:ρ 0<=ρ 1
 len:L.length<90000
theorem aG1{x:T}{l:List T}:atI (x::l) 0=some x:=aE4 (j:=0) rfl
theorem SW.snoc:∀{r:List (Nat×Nat)}{u v:Nat}{s:Nat×Nat},SW r u v->s.1=v->SW (r++[s]) u s.2
 | [],u,v,s,h,e=>by cases h;exact⟨e,rfl⟩
 |a::r,u,v,s,⟨h1,h2⟩,e=>⟨h1,SW.snoc h2 e⟩
theorem aIq{v:Nat}{s:Nat×Nat}(h:s∈outs L v):∃e∈L,e.1=s/\s.1=v/\0<e.2:=by
 unfold outs at h;obtain⟨e,he,rfl⟩:=bL.mp h;obtain⟨h1,h2⟩:=dB.mp he;rw[aOP,decide_eq_true_iff,decide_eq_true_iff]at h2
 exact⟨e,h1,rfl,h2.1,h2.2⟩
theorem aCp{v:Nat}(h:outs L v=[])(he:e∈L)(hv:e.1.1=v):¬0<e.2:=fun hp=>by
 have:e.1∈outs L v:=by
  unfold outs
  refine cR (dB.mpr ⟨he,?_⟩)
  rw[aOP,decide_eq_true_iff,decide_eq_true_iff]
  exact⟨hv,hp⟩
 rw[h]at this;cases this
theorem aCa(hn:(L.map (·.1)).Nodup)(he:e∈L):at_ L e.1=e.2:=by rw[<-rA,aLJ hn he];rfl
theorem yQ{a:Int}{ρ:Nat->Int}(F:Flw L a ρ){C:Sto}{d:Nat}(e:C[d]?=some (mH L)){Q:T->Sto->Prop}
 (q:∀r:List (Nat×Nat),(r=[]/\a<=0)\/(r≠[]/\SW r 0 1/\r.Nodup/\r.length<1000/\∀s∈r,s∈L.map (·.1)/\0<at_ L s)->Q (.cell C.length) (C++[(.l,r.map stT)])):wpO (j3 [.cell d] C) Q:=by
 have hd:=j9 e;have e':∀x:Cl,(C++[x])[d]?=some (mH L):=fun x=>by rw[aY hd];exact e
 refine iI ?_
 unfold pB;walk_at "b"
 refine fK.mpr (f6.mpr (jK.mpr (hJ.mpr (fJ.mpr ⟨by decide,?_⟩))))
 refine f9.mpr (fW.mpr (fK.mpr (f6.mpr (jH.mpr (e9.mpr (gG.mpr (e9.mpr ?_)))))))
 refine eY.mpr ⟨_,rfl,fJ.mpr ⟨rfl,?_⟩⟩
 refine qS (v:=0) (e' _) F.nd F.len (f9.mpr (fW.mpr (fK.mpr ?_)))
 refine uQ (fun m τ C'=>∃r u,τ=[some (.cell d),some (.cell C.length),some (.lst ((outs L u).map stT))]/\C'=C++[(.l,r.map stT)]/\SW r 0 u/\(r=[]/\u=0\/r≠[]/\∃e∈L,e.1.2=u/\0<e.2)/\(∀s∈r,s∈L.map (·.1)/\0<at_ L s)/\r.Nodup/\(∀s∈r,ρ s.1<ρ u)/\
  (r.length:Int)<=ρ u - ρ 0/\ρ u<=ρ 1/\ρ 1 - ρ u<=(m:Int)) (m:=30) (by decide) ?_ ?_
 ·exact⟨[],0,rfl,rfl,rfl,.inl ⟨rfl,rfl⟩,by simp,by simp,by simp,by simp,F.le,F.small⟩
 rintro m τ C' ⟨r,u,rfl,rfl,h1,h2,h3,h4,h5,h6,h7,h8⟩
 refine lZ.mpr (eY.mpr ⟨_,rfl,_,rfl,?_⟩)
 have hsm:=F.small;cases ho:outs L u with
 |nil=>
  rw[bB];rw[if_neg (by simp)]
  refine fW.mpr (iF.mpr (eY.mpr ⟨_,rfl,q r ?_⟩))
  rcases h2 with⟨rfl,rfl⟩| ⟨ba,x,hx,hu,hp⟩
  ·refine .inl ⟨rfl,?_⟩
   by_cases ha:0<a
   ·obtain⟨y,hy,jc,xn⟩:=aKN F.con F.nn F.hz ha
    exact absurd xn (aCp ho hy jc)
   ·lia
  ·refine .inr ⟨ba,?_,h4,by lia,h3⟩
   have hu1:u=1:=by
    by_cases z:u=1
    ·exact z
    ·obtain⟨y,hy,jc,xn⟩:=aJ4 F.con F.nn (v:=u) (by rw[<-hu];exact F.hz x hx) z hx hu hp
     exact absurd xn (aCp ho hy jc)
   rw[hu1]at h1;exact h1
 |cons s os=>
  obtain⟨x,hx,ei,ln,hxp⟩:=aIq (L:=L) (v:=u) (s:=s) (by rw[ho];exact bJ);have ck:=F.rk x hx;have rg:=F.h1 x hx;rw[ei,ln]at ck;rw[ei]at rg;rw[aM,if_pos (by simp)];have gi:lc (C++[(Kd.l,r.map stT)]) C.length=some (r.map stT):=fY.mpr (by simp);unfold nL
  refine fK.mpr (oV.mpr (eY.mpr ⟨_,rfl,e9.mpr (fL.mpr ?_)⟩))
  refine eY.mpr ⟨_,rfl,gG.mpr (jG.mpr ⟨stT s::os.map stT,rfl,stT s,aG1,?_⟩)⟩
  refine fJ.mpr ⟨_,rfl,by rw[gi];rfl,_,gi,o4.mpr ⟨by simp[lim];lia,?_⟩⟩
  have es:(C++[(Kd.l,r.map stT)]).set C.length (Kd.l,r.map stT++[stT s])=C++[(Kd.l,(r++[s]).map stT)]:=by
   rw[b8 _ _ (bF _),dE,bP];rfl
  rw[es]
  refine fW.mpr (f6.mpr (jH.mpr (e9.mpr (fL.mpr (fL.mpr ?_)))))
  refine eY.mpr ⟨_,rfl,gG.mpr (jG.mpr ⟨stT s::os.map stT,rfl,stT s,aG1,?_⟩)⟩
  refine gG.mpr (jG.mpr ⟨[.int s.1,.int s.2],rfl,.int s.2,rfl,e9.mpr ?_⟩)
  refine eY.mpr ⟨_,rfl,fJ.mpr ⟨rfl,?_⟩⟩
  refine qS (v:=s.2) (e' _) F.nd F.len (f9.mpr ⟨(ρ 1 - ρ s.2).toNat,by lia,r++[s],s.2,rfl,rfl,SW.snoc h1 ln,.inr ⟨by simp,x,hx,by rw[ei],hxp⟩,fun z hz=>?_,?_,fun z hz=>?_,?_,rg,by lia⟩)
  ·rcases bM.mp hz with hz|hz
   ·exact h3 z hz
   ·have:z=s:=by simpa using hz
    subst this
    exact⟨by rw[<-ei];exact cR hx,by rw[<-ei,aCa F.nd hx];exact hxp⟩
  ·refine dO.mpr ⟨h4,by simp,fun y hy z hz=>?_⟩
   have:z=s:=by simpa using hz
   subst this;rintro rfl;have:=h5 y hy;rw[ln]at this;lia
  ·rcases bM.mp hz with hz|hz
   ·have:=h5 z hz;lia
   ·have:z=s:=by simpa using hz
    subst this;rw[ln];exact ck
  ·rw[bD];simp;lia
end Lib
namespace Lib
open PySem L2 TL NF
variable{r:List (Nat×Nat)}{L:NF.Fl}
theorem aJa{α β:Type}{g:α->β}:∀{l:List α},TL.od (l.map g)=(NF.od l).map g
 | []=>by simp[TL.od,NF.od]
 | [_]=>by simp[TL.od,NF.od]
 |a::b::r=>by
  have ih:=aJa (g:=g) (l:=r);simp only[aM,TL.od,NF.od];rw[ih]
theorem aGz{α:Type}:∀{l:List α},(NF.od l).length<=l.length
 | []=>by simp[NF.od]
 | [_]=>by simp[NF.od]
 |a::b::r=>by
  have ih:=aGz (l:=r);simp only[NF.od,aN]
  lia
theorem aCb{C:Sto}{rc:Nat}{is:List Nat}(e:C[rc]?=some (.l,r.map stT))(hl:r.length<1000)(hi:NF.od r=is.map stw){Q:T->Sto->Prop}(q:Q (.lst (is.map fun i:Nat=>T.int (i:Int))) C):wpO (oS [.cell rc] C) Q:=by
 have yt:is.length<1000:=by
  have h1:=aGz (l:=r);rw[hi,aS]at h1
  lia
 refine iI ?_
 unfold xK;walk_at "b"
 refine iF.mpr (gE.mpr (kY.mpr (gE.mpr (aJv.mpr (eY.mpr ⟨_,rfl,_,fY.mpr e,?_⟩)))))
 rw[aJa,hi,cC]
 refine⟨_,rfl,by simp[lim];lia,?_⟩
 refine g8 (xs:=is) (en:=stT ∘ stw) (fun i:Nat=>T.int (i:Int)) (fun i _=>?_) q
 refine y9.mpr ⟨_,rfl,rfl,?_⟩
 refine gC.mpr (e9.mpr (eY.mpr ⟨.int ((2*i+2:Nat):Int),rfl,fJ.mpr ?_⟩))
 rw[show((2*i+2:Nat):Int)=2*(i:Int)+2 by lia]
 exact(fQ aDP rfl rfl).mpr ⟨rfl,rfl⟩
theorem wA{x:Int}:∀{r:List (Nat×Nat)}{L:NF.Fl},tks x r L=L.map fun e=>(e.1,e.2 - x*(r.count e.1:Int))
 | [],L=>by simp[tks]
 |s::r,L=>by
  unfold tks;rw[wA];unfold tk;rw[cC];apply cL;intro e _;simp only[d3];by_cases h:e.1=s
  ·rw[if_pos h];dsimp only;rw[h,List.count_cons_self,aQa,aQe,aQc];congr 1;lia
  ·rw[if_neg h,List.count_cons_of_ne (Ne.symm h)]
theorem Flw.take{a:Int}{ρ:Nat->Int}(F:Flw L a ρ){x:Int}(w:SW r 0 1)(hn:r.Nodup)(hx:∀s∈r,s∈L.map (·.1)/\x<=at_ L s):Flw (tks x r L) (a - x) ρ:=by
 have key:∀e'∈tks x r L,∃e∈L,e.1=e'.1/\e'.2=e.2 - x*(r.count e.1:Int):=fun e' he=>by
  rw[wA]at he;obtain⟨e,h1,rfl⟩:=bL.mp he
  exact⟨e,h1,rfl,rfl⟩
 refine⟨F.con.take F.nd (fun s hs=>(hx s hs).1) w,fun e' he=>?_,by rw[oG];exact F.nd,fun e' he=>?_,fun e' he=>?_,fun e' he=>?_,fun e' he=>?_,F.small,F.le,?_⟩
 ·obtain⟨e,h1,h2,h3⟩:=key e' he;have h4:=F.nn e h1;rw[h3];by_cases hs:e.1∈r
  ·rw[hn.count,if_pos hs];have:=(hx e.1 hs).2;rw[aCa F.nd h1]at this;simp;lia
  ·rw[List.count_eq_zero.mpr hs];simp;exact h4
 ·obtain⟨e,h1,h2,h3⟩:=key e' he;rw[<-h2];exact F.hz e h1
 ·obtain⟨e,h1,h2,h3⟩:=key e' he;rw[<-h2];exact F.rk e h1
 ·obtain⟨e,h1,h2,h3⟩:=key e' he;rw[<-h2];exact F.h1 e h1
 ·obtain⟨e,h1,h2,h3⟩:=key e' he;rw[<-h2];exact F.h0 e h1
 ·rw[wA,aS];exact F.len
theorem Flw.le_a{a:Int}{ρ:Nat->Int}(F:Flw L a ρ){e:(Nat×Nat)×Int}(he:e∈L):e.2<=a:=
 aJu F.con F.nn ρ F.rk he (by have:=F.rk e he;have:=F.h0 e he;lia) (F.h1 e he)
theorem aN0{s:Nat×Nat}(h:s∉L.map (·.1)):at_ L s=0:=by
 rw[<-rA];cases e:lk L s with
 |none=>rfl
 |some v=>exact absurd (oY.mp (by rw[e];rfl)) h
theorem Flw.zero{a:Int}{ρ:Nat->Int}(F:Flw L a ρ)(ha:a<=0)(s:Nat×Nat):at_ L s=0:=by
 by_cases h:s∈L.map (·.1)
 ·obtain⟨e,he,rfl⟩:=bL.mp h;rw[aCa F.nd he];have:=F.le_a he;have:=F.nn e he
  lia
 ·exact aN0 h
end Lib
namespace Lib
open PySem L2 TL NF
variable{L:NF.Fl}{s:Nat×Nat}
theorem aGT{s:Nat×Nat}{v:Int}:∀{L:NF.Fl},(ad s v L).length<=L.length+1
 | []=>by simp[ad]
 |e::L=>by
  have:=aGT (s:=s) (v:=v) (L:=L);unfold ad;split<;>simp<;>lia
theorem vY{N:Nt}{f:Nat->Int}:∀{k:Nat},(stp N f k).length<=k
 |0=>by simp[stp]
 |k+1=>by
  have h1:=vY (N:=N) (f:=f) (k:=k);have h2:=aGT (s:=(N.t k,N.h k)) (v:=f k) (L:=stp N f k);unfold stp;lia
theorem aKm:((lk L s).map T.int).getD (.int 0)=.int (at_ L s):=by
 rw[<-rA];cases lk L s<;>rfl
theorem aAn{α:Type}{p q:α->Bool}:∀{l:List α},(∀e∈l,q e=true->p e=true)->(l.filter q).length<=(l.filter p).length/\((∃e∈l,p e=true/\q e=false)->(l.filter q).length<(l.filter p).length)
 | [],_=>⟨bF _,fun⟨e,he,_⟩=>by cases he⟩
 |a::l,h=>by
  obtain⟨h1,h2⟩:=aAn (p:=p) (q:=q) (l:=l) fun e he=>h e (aZ _ he)
  have h3:=h a bJ;rw[aQb,aQb];cases hq:q a<;>cases hp:p a
  ·simp only[b9,if_false]
   refine⟨h1,fun⟨e,he,e1,e2⟩=>?_⟩
   rcases bE.mp he with rfl|he
   ·rw[hp]at e1;cases e1
   ·exact h2 ⟨e,he,e1,e2⟩
  ·simp only[b9,if_false,if_true,aN]
   exact⟨by lia,fun _=>by lia⟩
  ·rw[h3 hq]at hp;cases hp
  ·simp only[if_true,aN]
   refine⟨by lia,fun⟨e,he,e1,e2⟩=>?_⟩
   rcases bE.mp he with rfl|he
   ·rw[hq]at e2;cases e2
   ·have:=h2 ⟨e,he,e1,e2⟩;lia
noncomputable def posn(L:NF.Fl):Nat:=(L.filter fun e=>decide (0<e.2)).length
theorem aFP{r:List (Nat×Nat)}{x:Int}(hn:(L.map (·.1)).Nodup)(hr:r.Nodup)(hx:0<x)(hs:s∈r)(hk:s∈L.map (·.1))(he:at_ L s=x):posn (tks x r L)<posn L:=by
 unfold posn;rw[wA,List.filter_map,aS]
 refine(aAn fun e hel h=>?_).2 ?_
 ·simp only[d3,decide_eq_true_eq]at h|-;have:0<=x*(r.count e.1:Int):=dN (by lia) (by lia)
  lia
 ·obtain⟨e,h1,rfl⟩:=bL.mp hk;rw[aCa hn h1]at he
  refine⟨e,h1,decide_eq_true (by lia),?_⟩
  simp only[d3,decide_eq_false_iff_not];rw[hr.count,if_pos hs,he];simp
structure yV(n:Nat)(es:List (Nat×Nat))(L0:NF.Fl)(a0:Int)(rl:List (Nat×Int×List Nat))(L:NF.Fl)(a:Int):Prop where
 ok:∀z∈rl,1<=z.2.1/\z.2.2≠[]/\(∀i∈z.2.2,i<n)/\NF.Chn es none z.2.2/\∀i,z.2.2.count i<=1
 sum:(rl.map fun z=>z.2.1).sum=a0 - a
 thr:∀i,(rl.map fun z=>z.2.1*(z.2.2.count i:Int)).sum=at_ L0 (stw i) - at_ L (stw i)
noncomputable def aBa(z:Nat×Int×List Nat):Cl:=(.l,.int z.2.1::z.2.2.map fun i:Nat=>T.int (i:Int))
theorem aFN{N:Nt}{f:Nat->Int}{c n:Nat}{es:List (Nat×Nat)}{pl a0:Int}{ρ:Nat->Int}{C:Sto}(A:hZ N f c pl C)(hm:N.m<40000)(F0:Flw (stp N f N.m) a0 ρ)(hky:∀s∈(stp N f N.m).map (·.1),Ky n es s)(iy:0<=a0)(ox:a0<10^199){Q:T->Sto->Prop}
 (q:∀rl rw C',rl.length<=N.m->yV n es (stp N f N.m) a0 rl [] 0->C'[rw]?=some (.l,rl.map fun z=>.cell z.1)->(∀z∈rl,C'[z.1]?=some (aBa z))->Q (.cell rw) C'):wpO (mL [.cell c] C) Q:=by
 have ai:=A.len;have hf:nY "Net" "pipes" C (.cell c)=some (.cell (c+1)):=kP A.net rfl
 refine iI ?_
 unfold rR;walk_at "b"
 refine fK.mpr (f6.mpr (aC2.mpr (f9.mpr (fW.mpr (fK.mpr (lY.mpr ?_))))))
 have A1:∀x:Cl,hZ N f c pl (C++[x]):=fun x=>A.app ai
 have kl:∀x:Cl,lc (C++[x]) (c+1)=some ((bI N.m).map fun j=>.cell (pc c (j,true))):=fun x=>fY.mpr (A1 x).lst
 refine f8 (iS rfl (kP (A1 _).net rfl)) ⟨_,kl _,?_⟩
 refine i9 (xs:=bI N.m) (en:=fun j=>T.cell (pc c (j,true))) (fun j τ C'=>∃x y,τ=[some (.cell c),some (.cell C.length),x,y,none,none]/\C'=C++[mH (stp N f j)]) ⟨_,_,rfl,rfl⟩ ?_ ?_
 ·rintro j k τ C' hj ⟨x,y,rfl,rfl⟩;have hk:k=j/\j<N.m:=by
   obtain⟨h1,h2⟩:=aQ.mp hj;rw[dU]at h2
   exact⟨h2.symm,by simpa using h1⟩
  obtain⟨rfl,vo⟩:=hk;obtain⟨f1,f2,f3,f4,f5⟩:=(A1 (mH (stp N f k))).fld (o:=(k,true)) vo;obtain⟨g1,g2,g3,g4,g5⟩:=(A1 (mH (stp N f k))).fld (o:=(k,false)) vo;have eD:(C++[mH (stp N f k)])[C.length]?=some (mH (stp N f k)):=by simp
  have oa:=vY (N:=N) (f:=f) (k:=k);unfold pL
  refine f9.mpr (fK.mpr (f6.mpr (fE.mpr (e9.mpr ?_))))
  refine f8 (iS (t:=.cell (pc c (k,true))) rfl f1) (e9.mpr ?_)
  refine f8 (iS (t:=.cell (pc c (k,true))) rfl f2) (fJ.mpr ⟨by simp[lim],f9.mpr (fW.mpr ?_)⟩)
  refine aCN (fL.mpr (aFw (eY.mpr ⟨_,rfl,by unfold isDc;rw[aIB (.inl eD)];simp,eY.mpr ⟨stT (N.t k,N.h k),rfl,gG.mpr ⟨_,wC (.inl eD),?_⟩⟩⟩)))
  rw[aKm]
  refine wD.mpr (wD.mpr (eY.mpr ⟨_,rfl,_,f5,_,g4,jS.mpr ?_⟩))
  refine eY.mpr ⟨_,rfl,eY.mpr ⟨stT (N.t k,N.h k),rfl,_,aEX eD (by simp[lim];lia),?_,_,_,rfl,?_⟩⟩
  ·show lc _ (c+1)=_;rw[fY,aR (by lia)];exact(A1 _).lst
  ·rw[b8 _ _ (bF _),dE];show C++[mH (mI (stp N f k) (N.t k,N.h k) (at_ (stp N f k) (N.t k,N.h k)+rr N f (k,false)))]=_;rw[show rr N f (k,false)=f k from rfl,aEZ uT];rfl
 ·rintro τ C' ⟨x,y,rfl,rfl⟩;rw[eR];have eD:∀z:Cl,(C++[mH (stp N f N.m)]++[z])[C.length]?=some (mH (stp N f N.m)):=fun z=>by simp
  refine fW.mpr (fK.mpr (f6.mpr (jK.mpr (hJ.mpr (fJ.mpr ⟨by decide,?_⟩)))))
  refine f9.mpr (fW.mpr (fK.mpr (f6.mpr (jH.mpr (e9.mpr ?_)))))
  refine eY.mpr ⟨_,rfl,fJ.mpr ⟨rfl,yQ F0 (eD _) fun r0 xy=>?_⟩⟩
  refine f9.mpr (fW.mpr (fK.mpr ?_))
  refine uQ (fun m τ C'=>∃rl L a r rc x y,τ=[some (.cell c),some (.cell C.length),x,y,some (.cell (C.length+1)),some (.cell rc)]/\C'[C.length]?=some (mH L)/\C'[C.length+1]?=some (.l,rl.map fun z=>.cell z.1)/\C'[rc]?=some (.l,r.map stT)/\C.length+1<rc/\
   (∀z∈rl,C.length+1<z.1/\C'[z.1]?=some (aBa z))/\rl.length+posn L<=N.m/\Flw L a ρ/\L.map (·.1)=(stp N f N.m).map (·.1)/\yV n es (stp N f N.m) a0 rl L a/\((r=[]/\a<=0)\/(r≠[]/\SW r 0 1/\r.Nodup/\r.length<1000/\∀s∈r,s∈L.map (·.1)/\0<at_ L s))/\0<=a/\a<=(m:Int)) (m:=a0.toNat) ?_ ?_ ?_
  ·have:a0.toNat<10^199:=by lia
   exact bO this (dZ (by decide) (by decide))
  ·refine⟨[],stp N f N.m,a0,r0,C.length+2,x,y,by simp,?_,?_,?_,by lia,by simp,?_,F0,rfl,⟨by simp,by simp,by simp⟩,xy,iy,by lia⟩
   ·rw[aY (by simp)];exact eD _
   ·rw[cS,cS,bK (by lia),show C.length+1 - C.length=1 by lia];rfl
   ·rw[cS,cS,bK (by lia),show C.length+2 - C.length=2 by lia];rfl
   ·have h1:posn (stp N f N.m)<=(stp N f N.m).length:=aO9 _ _;have h2:=vY (N:=N) (f:=f) (k:=N.m);simp;lia
  rintro m τ C' ⟨rl,L,a,r,rc,x,y,rfl,e1,e2,e3,hrc,ki,cm,F,km,RO,hr,ha,vm⟩
  refine lZ.mpr (eY.mpr ⟨_,rfl,!(r.map stT).isEmpty,by show(lc C' rc).map _=_;rw[fY.mpr e3];rfl,?_⟩)
  rcases hr with⟨rfl,cw⟩| ⟨ba,jf,xv,gh,ck⟩
  ·rw[if_neg (by simp)]
   refine fW.mpr (iF.mpr (eY.mpr ⟨_,rfl,q rl (C.length+1) C' (by lia) ⟨RO.ok,?_,fun i=>?_⟩ e2 fun z hz=>(ki z hz).2⟩))
   ·rw[RO.sum];lia
   ·rw[RO.thr i,F.zero cw];rfl
  ·rw[if_pos (by cases r with|nil=>exact absurd rfl ba|cons s r=>rfl)];obtain⟨m1,m2⟩:=y8 (ns:=r.map (at_ L)) (by rintro z;exact ba (aPi.mp z));generalize hx:uJ (r.map (at_ L))=v at m1 m2;obtain⟨s0,oe,lp⟩:=bL.mp m1;have hv:0<v:=by rw[<-lp];exact(ck s0 oe).2
   have hle:∀s∈r,s∈L.map (·.1)/\v<=at_ L s:=fun s hs=>⟨(ck s hs).1,m2 _ (cR hs)⟩
   have hva:v<=a:=by
    obtain⟨e,he,rfl⟩:=bL.mp (ck s0 oe).1;rw[<-lp,aCa F.nd he];exact F.le_a he
   have F':=F.take jf xv hle;have lz:(tks v r L).map (·.1)=(stp N f N.m).map (·.1):=by rw[oG];exact km
   obtain⟨is,i1,i2,i3,i4,i5⟩:=aHC (n:=n) (es:=es) r none jf fun s hs=>hky s (by rw[<-km];exact(ck s hs).1)
   have hpt:=aFP F.nd xv hv oe (ck s0 oe).1 lp;have l1:=j9 e1;have l2:=j9 e2;have l3:=j9 e3;have k3:(C'.set C.length (mH (tks v r L)))[rc]?=some (.l,r.map stT):=by rw[aR (by lia)];exact e3
   unfold pW
   refine fK.mpr (oV.mpr (eY.mpr ⟨_,rfl,e9.mpr (jK.mpr (sT.mpr (gE.mpr (hJ.mpr (e9.mpr (jH.mpr (e9.mpr ?_)))))))⟩))
   refine eY.mpr ⟨_,rfl,e9.mpr (eY.mpr ⟨_,rfl,fJ.mpr ⟨rfl,aCj e1 e3 F.nd F.len ba gh (fun s hs=>(ck s hs).1) ?_⟩⟩)⟩
   rw[hx]
   refine fJ.mpr ⟨by simp[lim],jH.mpr (e9.mpr (eY.mpr ⟨_,rfl,fJ.mpr ⟨rfl,aCb k3 gh i1 ?_⟩⟩))⟩
   have yt:is.length<1000:=by
    have h1:=aGz (l:=r);rw[i1,aS]at h1
    lia
   refine wH.mpr ⟨_,rfl,_,rfl,by simp[lim];lia,fJ.mpr ⟨_,rfl,by rw[fY.mpr e2];rfl,_,fY.mpr (?_ :_=some (Kd.l,rl.map fun z=>T.cell z.1)),o4.mpr ⟨by simp[lim];lia,?_⟩⟩⟩
   ·rw[aY (by rw[cM];exact l2),aR (by lia)];exact e2
   generalize kr:(C'.set C.length (mH (tks v r L))++[(Kd.l,[T.int v]++is.map fun i:Nat=>T.int (i:Int))]).set (C.length+1) (Kd.l,(rl.map fun z=>T.cell z.1)++[T.cell (C'.set C.length (mH (tks v r L))).length])=C2;have lC2:C2.length=C'.length+1:=by rw[<-kr];simp
   have old:∀i,i<C'.length->i≠C.length->i≠C.length+1->C2[i]?=C'[i]?:=fun i hi h1 h2=>by
    rw[<-kr,aR (Ne.symm h2),aY (by rw[cM];exact hi),aR (Ne.symm h1)]
   have c1:C2[C.length]?=some (mH (tks v r L)):=by
    rw[<-kr,aR (by lia),aY (by rw[cM];exact l1)];exact mF l1
   have c2:C2[C.length+1]?=some (Kd.l,(rl++[(C'.length,v,is)]).map fun z=>T.cell z.1):=by
    rw[<-kr,bN (by simp;lia),bP,cM];rfl
   have c3:C2[C'.length]?=some (aBa (C'.length,v,is)):=by
    rw[<-kr,aR (by lia),bK (by simp)];simp[aBa]
   refine fW.mpr (f6.mpr (jH.mpr (e9.mpr (eY.mpr ⟨_,rfl,fJ.mpr ⟨rfl,yQ F' c1 fun r2 rm=>?_⟩⟩))))
   refine f9.mpr ⟨(a - v).toNat,by lia,rl++[(C'.length,v,is)],tks v r L,a - v,r2,C2.length,x,y,rfl,?_,?_,?_,by lia,fun z hz=>?_,?_,F',lz,⟨fun z hz=>?_,?_,fun i=>?_⟩,rm,by lia,by lia⟩
   ·rw[aY (by lia)];exact c1
   ·rw[aY (by lia)];exact c2
   ·simp
   ·rcases bM.mp hz with hz|hz
    ·obtain⟨g1,g2⟩:=ki z hz
     refine⟨g1,?_⟩
     rw[aY (by have:=j9 g2;lia),old _ (j9 g2) (by lia) (by lia)];exact g2
    ·have:z=(C'.length,v,is):=by simpa using hz
     subst this
     refine⟨by show C.length+1<C'.length;lia,?_⟩
     rw[aY (by show C'.length<C2.length;lia)];exact c3
   ·rw[bD];simp;lia
   ·rcases bM.mp hz with hz|hz
    ·exact RO.ok z hz
    ·have:z=(C'.length,v,is):=by simpa using hz
     subst this
     refine⟨by show 1<=v;lia,i4 rfl,i2,i3,fun i=>?_⟩
     show is.count i<=1;rw[<-i5 i];exact List.nodup_iff_count.mp xv _
   ·rw[bP,aO1,RO.sum];simp;lia
   ·rw[bP,aO1,RO.thr i,aGw (fun s hs=>(ck s hs).1)];have:=i5 i;simp;rw[this];lia
end Lib
namespace Lib
open PySem L2 TL
variable{G:FS}{Q:Fl->TSt->Sto->Prop}{ga:FB}{i u z:Int}{ns:List Int}
def Nb(n:Int):Prop:=0<=n/\n<2^140
def tS(w:Int×Int×Int):Prop:=0<=w.2.1/\w.2.1<=w.1/\0<=w.2.2/\w.1<2^252/\w.2.2<2^252
def wQ(w:Int×Int×Int):Prop:=0<=w.2.1/\w.2.1<=w.1/\0<=w.2.2/\w.1<2^240/\w.2.2<2^240
theorem wQ.b{w:Int×Int×Int}(h:wQ w):tS w:=⟨h.1,h.2.1,h.2.2.1,aOV h.2.2.2.1 (by decide),aOV h.2.2.2.2 (by decide)⟩
theorem sqP{F:FS}{τ:TSt}{C:Sto}(P:TSt->Sto->Prop)(h1:wpS F τ C fun l aq C1=>l=.nx/\P aq C1)(h2:∀aq C1,P aq C1->wpS G aq C1 Q):wpS (fN F G) τ C Q:=by
 obtain⟨l,aq,C1,e,rfl,p⟩:=h1;obtain⟨l2,ap,C2,e2,q⟩:=h2 aq C1 p
 exact fK.mpr ⟨_,_,_,e,l2,ap,C2,e2,q⟩
theorem ifF{F:FS}{τ:TSt}{C:Sto}(h1:wpB ga τ C fun x C1=>x=false/\C1=C)(h2:wpS G τ C Q):wpS (fIf ga F G) τ C Q:=by
 obtain⟨x,C1,e,rfl,rfl⟩:=h1
 exact lO.mpr ⟨_,_,e,h2⟩
theorem ifT{F:FS}{τ:TSt}{C:Sto}(h1:wpB ga τ C fun x C1=>x=true/\C1=C)(h2:wpS F τ C Q):wpS (fIf ga F G) τ C Q:=by
 obtain⟨x,C1,e,rfl,rfl⟩:=h1
 exact lO.mpr ⟨_,_,e,h2⟩
theorem sqA{a:FE}{i:Nat}{t:T}{τ:TSt}{C:Sto}(h1:wpE a τ C fun x C1=>x=t/\C1=C)(h2:wpS G (τ.set i (some t)) C Q):wpS (fN (fZ a (gN i)) G) τ C Q:=by
 obtain⟨x,C1,e,rfl,rfl⟩:=h1
 exact fK.mpr (f6.mpr ⟨_,_,e,f9.mpr (fW.mpr h2)⟩)
theorem aGq{a b c k:Int}(ha:Sm a)(hb:Sm b)(hc:Sm c)(hu:0<=u)(qv:u<=2^100):∃t,sH [.int a,.int b,.int c,.int k,.int u]=some t/\∃w,t=w3 w/\wQ w:=by
 apply lE;unfold aE0;have au:0<=a*u:=dN ha.1 hu;have bu:0<=b*u:=dN hb.1 hu;have cu:0<=c*u:=dN hc.1 hu;have au2:a*u<=2147483587*2^100:=aPq (aO8 ha.2) qv hu (by decide);have bu2:b*u<=2147483587*2^100:=aPq (aO8 hb.2) qv hu (by decide);have cu2:c*u<=2147483587*2^100:=aPq (aO8 hc.2) qv hu (by decide);have e5:=iP (x:=a) (m:=5) (by decide);have e97:=iP (x:=b) (m:=97) (by decide);have e6:=iP (x:=b) (m:=6) (by decide);have e3:=iP (x:=b) (m:=3) (by decide);have e50:=iP (x:=b/3) (m:=50) (by decide);have ec5:=iP (x:=c) (m:=5) (by decide);have e89:=iP (x:=a) (m:=89) (by decide);have h0:Nb 0:=⟨by decide,by decide⟩;have h1:Nb (a%5):=⟨e5.1,by lia⟩;have h2:Nb (a*u+b%97):=⟨by lia,by lia⟩;have m1:Nb (b%6):=⟨e6.1,by lia⟩;have m2:Nb (b*u*(if decide (0<b%4)=true then 1 else 0)):=by split<;>exact⟨by lia,by lia⟩
 have m3:Nb (b%3*(b/3%50)):=⟨dN e3.1 e50.1,by
  have:b%3*(b/3%50)<=3*50:=aPq (by lia) (by lia) e50.1 (by decide)
  lia⟩
 have p1:Nb (c%5):=⟨ec5.1,by lia⟩;have p2:Nb (c*u+a%89):=⟨by lia,by lia⟩;have hq:=iP (x:=c/64) (m:=4) (by lia);obtain⟨z,ez,p3⟩:∃z:Int,atI [T.int 0,T.int 3,T.int 3,T.int (1+c%40)] (c/64%4)=some (.int z)/\Nb z:=by
  obtain⟨t,ht,et⟩:=aBJ (xs:=[T.int 0,T.int 3,T.int 3,T.int (1+c%40)]) hq.1 (by simpa using hq.2);have:=iP (x:=c) (m:=40) (by decide);simp only[bE,cA,or_false]at ht;rcases ht with rfl|rfl|rfl|rfl
  ·exact⟨0,et,by decide,by decide⟩
  ·exact⟨3,et,by decide,by decide⟩
  ·exact⟨3,et,by decide,by decide⟩
  ·exact⟨_,et,by lia,by lia⟩
 have fin:∀{l mq p:Int},Nb l->Nb mq->Nb p->∃t,dr 3 [] (T.lst [.int (l+mq),.int l,.int p])=some t/\∃w,t=w3 w/\wQ w:=fun {l mq p} h1 h2 h3=>⟨_,hX (by walk_at "c"),(l+mq,l,p),rfl,h1.1,by show l<=l+mq;have:=h2.1;lia,h3.1,by show l+mq<2^240;have:=h1.2;have:=h2.2;lia,by show p<2^240;have:=h3.2;lia⟩
 have k1:j7 a u=true:=gB (ha.bt.mono (by decide));have k2:j7 b u=true:=gB (hb.bt.mono (by decide));have k3:j7 c u=true:=gB (hc.bt.mono (by decide));have k4:j7 (b*u) (if decide (0<b%4)=true then 1 else 0)=true:=by split<;>walk_at "a"
 have k5:j7 (b%3) (b/3%50)=true:=gB ((Bt.mod (k:=10) (by decide) (by decide)).mono (by decide));walk_at "b"
 refine sqP (fun τ C=>C=[]/\τ=[some (.int a),some (.int b),some (.int c),some (.int k),some (.int u),some (.int (a%5)),none,none]) (by simp_arith[↓fG,↓fF,↓fE];decide) ?_
 rintro _ _ ⟨rfl,rfl⟩
 refine sqP (fun τ C=>C=[]/\τ=[some (.int a),some (.int b),some (.int c),some (.int k),some (.int u),some (.int (a%5)),some (.int (b%6)),none]) (by simp_arith[↓fG,↓fF,↓fE];decide) ?_
 rintro _ _ ⟨rfl,rfl⟩
 refine sqP (fun τ C=>C=[]/\τ=[some (.int a),some (.int b),some (.int c),some (.int k),some (.int u),some (.int (a%5)),some (.int (b%6)),some (.int (c%5))]) (by simp_arith[↓fG,↓fF,↓fE];decide) ?_
 rintro _ _ ⟨rfl,rfl⟩
 refine sqP (fun τ C=>C=[]/\∃l m p,Nb l/\Nb m/\Nb p/\τ=[some (.int a),some (.int b),some (.int c),some (.int k),some (.int u),some (.int l),some (.int m),some (.int p)]) ?_ ?_
 ·by_cases hk:k=1
  ·refine ifT (by simp_arith[↓fG,↓fF,↓fE];simp[hk]) ?_
   refine sqP (fun τ C=>C=[]/\τ=[some (.int a),some (.int b),some (.int c),some (.int k),some (.int u),some (.int (a*u+b%97)),some (.int (b%6)),some (.int (c%5))]) (by simp_arith[↓fG,↓fF,↓fE];exact⟨k1,by decide⟩) ?_
   rintro _ _ ⟨rfl,rfl⟩
   refine sqP (fun τ C=>C=[]/\τ=[some (.int a),some (.int b),some (.int c),some (.int k),some (.int u),some (.int (a*u+b%97)),some (.int (b*u*(if decide (0<b%4)=true then 1 else 0))),some (.int (c%5))]) (by simp_arith[↓fG,↓fF,↓fE];exact⟨k2,by decide,k4⟩) ?_
   rintro _ _ ⟨rfl,rfl⟩;simp_arith[↓fG,↓fF,↓fE]
   exact⟨k3,by decide,_,h2,_,m2,_,p2,rfl⟩
  ·exact ifF (by simp_arith[↓fG,↓fF,↓fE];simp[hk]) (iD.mpr ⟨rfl,rfl,_,_,_,h1,m1,p1,rfl⟩)
 rintro _ _ ⟨rfl,l,m,p,hl,hm,hp,rfl⟩
 refine sqP (fun τ C=>C=[]/\∃l m p,Nb l/\Nb m/\Nb p/\τ=[some (.int a),some (.int b),some (.int c),some (.int k),some (.int u),some (.int l),some (.int m),some (.int p)]) ?_ ?_
 ·by_cases hk:k=2
  ·refine ifT (by simp_arith[↓fG,↓fF,↓fE];simp[hk]) ?_
   refine sqP (fun τ C=>C=[]/\τ=[some (.int a),some (.int b),some (.int c),some (.int k),some (.int u),some (.int l),some (.int (b%3*(b/3%50))),some (.int p)]) (by simp_arith[↓fG,↓fF,↓fE];exact⟨by decide,by decide,by decide,k5⟩) ?_
   rintro _ _ ⟨rfl,rfl⟩;simp_arith[↓fG,↓fF,↓fE,↓fO ez]
   exact⟨by decide,by decide,by decide,by decide,_,hl,_,m3,_,p3,rfl⟩
  ·exact ifF (by simp_arith[↓fG,↓fF,↓fE];simp[hk]) (iD.mpr ⟨rfl,rfl,_,_,_,hl,hm,hp,rfl⟩)
 rintro _ _ ⟨rfl,l,m,p,hl,hm,hp,rfl⟩
 refine sqP (fun τ C=>C=[]/\∃l m p,Nb l/\Nb m/\Nb p/\τ=[some (.int a),some (.int b),some (.int c),some (.int k),some (.int u),some (.int l),some (.int m),some (.int p)]) ?_ ?_
 ·refine lO.mpr ?_
  simp_arith[↓fG,↓fF,↓fE];split
  ·refine⟨by decide,?_⟩
   split
   ·exact⟨_,h0,_,hm,_,hp,rfl⟩
   ·exact⟨_,hl,_,hm,_,hp,rfl⟩
  ·exact⟨_,hl,_,hm,_,hp,rfl⟩
 rintro _ _ ⟨rfl,l,m,p,hl,hm,hp,rfl⟩;simp_arith[↓fG,↓fF,↓fE]
 exact⟨by decide,fin hl hm hp⟩
def LotG(M:Nat)(t:T):Prop:=∃(ws:List (Int×Int×Int))(ps:List (Int×Int)),t=.tup [.lst (ws.map w3),.lst (ps.map pT)]/\ws.length<=M/\ps.length<=20/\(∀w∈ws,wQ w)/\∃rs,Rk ws.length rs/\∀p∈ps,Al rs p
theorem aFI{m M:Nat}(ny:0<u)(hu:u<=10^20)(hm:m<=5)(hM:m<=M):∃t,oZ [.lst (ns.map T.int),.int m,.int u]=some t/\LotG M t:=by
 apply lE;unfold yB;walk_at "b";obtain⟨base,jt,hb0,ze⟩:∃base:Int,(if lM ns 1/576%2=0 then(1:Int)else u*10^aPC 9)=base/\0<base/\base<2^200:=by
  refine⟨_,rfl,?_⟩
  split
  ·decide
  ·rw[show(10:Int)^aPC 9=1000000000 from rfl];lia
 have pick:∀k:Int,0<k->k<10->∃d:Int,atI [T.int k,T.int base] (if decide (1<base)=true then 1 else 0)=some (.int d)/\0<d/\d<2^200:=by
  intro k h1 h2;split
  ·exact⟨base,rfl,hb0,ze⟩
  ·exact⟨k,rfl,h1,by lia⟩
 obtain⟨d5,e5,h5,h5'⟩:=pick 5 (by decide) (by decide);obtain⟨d6,e6,h6,h6'⟩:=pick 6 (by decide) (by decide);have k9:j7 u (10^aPC 9)=true:=gL (Bt.of_lt (by decide) (by decide))
 refine sqA (t:=.int base) (by
  simp_arith[↓fG,↓fF,↓fE,↓nC,aAb,jt]
  exact⟨by decide,k9,by decide,by decide,by decide⟩) ?_
 dsimp only[b5]
 refine fK.mpr (f6.mpr (jK.mpr (hJ.mpr (fJ.mpr ⟨by decide,f9.mpr (fW.mpr ?_)⟩))))
 dsimp only[b5,aX,aP]
 refine fK.mpr (qI.mpr (eY.mpr ⟨_,rfl,_,rfl,by lia,mX (fun i τ C=>∃a b d e:Option T,τ=[some (.lst (ns.map T.int)),some (.int m),some (.int u),some (.int base),some (.cell 0),a,b,d,e,none,none,none]/\∃ws:List (Int×Int×Int),C=[(.l,ws.map w3)]/\ws.length=i/\∀w∈ws,wQ w) ⟨_,_,_,_,rfl,[],rfl,rfl,by simp⟩ ?_ ?_⟩))
 ·rintro i τ C hi ⟨_,_,_,_,rfl,ws,rfl,jd,dn⟩;have h3:0<=3+(0+(i:Int)):=by lia
  unfold sR
  refine f9.mpr ?_
  dsimp only[b5]
  refine sqA (t:=.int (lM ns (3+(0+(i:Int))))) (by simp_arith[↓fG,↓fF,↓fE,↓nC]) ?_
  dsimp only[b5];generalize lM ns (3+(0+(i:Int)))=z;have a1:=iP (x:=z) h5;have a2:=iP (x:=z/d5) h6;have a3:=iP (x:=z/d5/d6) h5
  refine sqA (t:=.int (z%d5)) (by simp_arith[↓fG,↓fF,↓fE,↓fO e5];walk_at "a") ?_
  dsimp only[b5];generalize z%d5=z1 at a1
  refine sqA (t:=.int (z/d5)) (by simp_arith[↓fG,↓fF,↓fE,↓fO e5];walk_at "a") ?_
  dsimp only[b5]
  refine sqA (t:=.int (z/d5%d6)) (by simp_arith[↓fG,↓fF,↓fE,↓fO e6];walk_at "a") ?_
  dsimp only[b5];generalize z/d5%d6=z2 at a2
  refine sqA (t:=.int (z/d5/d6)) (by simp_arith[↓fG,↓fF,↓fE,↓fO e6];walk_at "a") ?_
  dsimp only[b5];simp_arith[↓fG,↓fF,↓fE,↓fO e5];generalize z/d5/d6%d5=z3 at a3
  refine⟨by decide,by walk_at "a",by decide,by walk_at "a",_,_,_,_,rfl,ws++[(z1+z2,z1,z3)],by rw[aLi],by simp[jd],fun w hw=>?_⟩
  rcases bM.mp hw with hw|hw
  ·exact dn w hw
  ·rw[bS.mp hw]
   exact⟨a1.1,by show z1<=z1+z2;lia,a3.1,by show z1+z2<2^240;lia,by show z3<2^240;lia⟩
 rintro τ C ⟨_,_,_,_,rfl,ws,rfl,jd,dn⟩;simp only[c9]at jd
 refine fW.mpr (sqA (t:=.int (lM ns 2)) (by simp_arith[↓fG,↓fF,↓fE,↓nC]) ?_)
 dsimp only[b5]
 refine fK.mpr (f6.mpr (jK.mpr (hJ.mpr (fJ.mpr ⟨by decide,f9.mpr (fW.mpr ?_)⟩))))
 dsimp only[b5,aV,aX,aP,aN]
 refine fK.mpr (qI.mpr (eY.mpr ⟨_,rfl,_,rfl,by lia,mX (fun i τ C=>∃(a b d:Option T)(z:Int),τ=[some (.lst (ns.map T.int)),some (.int m),some (.int u),some (.int base),some (.cell 0),a,some (.int z),b,d,some (.cell 1),none,none]/\∃rs:List Int,C=[(.l,ws.map w3),(.l,rs.map T.int)]/\Rk i rs) ⟨_,_,_,_,rfl,[],rfl,⟨rfl,.nil,by simp⟩⟩ ?_ ?_⟩))
 ·rintro i τ C hi ⟨_,_,_,z,rfl,rs,rfl,hr⟩;have ai:=hr.len;have b2:=iP (x:=z) (m:=0+(i:Int)+1) (by lia);unfold tJ;simp_arith[↓fG,↓fF,↓fE];generalize z%(0+(i:Int)+1)=q at b2
  refine⟨by walk_at "a",⟨by walk_at "a",by lia,by lia⟩,jT ⟨by lia,by lia⟩,_,_,_,_,rfl,insAt rs q (i:Int),by rw[aO5,<-tV],hr.ins⟩
 rintro τ C ⟨_,_,_,z,rfl,rs,rfl,hr⟩;have ck:Rk m rs:=by simpa using hr
 have ai:=ck.len
 refine fW.mpr (fK.mpr (f6.mpr (jK.mpr (hJ.mpr (fJ.mpr ⟨by decide,f9.mpr (fW.mpr ?_)⟩)))))
 dsimp only[b5,aV,aX,aP,aN]
 refine fK.mpr (qI.mpr (eY.mpr ⟨_,rfl,_,rfl,by lia,mX (fun i τ C=>∃(a b d e:Option T)(z:Int),τ=[some (.lst (ns.map T.int)),some (.int m),some (.int u),some (.int base),some (.cell 0),a,some (.int z),b,d,some (.cell 1),some (.cell 2),e]/\∃ps:List (Int×Int),C=[(.l,ws.map w3),(.l,rs.map T.int),(.l,ps.map pT)]/\ps.length<=i*4/\∀p∈ps,Al rs p) ⟨_,_,_,_,_,rfl,[],rfl,by simp,by simp⟩ ?_ ?_⟩))
 ·rintro k τ C hk ⟨_,_,_,_,z,rfl,ps,rfl,lq,cw⟩;have hk:k<m:=by lia
  unfold sK;simp_arith[↓fG,↓fF,↓fE];rw[sV]
  refine i9 (fun j τ C=>∃(b d e:Option T)(z:Int),τ=[some (.lst (ns.map T.int)),some (.int m),some (.int u),some (.int base),some (.cell 0),some (.int (0+(k:Int))),some (.int z),b,d,some (.cell 1),some (.cell 2),e]/\∃ps:List (Int×Int),C=[(.l,ws.map w3),(.l,rs.map T.int),(.l,ps.map pT)]/\ps.length<=k*4+j/\∀p∈ps,Al rs p) ⟨_,_,_,_,rfl,ps,rfl,lq,cw⟩ ?_ ?_
  ·rintro j x τ C hj ⟨_,_,_,z,rfl,ps,rfl,lq,cw⟩;rw[aEl (by lia),show(0+(k:Int)).toNat=k by lia]at hj;obtain⟨vp,tf⟩:=aQ.mp hj;have ip:j<k:=by simp at vp;lia
   rw[List.getElem_take]at tf;have e1:=wV (ns:=rs) (i:=0+(k:Int)) (by lia) (by lia);unfold sN;simp_arith[↓fG,↓fF,↓fE,↓fO e1]
   refine⟨by walk_at "a",?_⟩
   split
   ·refine⟨by walk_at "a",by walk_at "a",by decide,trivial,_,_,_,_,rfl,_,by rw[aKG],by simp;lia,fun p hp=>?_⟩
    rcases bM.mp hp with hp|hp
    ·exact cw p hp
    ·rw[bS.mp hp]
     exact⟨j,k,ip,by rw[<-tf];exact bA (by lia),by rw[bA (by lia)];congr 2;lia⟩
   ·exact⟨by decide,trivial,_,_,_,_,rfl,ps,rfl,by lia,cw⟩
  ·rintro τ C ⟨_,_,_,z,rfl,ps,rfl,lq,cw⟩;have:(yW rs none (some (0+(k:Int)))).length<=4:=by rw[aEl (by lia),d9];lia
   exact⟨_,_,_,_,_,rfl,ps,rfl,by lia,cw⟩
 rintro τ C ⟨_,_,_,_,z,rfl,ps,rfl,lq,cw⟩;simp only[c9]at lq;simp_arith[↓fG,↓fF,↓fE]
 refine⟨by walk_at "a",_,aMg (us:=[.lst (ws.map w3),.lst (ps.map pT)]) (jI (vU rfl pG) (jI (aH6 rfl) rfl)),ws,ps,rfl,by lia,by lia,dn,rs,by rw[jd];exact ck,cw⟩
theorem pick3{x y:Int}:∃t∈[x,y,z],atI [T.int x,T.int y,T.int z] (i%3)=some (.int t):=by
 have hq:=iP (x:=i) (m:=3) (by decide);obtain⟨t,ht,et⟩:=aBJ (xs:=[x,y,z]) hq.1 hq.2
 exact⟨t,ht,by rw[show[T.int x,T.int y,T.int z]=[x,y,z].map T.int from rfl,sD,et];rfl⟩
theorem pick4{x y:Int}:∃t∈[x,y,z,u],atI [T.int x,T.int y,T.int z,T.int u] (i%4)=some (.int t):=by
 have hq:=iP (x:=i) (m:=4) (by decide);obtain⟨t,ht,et⟩:=aBJ (xs:=[x,y,z,u]) hq.1 hq.2
 exact⟨t,ht,by rw[show[T.int x,T.int y,T.int z,T.int u]=[x,y,z,u].map T.int from rfl,sD,et];rfl⟩
theorem aJc(hl:ns.length<=63){M:Nat}(h4:4<=M)(h8:M<=8)(ny:0<u)(hu:u<=10^20):∃t,z6 [.lst (ns.map T.int),.int M,.int u]=some t/\LotG M t:=by
 obtain⟨_,e1,xs,rfl,ll,ei⟩:=aCe hl;have w1:∀{C Q},wpO (iX 1 nE [.lst (ns.map T.int)] C) Q↔Q (.lst (xs.map T.int)) C:=fQ e1 rfl (by walk_at "c");have px:∀i:Int,0<=i->i<40->∃x,atI (xs.map T.int) i=some (.int x)/\Sm x:=fun i h1 h2=>⟨_,wV h1 (by lia),ei _ (dS _)⟩
 apply lE;unfold aLs;walk_at "b"
 refine sqA (t:=.lst (xs.map T.int)) (by simp_arith[↓fG,↓fF,↓fE,↓w1]) ?_
 dsimp only[b5]
 refine sqA (t:=.int (lM ns 0)) (by simp_arith[↓fG,↓fF,↓fE,↓nC]) ?_
 dsimp only[b5];generalize lM ns 0=first
 have rp:=iP (x:=first/4) (m:=min 6 ((M:Int)+1)) (by lia)
 refine sqA (t:=.int (first/4%min 6 ((M:Int)+1))) (by simp_arith[↓fG,↓fF,↓fE];exact⟨by decide,by walk_at "a"⟩) ?_
 dsimp only[b5];generalize first/4%min 6 ((M:Int)+1)=few at rp
 obtain⟨z,hz,ez⟩:=pick4 (x:=0) (y:=0) (z:=1) (u:=2) (i:=first/4);have q2:=iP (x:=first/4) (m:=3) (by decide);obtain⟨mi,yi,em⟩:=pick4 (x:=few) (y:=(M:Int) - z) (z:=few) (u:=min (M:Int) (3+first/4%3)) (i:=first);simp only[bE,cA,or_false]at hz yi;have xi:0<=z/\z<=2:=by rcases hz with rfl|rfl|rfl|rfl<;>decide
 have hf6:few<(M:Int)+1:=aPp rp.2 (Int.min_le_right _ _);have hmb:0<=mi/\mi<=M:=by
  rcases yi with h|h|h|h
  ·rw[h];exact⟨rp.1,by lia⟩
  ·rw[h];exact⟨by lia,by lia⟩
  ·rw[h];exact⟨rp.1,by lia⟩
  ·rw[h];exact⟨Int.le_min.mpr ⟨by lia,by lia⟩,aQj _ _⟩
 clear hz yi xi hf6 rp q2;obtain⟨m,rfl,hm⟩:∃m:Nat,mi=m/\m<=M:=⟨mi.toNat,by lia,by lia⟩;clear hmb
 refine sqA (t:=.int m) (by simp_arith[↓fG,↓fF,↓fE,↓fO ez,↓fO em];decide) ?_
 dsimp only[b5]
 refine sqA (t:=.int (lM ns 1)) (by simp_arith[↓fG,↓fF,↓fE,↓nC]) ?_
 dsimp only[b5];generalize lM ns 1=c
 refine fK.mpr ?_
 by_cases hc:c/288%2=1
 ·refine ifT (by simp_arith[↓fG,↓fF,↓fE,hc];decide) ?_
  obtain⟨k5,ek5,hk3,hk5⟩:∃k:Int,atI [T.int 5,T.int 3] (if decide ((M:Int)<5)=true then 1 else 0)=some (.int k)/\3<=k/\k<=5:=by
   split
   ·exact⟨3,rfl,by decide,by decide⟩
   ·exact⟨5,rfl,by decide,by decide⟩
  obtain⟨j,hj,hj5,vo⟩:∃j:Nat,min (m:Int) k5=j/\j<=5/\j<=M:=⟨(min (m:Int) k5).toNat,by lia,by lia,by lia⟩;obtain⟨t,et,ws,ps,rfl,ht⟩:=aFI (ns:=ns) ny hu hj5 vo;simp_arith[↓fG,↓fF,↓fE,↓fO ek5,hj];rw[fQ (n:=3) et rfl (by walk_at "c")]
  exact⟨by decide,_,hX (by rw[kW,fR,fR,gW,gK,gK,pG,mD];rfl),ws,ps,rfl,ht⟩
 refine ifF (by simp_arith[↓fG,↓fF,↓fE,hc];decide) (iD.mpr (fW.mpr ?_))
 have hex:∀i:Nat,∃w:Int×Int×Int,i<m->(∃x y z:Int,atI (xs.map T.int) (0+(i:Int))=some (.int x)/\atI (xs.map T.int) (8+(0+(i:Int)))=some (.int y)/\atI (xs.map T.int) (16+(0+(i:Int)))=some (.int z)/\sH [.int x,.int y,.int z,.int (c%4),.int u]=some (w3 w))/\wQ w:=by
  intro i;by_cases hi:i<m
  ·obtain⟨x,ex,sx⟩:=px (0+(i:Int)) (by lia) (by lia);obtain⟨y,ey,sy⟩:=px (8+(0+(i:Int))) (by lia) (by lia);obtain⟨z,ez,sz⟩:=px (16+(0+(i:Int))) (by lia) (by lia);obtain⟨_,ew,w,rfl,hw⟩:=aGq (k:=c%4) (u:=u) sx sy sz (by lia) (by lia)
   exact⟨w,fun _=>⟨⟨x,y,z,ex,ey,ez,ew⟩,hw⟩⟩
  ·exact⟨(0,0,0),fun h=>absurd h hi⟩
 obtain⟨f,hf⟩:=aQr hex;obtain⟨x39,zl,_⟩:=px 39 (by decide) (by decide);obtain⟨_,en,rs,rfl,ck⟩:=aFW (c:=x39) (m:=m) (by lia);have ai:=ck.len
 refine sqA (t:=.lst (((bI m).map f).map w3)) (gE.mpr (rL.mpr (eY.mpr ⟨_,rfl,_,rfl,by lia,?_⟩))) ?_
 ·rw[pU,c9]
  refine g8 (fun i=>w3 (f i)) (fun i hi=>?_) ⟨by rw[cC];rfl,rfl⟩
  have hi:i<m:=by simpa using hi
  obtain⟨⟨x,y,z,ex,ey,ez,ew⟩,hw⟩:=hf i hi;simp only[scT,aT,aM,bB,aX,aV,aW,bT,bU,cF];simp_arith[↓fG,↓fF,↓fE,↓fO ex,↓fO ey,↓fO ez];rw[fQ (n:=5) ew rfl (by walk_at "c")]
  exact⟨by decide,rfl,rfl⟩
 dsimp only[b5];have dn:∀w∈(bI m).map f,wQ w:=fun w hw=>by
  obtain⟨i,hi,rfl⟩:=bL.mp hw
  exact(hf i (cT.mp hi)).2
 have ig:((bI m).map f).length=m:=by simp
 generalize (bI m).map f=ws at dn ig
 refine sqA (t:=.lst (rs.map T.int)) (by simp_arith[↓fG,↓fF,↓fE,↓fO zl];rw[fQ (n:=2) en rfl (by walk_at "c")];exact⟨rfl,rfl⟩) ?_
 dsimp only[b5]
 refine fK.mpr (f6.mpr (jK.mpr (hJ.mpr (fJ.mpr ⟨by decide,f9.mpr (fW.mpr ?_)⟩))))
 dsimp only[b5,aX,aP];have q4:=iP (x:=c/4) (m:=4) (by decide)
 refine fK.mpr ?_
 simp_arith[↓fG,↓fF,↓fE];generalize c/4%4=c4 at q4
 refine⟨by decide,by decide,by lia,mX (fun i τ C=>∃(a b d e:Option T),τ=[some (.lst (ns.map T.int)),some (.int M),some (.int u),some (.lst (xs.map T.int)),some (.int first),some (.int few),some (.int m),some (.int c),some (.lst (ws.map w3)),some (.lst (rs.map T.int)),some (.cell 0),a,b,d,e]/\∃ps:List (Int×Int),C=[(.l,ps.map pT)]/\ps.length<=i/\∀p∈ps,Al rs p) ⟨_,_,_,_,rfl,[],rfl,by simp,by simp⟩ ?_ ?_⟩
 ·rintro i τ C hi ⟨_,_,_,_,rfl,ps,rfl,lq,cw⟩;obtain⟨x,ex,sx⟩:=px (24+(i:Int)) (by lia) (by lia);unfold aEV
  refine f9.mpr ?_
  dsimp only[b5];by_cases h1:(1:Int)<m
  ·refine ifT (by simp_arith[↓fG,↓fF,↓fE];exact jT h1) ?_
   have b1:=iP (x:=x) (m:=(m:Int) - 1) (by lia)
   refine sqA (t:=.int (1+x%((m:Int) - 1))) (by simp_arith[↓fG,↓fF,↓fE,↓fO ex];walk_at "a") ?_
   dsimp only[b5];generalize x%((m:Int) - 1)=y at b1;obtain⟨e3,yx,e3'⟩:=pick3 (x:=1) (y:=2) (z:=8) (i:=c/16);simp only[bE,cA,or_false]at yx;have yk:0<min (1+y) e3:=Int.lt_min.mpr ⟨by lia,by rcases yx with rfl|rfl|rfl<;>decide⟩;have b2:=iP (x:=x/16) yk
   refine sqA (t:=.int (x/16%min (1+y) e3)) (by simp_arith[↓fG,↓fF,↓fE,↓fO ex,↓fO e3'];exact⟨by decide,by decide,by decide,by decide,jT yk⟩) ?_
   dsimp only[b5];generalize x/16%min (1+y) e3=bk at b2;have ze:=b2.1;have ud:bk<1+y:=aPp b2.2 (aQj _ _);clear b2 yk yx e3';obtain⟨ia,oq,h0,bf⟩:∃ia:Int,(if c/48%2=0 then 1+y - 1 - bk else bk)=ia/\0<=ia/\ia<1+y:=⟨_,rfl,by split<;>lia,by split<;>lia⟩
   refine sqA (t:=.int ia) (by simp_arith[↓fG,↓fF,↓fE,aAb,oq];decide) ?_
   dsimp only[b5];have b3:=iP (x:=x/256) (m:=(ps.length:Int)+1) (by lia);simp_arith[↓fG,↓fF,↓fE,↓fO ex,aS,↓fO (wV (ns:=rs) h0 (by lia)),↓fO (wV (ns:=rs) (i:=1+y) (by lia) (by lia))];generalize x/256%((ps.length:Int)+1)=at9 at b3
   refine⟨by decide,by walk_at "a",by decide,⟨by walk_at "a",by lia,by lia⟩,_,_,_,_,rfl,insAt ps at9 (_,_),by rw[<-tV];rfl,by rw[wT];lia,fun p hp=>?_⟩
   rcases bE.mp (u4.mem_iff.mp hp)with hp|hp
   ·rw[hp]
    exact⟨ia.toNat,(1+y).toNat,by lia,bA (by lia),bA (by lia)⟩
   ·exact cw p hp
  ·exact ifF (by simp_arith[↓fG,↓fF,↓fE];simpa using h1) (iD.mpr ⟨trivial,_,_,_,_,rfl,ps,rfl,by lia,cw⟩)
 ·rintro τ C ⟨_,_,_,_,rfl,ps,rfl,lq,cw⟩;simp_arith[↓fG,↓fF,↓fE,sV];have ub:(yW ps (some (c/96%3)) none).length<=20:=cB aHu (by lia)
  refine⟨by decide,by decide,by decide,_,hX (by rw[kW,fR,fR,gW,gK,gK,pG,mD];rfl),ws,_,rfl,by lia,ub,dn,rs,by rw[ig];exact ck,fun p hp=>cw p (aHQ hp)⟩
end Lib
namespace Lib
open PySem L2 TL NF
variable{ws:List (Int×Int×Int)}{ps:List (Int×Int)}{nd:List (List Int)}{bonus:Int}
theorem aEf{α:Type}{g:α->Int}{d:α}{ws:List α}:∀{k:Nat},k<=ws.length->sm k (fun i=>g ((ws[i]?).getD d))=((ws.take k).map g).sum
 |0,_=>by simp[sm]
 |k+1,hk=>by
  have ih:=aEf (g:=g) (d:=d) (ws:=ws) (k:=k) (by lia);show sm k _+g ((ws[k]?).getD d)=_;rw[ih,aO7,bA (by lia),dI,bP,aO1];simp
theorem aJ0{α:Type}{g:α->Int}{d:α}{ws:List α}:sm ws.length (fun i=>g ((ws[i]?).getD d))=(ws.map g).sum:=by rw[aEf (bF _),cY]
theorem aCf{n:Nat}{x:Int}:sm n (fun _=>x)=n*x:=by
 induction n with
 |zero=>simp[sm]
 |succ n ih=>show sm n _+x=_;rw[ih,aQa,aOR,aQf]
theorem p7{P:Int×Int×Int->Prop}(h:∀w∈ws,P w){i:Nat}(hi:i<ws.length):P ((ws[i]?).getD (0,0,0)):=by
 rw[bA hi]
 exact h _ (dS hi)
theorem aBP{m:Nat}(hw:InW m ps)(h:Nd ps m nd){e:Nat×Nat}(he:e∈iM 0 nd):((e.1:Int),(e.2:Int))∈ps/\e.1<m/\e.2<m:=by
 obtain⟨b,l,a,h1,h2,rfl⟩:=aGK he;have hp:=((h.2 b l h1).2 a).mp h2;have:=hw _ hp
 refine⟨?_,by show a.toNat<m;have:=this.1;dsimp only at this;lia,by show 0+b<m;have:=(aQ.mp h1).1;rw[h.1]at this;lia⟩
 show((a.toNat:Int),((0+b:Nat):Int))∈ps;rw[aOU,bZ this.1.1];exact hp
theorem aE1{m:Nat}(hw:InW m ps)(h:Nd ps m nd){p:Int×Int}(hp:p∈ps):(p.1.toNat,p.2.toNat)∈iM 0 nd:=by
 have:=hw p hp;have hb:p.2.toNat<nd.length:=by rw[h.1];lia
 have e:=bA hb
 refine aLe e (((h.2 _ _ e).2 p.1).mpr ?_)
 rw[bZ this.2.1];exact hp
theorem aKa{m:Nat}{o:List Int}(t:Topo ps m o):∃r:Nat->Int,(∀i,i<m->0<=r i/\r i<m)/\∀a b:Nat,((a:Int),(b:Int))∈ps->b<m->r a<r b:=by
 refine⟨fun i=>(o.idxOf (i:Int):Int),fun i hi=>⟨Int.natCast_nonneg _,?_⟩,fun a b ox hb=>?_⟩
 ·have:=aPl (t.all i hi);rw[t.len]at this;show((o.idxOf (i:Int):Nat):Int)<m
  lia
 ·have hbm:=aPl (t.all b hb);have mf:o[o.idxOf (b:Int)]?=some (b:Int):=by
   rw[bA hbm,List.getElem_idxOf]
  have ha:=t.top _ _ mf _ ox;obtain⟨i,hi⟩:=bQ.mp ha;have yt:=(aQ.mp hi).1;rw[d9]at yt;rw[List.getElem?_take,if_pos (by lia)]at hi;obtain⟨h1,h2⟩:=aQ.mp hi;have:o.idxOf (a:Int)=i:=by rw[<-h2];exact t.nd.idxOf_getElem i h1
  show((o.idxOf (a:Int):Nat):Int)<((o.idxOf (b:Int):Nat):Int)
  lia
structure Gvn(ws:List (Int×Int×Int))(ps:List (Int×Int))(nd:List (List Int)):Prop where
 l8:ws.length<=8
 pl:ps.length<=1000
 inw:InW ws.length ps
 acy:Acy ps
 ndd:Nd ps ws.length nd
 need:gQ [.int ws.length,.lst (ps.map pT)]=some (.lst (nd.map iT))
 ok:∀w∈ws,tS w
theorem Gvn.ex(h1:ws.length<=8)(h2:ps.length<=1000)(h3:InW ws.length ps)(h4:Acy ps)(h5:∀w∈ws,tS w):∃nd,Gvn ws ps nd:=by
 obtain⟨_,e,nd,rfl,gq⟩:=uB (by lia) h2 h3
 exact⟨nd,h1,h2,h3,h4,gq,e,h5⟩
theorem Gvn.rank(G:Gvn ws ps nd):∃r:Nat->Int,(∀i,i<ws.length->0<=r i/\r i<ws.length)/\∀e∈iM 0 nd,r e.1<r e.2:=by
 obtain⟨_,_,o,_,ho,il⟩:=xR G.l8 G.pl G.inw G.acy;obtain⟨r,h1,h2⟩:=aKa (il.topo ho)
 exact⟨r,h1,fun e he=>h2 _ _ (aBP G.inw G.ndd he).1 (aBP G.inw G.ndd he).2.2⟩
theorem Gvn.price:sm ws.length (gR ws).p=plenty ws bonus - bonus - 1:=by
 show sm ws.length (fun i=>((ws[i]?).getD (0,0,0)).2.2)=_;rw[aJ0 (g:=fun w:Int×Int×Int=>w.2.2)];unfold plenty;lia
theorem Gvn.sP(G:Gvn ws ps nd):sm ws.length (gR ws).p<=8*2^252:=by
 have h1:sm ws.length (gR ws).p<=sm ws.length fun _=>2^252:=y7 fun i hi=>aO8 (p7 (P:=tS) G.ok hi).2.2.2.2
 rw[aCf]at h1;have h3:(ws.length:Int)*2^252<=8*2^252:=cZ (by have:=G.l8;lia) (by decide)
 lia
theorem Gvn.wel(G:Gvn ws ps nd)(hb:0<=bonus):Wel (gR ws) ws.length (iM 0 nd) (plenty ws bonus):=by
 refine⟨G.l8,?_,fun e he=>(aBP G.inw G.ndd he).2,G.rank,fun i hi=>(p7 G.ok hi).1,?_,?_⟩
 ·have:=aCx (nd:=nd) (z:=1000) (fun l hl=>?_) (s:=0)
  ·rw[G.ndd.1]at this;have h2:ws.length*1000<=8*1000:=aPQ _ G.l8;have h3:=G.l8;show 4*ws.length+(iM 0 nd).length<40000
   lia
  ·obtain⟨b,hb⟩:=bQ.mp hl
   exact cB (G.ndd.2 b l hb).1 G.pl
 ·rw[Gvn.price (bonus:=bonus)];lia
 ·exact dJ G.sP (by decide)
theorem Gvn.tim(G:Gvn ws ps nd){bs:List Int}(hE:Early ps (ws.map (·.2.1)) bs):Tim ws.length (iM 0 nd) (jW 0 (dones bs (ws.map (·.2.1)))) (fun i=>at0 bs i) (gR ws).l:=by
 have hh:∀i:Nat,i<ws.length->at0 (ws.map (·.2.1)) i=(gR ws).l i:=fun i hi=>by
  rw[lX (by simpa using hi)];show _=((ws[i]?).getD (0,0,0)).2.1;rw[bA hi];simp
 refine⟨fun i _=>hE.pos _,fun i hi=>?_,fun x hx=>?_⟩
 ·rw[<-hh i hi]
  exact v6 ((m6 hE.len).mpr ⟨i,by simpa using hi,rfl⟩)
 ·obtain⟨h1,h2,h3⟩:=aBP G.inw G.ndd hx;rw[<-hh x.1 h2]
  exact hE.ge _ h1
end Lib
namespace Lib
open PySem L2 TL NF
variable{ws:List (Int×Int×Int)}{ps:List (Int×Int)}{nd:List (List Int)}{hs bs:List Int}{e P:Int}{w:Wk}{es:List (Nat×Nat)}
theorem Gvn.timH(G:Gvn ws ps nd)(hE:Early ps hs bs)(hl:hs.length=ws.length):Tim ws.length (iM 0 nd) (jW 0 (dones bs hs)) (fun i=>at0 bs i) (fun i=>at0 hs i):=by
 refine⟨fun i _=>hE.pos _,fun i hi=>?_,fun x hx=>?_⟩
 ·exact v6 ((m6 hE.len).mpr ⟨i,by rw[hl];exact hi,rfl⟩)
 ·exact hE.ge _ (aBP G.inw G.ndd hx).1
theorem Gvn.fst(G:Gvn ws ps nd)(hE:Early ps hs bs)(hl:hs.length=ws.length){B:Nat->Int}(he:0<=e)(b0:∀i,i<ws.length->0<=B i)(hB:∀p∈ps,B p.1.toNat+at0 hs p.1<=B p.2.toNat)(hM:∀i:Nat,i<ws.length->B i+at0 hs i<=e):jW 0 (dones bs hs)<=e:=by
 obtain⟨r,h1,h2⟩:=G.rank;have key:∀(k:Nat)(i:Nat),i<ws.length->r i<k->at0 bs i<=B i:=fun k=>by
  induction k with
  |zero=>intro i hi hk;have:=h1 i hi;lia
  |succ k ih=>
   intro i hi hk;have:=b0 i hi;rcases hE.att i (by rw[hl];exact hi)with h| ⟨a,ha,h⟩
   ·lia
   ·have h3:=h2 _ (aE1 G.inw G.ndd ha);have oq:=(G.inw _ ha).1;have h4:=hB _ ha;dsimp only at oq h3 h4;rw[c9]at h3 h4;have h5:=ih a.toNat (by lia) (by lia);rw[bZ oq.1]at h5
    lia
 rcases pK (d:=0) (ns:=dones bs hs)with⟨_,h⟩|h
 ·rw[h];exact he
 ·obtain⟨w,hw,e⟩:=(m6 hE.len).mp h;rw[hl]at hw;have h3:=key (r w+1).toNat w hw (by have:=h1 w hw;lia);have h4:=hM w hw
  lia
theorem Gvn.early_le(G:Gvn ws ps nd)(hE:Early ps hs bs)(hl:hs.length=ws.length){M:Int}(hM:0<=M)(hH:∀i:Nat,i<ws.length->0<=at0 hs i/\at0 hs i<=M):jW 0 (dones bs hs)<=8*M:=by
 obtain⟨r,h1,h2⟩:=G.rank;have hn:=G.l8
 refine G.fst hE hl (B:=fun i=>r i*M) (by lia) (fun i hi=>dN (h1 i hi).1 hM) (fun p hp=>?_) fun i hi=>?_
 ·have h3:=h2 _ (aE1 G.inw G.ndd hp);have oq:=(G.inw _ hp).1;have h4:=hH p.1.toNat (by lia);rw[bZ oq.1]at h4;have h5:=cZ (show r p.1.toNat+1<=r p.2.toNat from h3) hM;rw[aOR,aQf]at h5
  lia
 ·have h3:=h1 i hi;have h4:=hH i hi;have h5:=cZ (show r i+1<=8 by lia) hM;rw[aOR,aQf]at h5
  lia
theorem vW{i:Nat}(hi:i<ws.length):at0 (ws.map iQ) i=if(gR ws).p i=0 then(gR ws).l i else(gR ws).u i:=by
 rw[lX (by simpa using hi)];show _=if((ws[i]?).getD (0,0,0)).2.2=0 then((ws[i]?).getD (0,0,0)).2.1 else((ws[i]?).getD (0,0,0)).1
 rw[bA hi,eA];rfl
theorem Gvn.free(G:Gvn ws ps nd)(hE:Early ps (ws.map iQ) bs){bonus:Int}(hb:0<=bonus):
 jW 0 (dones bs (ws.map iQ))<=8*2^252/\∃p0,Good (gR ws) ws.length (iM 0 nd) (plenty ws bonus) (fun _=>0) 0 p0/\sm (2*ws.length+2) p0<10^198/\p0 1=jW 0 (dones bs (ws.map iQ)):=by
 have T:=G.timH hE (by simp);have W:=G.wel hb;have hn:=G.l8;have wo:∀i,i<ws.length->tS ((ws[i]?).getD (0,0,0)):=fun i hi=>p7 (P:=tS) G.ok hi
 have lu:∀i,i<ws.length->0<=(gR ws).l i/\(gR ws).l i<=(gR ws).u i/\(gR ws).u i<2^252/\0<=(gR ws).p i:=fun i hi=>⟨(wo i hi).1,(wo i hi).2.1,(wo i hi).2.2.2.1,(wo i hi).2.2.1⟩
 have hh:∀i:Nat,i<ws.length->0<=at0 (ws.map iQ) i/\at0 (ws.map iQ) i<=2^252/\(gR ws).l i<=at0 (ws.map iQ) i:=fun i hi=>by
  have:=lu i hi;rw[vW hi];split<;>lia
 have hM:=G.early_le hE (by simp) (M:=2^252) (by decide) fun i hi=>⟨(hh i hi).1,(hh i hi).2.1⟩
 have hz:0<=jW 0 (dones bs (ws.map iQ)):=(hE.mxL fun x hx=>by
  obtain⟨w,hw,rfl⟩:=bL.mp hx;have h:=G.ok w hw;unfold iQ;split
  ·exact h.1
  ·exact aPk h.1 h.2.1).1
 refine⟨hM,pf (jW 0 (dones bs (ws.map iQ))) (fun i=>at0 bs i) (fun i=>at0 (ws.map iQ) i),⟨fun p=>?_,fun k hk=>?_,fun k hk=>⟨fun hc=>?_,fun z=>absurd z (Int.lt_irrefl _)⟩,rfl,fun v hv=>?_⟩,?_,rfl⟩
 ·rw[dR];exact l7 fun k _=>dR _
 ·refine⟨bR _,?_⟩
  have hP:0<=plenty ws bonus:=by
   have:=W.pP;have h2:0<=sm ws.length (gR ws).p:=m5 fun i hi=>(lu i hi).2.2.2
   lia
  cases pipe hk with
  |src i hi e t h d c=>rw[c];exact hP
  |usu i hi e t h d c=>rw[c];exact(lu i hi).2.2.2
  |lea i hi e t h d c=>rw[c];exact hP
  |snk i hi e t h d c=>rw[c];exact hP
  |nee x y j hj e t h d c=>rw[c];exact hP
 ·cases hU:isU ws.length k with
  |false=>exact aEq T (fun i hi=>(hh i hi).2.2) k hk hU
  |true=>
   cases pipe hk with
   |src i hi e=>simp[isU]at hU;lia
   |usu i hi e t h d c=>
    rw[t,h,d,aIV,aHi,vW hi,if_neg (by rw[c]at hc;lia)];lia
   |lea i hi e=>simp[isU]at hU;lia
   |snk i hi e=>simp[isU]at hU;lia
   |nee x y j hj e=>simp[isU]at hU;lia
 ·by_cases v0:v=0
  ·rw[v0];exact bR _
  ·by_cases v1:v=1
   ·rw[v1];exact hz
   ·by_cases ve:v%2=0
    ·obtain⟨i,rfl⟩:∃i,v=2*i+2:=⟨v/2 - 1,by lia⟩;rw[aIV];exact T.b0 i (by lia)
    ·obtain⟨i,rfl⟩:∃i,v=2*i+3:=⟨v/2 - 1,by lia⟩;rw[aHi];have:=T.b0 i (by lia);have:=(hh i (by lia)).1;lia
 ·have h5:sm (2*ws.length+2) (pf (jW 0 (dones bs (ws.map iQ))) (fun i=>at0 bs i) (fun i=>at0 (ws.map iQ) i))<=sm (2*ws.length+2) fun _=>8*2^252:=y7 fun v hv=>by
   unfold pf;split
   ·decide
   ·split
    ·exact hM
    ·have hi:v/2 - 1<ws.length:=by lia
     have h8:=T.e _ hi;have h9:=hh _ hi;dsimp only at h8|-;split<;>lia
  rw[aCf]at h5;have h6:((2*ws.length+2:Nat):Int)*(8*2^252)<=18*(8*2^252):=cZ (by lia) (by decide);have h7:(18*(8*2^252):Int)<10^198:=by decide
  lia
theorem Gvn.zge(G:Gvn ws ps nd)(hE:Early ps (ws.map (·.2.1)) bs):0<=jW 0 (dones bs (ws.map (·.2.1))):=
 (hE.mxL fun x hx=>by
  obtain⟨w,hw,rfl⟩:=bL.mp hx
  exact(G.ok w hw).1).1
theorem zW(G:Gvn ws ps nd)(hE:Early ps (ws.map (·.2.1)) bs)(he:jW 0 (dones bs (ws.map (·.2.1)))<=e){p0:Nat->Int}(G0:Good (gR ws) ws.length (iM 0 nd) (plenty ws 0) (fun _=>0) 0 p0)(hb:sm (2*ws.length+2) p0<10^198){C:Sto}{Q:T->Sto->Prop}
 (q:∀f p a C',Filled (gR ws) ws.length (iM 0 nd) (plenty ws 0) e (fun _=>0) 0 p0 f p a->a<=sm ws.length (gR ws).p->0<=a->hZ (iA ws nd 0) f C.length (2*ws.length+2:Nat) C'->Q (.cell C.length) C'):
 wpO (mR [.lst (ws.map w3),.lst (ps.map pT),.int e] C) Q:=by
 have W:=G.wel (bonus:=0) (by decide);have hz:=G.zge hE
 refine iI ?_
 unfold tM;walk_at "b"
 refine fK.mpr (f6.mpr (sE (e9.mpr (eY.mpr ⟨_,rfl,e9.mpr (eY.mpr ⟨_,rfl,fJ.mpr ⟨rfl,?_⟩⟩)⟩))))
 refine zE (nd:=nd) G.l8 G.pl G.inw G.need G.ndd fun C1 P1=>⟨rfl,f9.mpr (fW.mpr (fK.mpr (oI.mpr (kF ?_))))⟩
 have A1:hZ (iA ws nd 0) (fun _=>0) C.length (2*ws.length+2:Nat) C1:=by
  have:=P1.at;rw[show((2*ws.length+2:Nat):Int)=2*(ws.length:Int)+2 by lia];exact this
 refine eY.mpr ⟨_,rfl,lI A1.net rfl,e9.mpr (eY.mpr ⟨_,rfl,fJ.mpr ⟨rfl,?_⟩⟩)⟩
 refine aEk W (G.tim hE) he (by lia) G0 (m5 fun i hi=>(p7 (P:=tS) G.ok hi).2.2.1) (bR _) (aOV hb (by decide)) A1 fun f p a C2 F ha iy A2 _ _=>?_
 exact fW.mpr (iF.mpr (eY.mpr ⟨_,rfl,q f p a C2 F ha iy A2⟩))
theorem aCs{N:Nt}{a:Int}(h:Flo N (fun _=>0) a):a=0:=by
 have:=h fun v=>if v=1 then 1 else 0
 rw[l7 fun k _=>dR _]at this;simp at this
 lia
theorem aGy{n:Nat}{k:Nat}(hk:k<(net w n es P).m):(net w n es P).h k≠0/\(net w n es P).t k≠1:=by
 cases pipe hk with
 |src i hi e t h d c=>rw[t,h];lia
 |usu i hi e t h d c=>rw[t,h];lia
 |lea i hi e t h d c=>rw[t,h];lia
 |snk i hi e t h d c=>rw[t,h];lia
 |nee x y i hi e t h d c=>rw[t,h];lia
theorem aNg{n:Nat}(W:Wel w n es P){f:Nat->Int}{a:Int}(hf:Flo (net w n es P) f a)(hc:Cap (net w n es P) f):∃ρ,Flw (stp (net w n es P) f (net w n es P).m) a ρ:=by
 obtain⟨r,h1,h2⟩:=W.rk;have hn:=W.n8;have hup:=aLu (w:=w) (P:=P) h1 h2;have key:∀e∈stp (net w n es P) f (net w n es P).m,∃j,j<(net w n es P).m/\e.1=((net w n es P).t j,(net w n es P).h j):=fun e he=>xX (cR he)
 have r1:rk n r 1=2*n:=rfl;have r0:rk n r 0= -1:=rfl
 refine⟨rk n r,aMV hf,wY (fun k hk=>(hc k hk).1) (bF _),uT,fun e he=>?_,fun e he=>?_,fun e he=>?_,fun e he=>?_,by rw[r1,r0];lia,by rw[r1,r0];lia,dW vY (by have:=W.m;lia)⟩
 ·obtain⟨j,hj,e1⟩:=key e he;rw[e1];exact(aGy hj).1
 ·obtain⟨j,hj,e1⟩:=key e he;rw[e1];exact hup j hj
 ·obtain⟨j,hj,e1⟩:=key e he;rw[e1,r1];show rk n r ((net w n es P).h j)<=_;cases pipe hj with
  |src i hi e t h d c=>rw[h,y6];have:=h1 i hi;lia
  |usu i hi e t h d c=>rw[h,vQ];have:=h1 i hi;lia
  |lea i hi e t h d c=>rw[h,vQ];have:=h1 i hi;lia
  |snk i hi e t h d c=>rw[h,r1];lia
  |nee x y i hi e t h d c=>rw[h,y6];have:=h1 y (W.ein _ (bC hi)).2;lia
 ·obtain⟨j,hj,e1⟩:=key e he;rw[e1,r0];show _<=rk n r ((net w n es P).t j);cases pipe hj with
  |src i hi e t h d c=>rw[t,r0];lia
  |usu i hi e t h d c=>rw[t,y6];have:=h1 i hi;lia
  |lea i hi e t h d c=>rw[t,y6];have:=h1 i hi;lia
  |snk i hi e t h d c=>rw[t,vQ];have:=h1 i hi;lia
  |nee x y i hi e t h d c=>rw[t,vQ];have:=h1 x (W.ein _ (bC hi)).1;lia
end Lib
namespace TL
open PySem L2
theorem uD{B:FS}{m:Nat}{ts:List T}{Q:T->Sto->Prop}(h:wpS B (st0 m ts) [] fun l ag C'=>match l with
 | .rt r=>Q r C'
 |_=>False):wpO (zY B m ts) Q:=by
 obtain⟨l,ag,C',e,q⟩:=h;cases l with
 |rt r=>exact⟨_,C',by unfold zY;rw[e],q⟩
 |nx=>exact q.elim
 |bk=>exact q.elim
 |ct=>exact q.elim
 |ex c=>exact q.elim
end TL
namespace Lib
open PySem L2 TL NF
theorem Filled.at_e{w:Wk}{n:Nat}{es:List (Nat×Nat)}{P e:Int}{p0 f p:Nat->Int}{a:Int}(F:Filled w n es P e (fun _=>0) 0 p0 f p a)(he0:0<=e):∃pp,Good w n es P f a pp/\pp 1=e:=by
 rcases F.how with rfl| ⟨_,y,Gy,hy,hle⟩
 ·have G:=F.good;have fw:∀o,Open (net w n es P) (fun _=>0) o->o.2=true/\o.1<(net w n es P).m:=fun o ho=>by
   obtain⟨k,b⟩:=o;cases b
   ·exact absurd ho.2 (by unfold rr;simp)
   ·exact⟨rfl,ho.1⟩
  refine⟨up p 1 e,⟨G.flo,G.cap,mW.mpr fun o ho=>?_,?_,fun v hv=>?_⟩,jM⟩
  ·obtain⟨h1,h2⟩:=fw o ho;have h3:=mW.mp G.pot o ho;obtain⟨k,b⟩:=o;cases h1;have ba:=(aGy h2).2;unfold up;rw[if_neg (show¬rt (net w n es P) (k,true)=1 from ba)];split
   ·rename_i z;rw[z]at h3;have:=F.ready
    lia
   ·exact h3
  ·rw[sA (by decide)];exact G.p0
  ·unfold up;split
   ·exact he0
   ·exact G.ge v hv
 ·exact F.good.amid Gy F.ready (by lia)
theorem aA6{ws:List (Int×Int×Int)}{ps:List (Int×Int)}{nd:List (List Int)}(G:Gvn ws ps nd){bs fs:List Int}(hE:Early ps (ws.map (·.2.1)) bs)(hF:Early ps (ws.map iQ) fs)(hL:gZ [.lst (ws.map w3),.lst (ps.map pT)]=some (.int (jW 0 (dones bs (ws.map (·.2.1)))))){e:Int}:
 (e<jW 0 (dones bs (ws.map (·.2.1)))->kD [.lst (ws.map w3),.lst (ps.map pT),.int e]=some (.non,[]))/\
 (jW 0 (dones bs (ws.map (·.2.1)))<=e->∃f a pp rl rw Cn,kD [.lst (ws.map w3),.lst (ps.map pT),.int e]=some (.cell rw,Cn)/\Good (gR ws) ws.length (iM 0 nd) (plenty ws 0) f a pp/\pp 1=e/\a<=sm ws.length (gR ws).p/\rl.length<40000/\
  yV ws.length (iM 0 nd) (stp (iA ws nd 0) f (iA ws nd 0).m) a rl [] 0/\Cn[rw]?=some (.l,rl.map fun z=>.cell z.1)/\(∀z∈rl,Cn[z.1]?=some (aBa z))/\(jW 0 (dones fs (ws.map iQ))<=e->rl=[])):=by
 have hz:=G.zge hE;have W:=G.wel (bonus:=0) (by decide);obtain⟨_,p0,G0,hb,lr⟩:=G.free hF (bonus:=0) (by decide);have vq:CFs [T.lst (ws.map w3),T.lst (ps.map pT)]=true:=by rw[fR,fR,gW,gK,gK,pG,mD];rfl
 have test:∀{τ:TSt}{Q:Bool->Sto->Prop},τ[0]?=some (some (.lst (ws.map w3)))->τ[1]?=some (some (.lst (ps.map pT)))->τ[2]?=some (some (.int e))->Q (decide (e<jW 0 (dones bs (ws.map (·.2.1))))) []->wpB (iH (fLt Y2 (f7 2 gZ (eX Y0 (eX Y1 fH))))) τ [] Q:=fun h0 h1 h2 q=>
  gT.mpr (fL.mpr (eY.mpr ⟨_,h2,gC.mpr (e9.mpr (eY.mpr ⟨_,h0,e9.mpr (eY.mpr ⟨_,h1,fJ.mpr ((fQ hL rfl vq).mpr (jS.mpr ⟨_,rfl,q⟩))⟩)⟩))⟩))
 constructor
 ·intro h;have:wpO (kD [.lst (ws.map w3),.lst (ps.map pT),.int e]) fun r C=>r=.non/\C=[]:=by
   refine uD ?_
   unfold pI;walk_at "b"
   refine fK.mpr (lO.mpr (test rfl rfl rfl ?_))
   rw[if_pos (decide_eq_true h)]
   exact iF.mpr (gG.mpr ⟨rfl,rfl⟩)
  obtain⟨_,_,e1,rfl,rfl⟩:=this
  exact e1
 ·intro h;have:wpO (kD [.lst (ws.map w3),.lst (ps.map pT),.int e]) fun r Cn=>∃f a pp rl rw,r=.cell rw/\Good (gR ws) ws.length (iM 0 nd) (plenty ws 0) f a pp/\pp 1=e/\a<=sm ws.length (gR ws).p/\rl.length<40000/\
   yV ws.length (iM 0 nd) (stp (iA ws nd 0) f (iA ws nd 0).m) a rl [] 0/\Cn[rw]?=some (.l,rl.map fun z=>.cell z.1)/\(∀z∈rl,Cn[z.1]?=some (aBa z))/\(jW 0 (dones fs (ws.map iQ))<=e->rl=[]):=by
   refine uD ?_
   unfold pI;walk_at "b"
   refine fK.mpr (lO.mpr (test rfl rfl rfl ?_))
   rw[if_neg (by rw[decide_eq_false (by lia)];simp)]
   refine iD.mpr (fW.mpr (iF.mpr (kF (jH.mpr (e9.mpr (eY.mpr ⟨_,rfl,e9.mpr (eY.mpr ⟨_,rfl,e9.mpr (eY.mpr ⟨_,rfl,fJ.mpr ⟨rfl,?_⟩⟩)⟩)⟩))))))
   refine zW G hE h G0 hb fun f p a C' F ha iy A=>⟨lI A.net rfl,fJ.mpr ⟨rfl,?_⟩⟩
   obtain⟨pp,Gp,vh⟩:=F.at_e (by lia);obtain⟨ρ,Fl⟩:=aNg W Gp.flo Gp.cap
   refine aFN A W.m Fl (fun s hs=>aOn hs) iy (by have:=W.big;lia) fun rl rw C2 vg R h1 h2=>?_
   refine⟨f,a,pp,rl,rw,rfl,Gp,vh,ha,dW vg W.m,R,h1,h2,fun hy=>?_⟩
   have hf:f=fun _=>0:=by
    rcases F.how with h1| ⟨_,q,_,h2,h3⟩
    ·exact h1
    ·have:=h3 1 (by lia)
     lia
   have ha1:a=0:=by
    have:=F.good.flo;rw[hf]at this
    exact aCs this
   cases rl with
   |nil=>rfl
   |cons z rl=>
    exfalso;have hs:=R.sum;have cm:∀l:List (Nat×Int×List Nat),(∀z∈l,1<=z.2.1)->0<=(l.map fun z=>z.2.1).sum:=fun l=>by
     induction l with
     |nil=>intro _;simp
     |cons y l ih=>
      intro hl;have:=hl y bJ;have:=ih fun x hx=>hl x (aZ _ hx)
      rw[aM,eO];lia
    have h3:=(R.ok z bJ).1;have h4:=cm rl fun x hx=>(R.ok x (aZ _ hx)).1
    rw[aM,eO]at hs
    lia
  obtain⟨_,Cn,e1,f,a,pp,rl,rw,rfl,h1⟩:=this
  exact⟨f,a,pp,rl,rw,Cn,e1,h1⟩
end Lib
namespace Lib
open PySem L2 TL NF
variable{w:Wk}{es:List (Nat×Nat)}{P e:Int}{pp:Nat->Int}
noncomputable def beg(pp:Nat->Int)(i:Nat):Int:=pp (2*i+2)
noncomputable def hrs(w:Wk)(pp:Nat->Int)(i:Nat):Int:=min (w.u i) (pp (2*i+3) - pp (2*i+2))
theorem aKt{n:Nat}(W:Wel w n es P){f:Nat->Int}{a:Int}(G:Good w n es P f a pp)(he:pp 1=e)(ha:a<P)(gr:∀i,i<n->w.l i<=w.u i):
 (∀i,i<n->0<=beg pp i/\w.l i<=hrs w pp i/\hrs w pp i<=w.u i/\beg pp i+hrs w pp i<=e)/\(∀x∈es,beg pp x.1+hrs w pp x.1<=beg pp x.2)/\sm n (fun i=>w.p i*(w.u i - hrs w pp i))=len (net w n es P) f - a*e:=by
 have ho:=W.open G ha;obtain⟨q1,q2,q3,q4⟩:=aBc G.pot ho G.p0 W.ein
 refine⟨fun i hi=>?_,fun x hx=>?_,?_⟩
 ·have h1:=q1 i hi;have h2:=q2 i hi;have h3:=q3 i hi;have h4:=gr i hi;unfold beg hrs
  refine⟨h1,?_,?_,?_⟩<;>lia
 ·have h1:=q4 x hx;unfold beg hrs
  lia
 ·rw[<-he,G.price ho]
  refine kJ fun i _=>?_
  congr 1;unfold hrs NF.pos;split<;>lia
theorem aEN{x u l p:Int}(h:l<=u):(if x<=p then x*u else p*u+(x - p)*l)=min (x*u) (p*(u - l)+x*l):=by
 have e1:x*u - (p*(u - l)+x*l)=(x - p)*(u - l):=by rw[aPf,cJ,cJ];lia
 have e2:p*u+(x - p)*l=p*(u - l)+x*l:=by rw[aPf,cJ];lia
 by_cases hx:x<=p
 ·rw[if_pos hx];have:(x - p)*(u - l)<=0:=Int.mul_nonpos_of_nonpos_of_nonneg (by lia) (by lia)
  lia
 ·rw[if_neg hx,e2];have:0<=(x - p)*(u - l):=dN (by lia) (by lia)
  lia
theorem aEM{n:Nat}{g:Nat->Int}{k:Nat}(hk:k<n):(sm n fun j=>if j=k then g j else 0)=g k:=by
 induction n with
 |zero=>lia
 |succ n ih=>
  show sm n _+(if n=k then g n else 0)=_;by_cases h:n=k
  ·subst h;rw[if_pos rfl,l7 fun j hj=>if_neg (by lia)];lia
  ·rw[if_neg h,ih (by lia)];lia
theorem aMY{n:Nat}{f:Nat->Int}{i:Nat}(hi:i<n):at_ (stp (net w n es P) f (net w n es P).m) (stw i)=thr f i:=by
 rw[aIh];show sm (4*n+es.length) _=_;have e:∀k,k<4*n+es.length->(if stw i=((net w n es P).t k,(net w n es P).h k)then f k else 0)=(if k=4*i+1 then f k else 0)+if k=4*i+2 then f k else 0:=fun k hk=>by
  have hs:stw i=((net w n es P).t k,(net w n es P).h k)↔(2*i+2=(net w n es P).t k/\2*i+3=(net w n es P).h k):=by unfold stw;rw[aQI.injEq]
  cases pipe (w:=w) (n:=n) (es:=es) (P:=P) (k:=k) hk with
  |src j hj e t h d c=>rw[if_neg (by rw[hs,t,h];lia),if_neg (by lia),if_neg (by lia)];rfl
  |usu j hj e t h d c=>
   by_cases z:j=i
   ·rw[if_pos (by rw[hs,t,h];lia),if_pos (by lia),if_neg (by lia)];lia
   ·rw[if_neg (by rw[hs,t,h];lia),if_neg (by lia),if_neg (by lia)];rfl
  |lea j hj e t h d c=>
   by_cases z:j=i
   ·rw[if_pos (by rw[hs,t,h];lia),if_neg (by lia),if_pos (by lia)];lia
   ·rw[if_neg (by rw[hs,t,h];lia),if_neg (by lia),if_neg (by lia)];rfl
  |snk j hj e t h d c=>rw[if_neg (by rw[hs,t,h];lia),if_neg (by lia),if_neg (by lia)];rfl
  |nee x y j hj e t h d c=>rw[if_neg (by rw[hs,t,h];lia),if_neg (by lia),if_neg (by lia)];rfl
 rw[kJ e,aNF,aEM (by lia),aEM (by lia)];rfl
theorem aCC{n:Nat}{f f2 p2:Nat->Int}{a a2:Int}(G:Good w n es P f a pp)(G2:Good w n es P f2 a2 p2)(h1:pp 1=e)(h2:p2 1=e)(gr:∀i,i<n->w.l i<=w.u i){rl:List (Nat×Int×List Nat)}(R:yV n es (stp (net w n es P) f2 (net w n es P).m) a2 rl [] 0):
 len (net w n es P) f - a*e=sm n (fun i=>min ((rl.map fun z=>z.2.1*(z.2.2.count i:Int)).sum*w.u i) (w.p i*(w.u i - w.l i)+(rl.map fun z=>z.2.1*(z.2.2.count i:Int)).sum*w.l i)) - e*(rl.map fun z=>z.2.1).sum:=by
 rw[rG G G2 h1 h2,aGW G2 gr,R.sum,eG,Int.mul_comm a2 e];congr 1
 refine kJ fun i hi=>?_
 have:(rl.map fun z=>z.2.1*(z.2.2.count i:Int)).sum=thr f2 i:=by
  rw[R.thr i,aMY hi];show thr f2 i - 0=_
  lia
 rw[this]
 exact aEN (gr i hi)
end Lib
namespace K42
open PySem L2 TL Lib
def nO:FS:=
 (qQ Y1 (eX (fI 7) fH))
def n4:FS:=
 (fN (nK Y0 (gN 1)
  nO)
  (qQ Y0 (eX (fV (gJ (eX (fI 8) fH))) fH)))
def lS:List T->Sto->Option Sto:=aCH n4 2
end K42
namespace K42
open PySem L2 TL Lib NF
variable{row:List T}{j:Int}{r:T}
theorem aOA{ws:List (Int×Int×Int)}{i:Nat}(hi:i<ws.length):(gR ws).u i=ws[i].1/\(gR ws).l i=ws[i].2.1/\(gR ws).p i=ws[i].2.2:=by
 refine⟨?_,?_,?_⟩<;>simp[gR,hi]
theorem ix2{τ:TSt}{C:Sto}{a k:Nat}{l:List T}{i:Int}{v:T}(h0:τ[a]?=some (some (.lst l)))(hk:τ[k]?=some (some (.int i)))(hl:atI l i=some r)(hr:sqT C r=some row)(hv:atI row j=some v):fIx (fIx (jF a) (jF k)) (fC (.int j)) τ C=some (v,C):=
 aA4 (fL.mpr (fL.mpr (eY.mpr ⟨_,h0,eY.mpr ⟨_,hk,jG.mpr ⟨_,rfl,_,hl,gG.mpr (jG.mpr ⟨_,hr,_,hv,rfl,rfl⟩)⟩⟩⟩)))
theorem ix1{τ:TSt}{C:Sto}{a:Nat}{v:T}(h0:τ[a]?=some (some r))(hr:sqT C r=some row)(hv:atI row j=some v):fIx (jF a) (fC (.int j)) τ C=some (v,C):=
 aA4 (fL.mpr (eY.mpr ⟨_,h0,gG.mpr (jG.mpr ⟨_,hr,_,hv,rfl,rfl⟩)⟩))
end K42
namespace K42
open PySem L2 TL Lib NF
noncomputable def nI(is:List Nat):List Int:=is.map fun i:Nat=>(i:Int)
def rI(z:Nat×Int×List Nat):List Int:=z.2.1::nI z.2.2
end K42
namespace K42
open PySem L2 TL Lib NF
end K42
namespace K42
open PySem L2 TL Lib NF
variable{cs:List Nat}{Cn:Sto}{rows:List (List Int)}
theorem aG7{C:Sto}{k:Nat}(hk:C[k]?=some (.l,cs.map T.cell))(hl:cs.length<395000)(hc:∀c∈cs,c≠k/\∃xs:List T,C[c]?=some (.l,xs)/\xs.length<=2000):∃C',lS [.cell k] C=some C'/\∀d,d≠k->d∉cs->C'[d]?=C[d]?:=by
 have:wpS n4 (st0 2 [.cell k]) C fun l _ C'=>l=.nx/\∀d,d≠k->d∉cs->C'[d]?=C[d]?:=by
  unfold n4;walk_at "b"
  refine fK.mpr (lY.mpr (eY.mpr ⟨_,rfl,_,fY.mpr hk,?_⟩))
  refine i9 (xs:=cs) (en:=T.cell) (fun j τ C'=>j<=cs.length/\∃a,τ=[some (.cell k),a]/\C'[k]?=some (.l,cs.map T.cell)/\(∀c∈cs,∃xs:List T,C'[c]?=some (.l,xs)/\xs.length<=2000+j)/\∀d,d∉cs->C'[d]?=C[d]?) ⟨dF _,_,rfl,hk,fun c h=>let ⟨_,xs,h1,h2⟩:=hc c h;⟨xs,h1,by lia⟩,fun _ _=>rfl⟩ ?_ ?_
  ·rintro j c τ C' hj ⟨hjl,a,rfl,h1,h2,h9⟩;have za:=bC hj;have kn:=(aQ.mp hj).1;obtain⟨xs,h3,h4⟩:=h2 c za;have hck:=(hc c za).1;unfold nO
   refine f9.mpr (oV.mpr (eY.mpr ⟨_,rfl,e9.mpr (gG.mpr (fJ.mpr ⟨_,rfl,by rw[fY.mpr h3];rfl,_,fY.mpr h3,o4.mpr ⟨by simp[lim];lia,?_,by lia,_,rfl,?_,fun d hd=>?_,fun d hd=>?_⟩⟩))⟩))
   ·show lc _ k=_;rw[fY,aR hck];exact h1
   ·rw[aR hck];exact h1
   ·by_cases hdc:c=d
    ·subst hdc
     exact⟨_,mF (j9 h3),by simp;lia⟩
    ·obtain⟨ys,g1,g2⟩:=h2 d hd
     exact⟨ys,by rw[aR hdc];exact g1,by lia⟩
   ·rw[aR (by rintro rfl;exact hd za)];exact h9 d hd
  ·rintro τ C' ⟨_,a,rfl,h1,h2,h9⟩
   refine fW.mpr (oV.mpr (eY.mpr ⟨_,rfl,e9.mpr (gE.mpr (hJ.mpr (e9.mpr (gG.mpr (fJ.mpr ⟨by simp[lim],fJ.mpr ⟨_,rfl,by rw[fY.mpr h1];rfl,_,fY.mpr h1,o4.mpr ⟨by simp[lim];lia,rfl,fun d hd hc=>by rw[aR (Ne.symm hd)];exact h9 d hc⟩⟩⟩)))))⟩))
 obtain⟨l,ag,C',e,rfl,h9⟩:=this
 exact⟨C',by unfold lS aCH;rw[e],h9⟩
theorem aAj{k:Nat}:∀{xs:List Nat},shs k (xs.map T.cell)=(xs.map (k+ ·)).map T.cell
 | []=>by simp[shs]
 |x::xs=>by simp[shs,sh,aAj]
theorem aCK{k:Nat}:∀{xs:List Int},shs k (xs.map T.int)=xs.map T.int
 | []=>by simp[shs]
 |x::xs=>by simp[shs,sh,aCK]
theorem aLy{C:Sto}{c:Nat}{x:Cl}(h:Cn[c]?=some x):(C++Cn.map (shc C.length))[C.length+c]?=some (shc C.length x):=by
 rw[bK (by lia),show C.length+c - C.length=c by lia,bH,h];rfl
structure jZ(C:Sto)(k:Nat)(cs:List Nat)(rows:List (List Int)):Prop where
 at_:C[k]?=some (.l,cs.map T.cell)
 rows:cs.length=rows.length/\∀(i:Nat)(c:Nat)(r:List Int),cs[i]?=some c->rows[i]?=some r->C[c]?=some (.l,r.map T.int)/\c≠k
theorem jZ.dr{C:Sto}{k:Nat}{cs:List Nat}{rows:List (List Int)}(R:jZ C k cs rows):dr 3 C (.cell k)=some (.lst (rows.map iT)):=by
 have h1:mapO (TL.dr 2 C) (cs.map T.cell)=some (rows.map iT):=aEs (by simp[R.rows.1]) fun i t u ht hu=>by
  rw[bH]at ht hu;obtain⟨c,hc,rfl⟩:=aL.mp ht;obtain⟨r,hr,rfl⟩:=aL.mp hu
  exact l9 (fY.mpr (R.rows.2 i c r hc hr).1)
 show(lc C k).bind _=_;rw[fY.mpr R.at_];show(mapO (TL.dr 2 C) _).map _=_;rw[h1];rfl
theorem jZ.sh{C:Sto}{k:Nat}(R:jZ Cn k cs rows):jZ (C++Cn.map (shc C.length)) (C.length+k) (cs.map (C.length+ ·)) rows:=by
 refine⟨?_,by simp[R.rows.1],fun i c r hc hr=>?_⟩
 ·rw[aLy R.at_];show some (Kd.l,shs C.length _)=_;rw[aAj]
 ·rw[bH]at hc;obtain⟨c',ou,rfl⟩:=aL.mp hc;obtain⟨h1,h2⟩:=R.rows.2 i c' r ou hr
  refine⟨?_,by lia⟩
  rw[aLy h1];show some (Kd.l,shs C.length _)=_;rw[aCK]
theorem jZ.app{C G:Sto}{k:Nat}(R:jZ C k cs rows):jZ (C++G) k cs rows:=
 ⟨by rw[aY (j9 R.at_)];exact R.at_,R.rows.1,fun i c r hc hr=>⟨by rw[aY (j9 (R.rows.2 i c r hc hr).1)];exact(R.rows.2 i c r hc hr).1,(R.rows.2 i c r hc hr).2⟩⟩
theorem jZ.spoil{C:Sto}{k:Nat}(R:jZ C k cs rows)(hl:rows.length<395000)(hr:∀r∈rows,r.length<=2000):∃C',lS [.cell k] C=some C'/\∀d,d≠k->d∉cs->C'[d]?=C[d]?:=by
 refine aG7 R.at_ (by rw[R.rows.1];exact hl) fun c hc=>?_
 obtain⟨i,hi⟩:=bQ.mp hc;have bf:i<rows.length:=by rw[<-R.rows.1];exact(aQ.mp hi).1
 obtain⟨h1,h2⟩:=R.rows.2 i c _ hi (bA bf)
 exact⟨h2,_,h1,by rw[aS];exact hr _ (dS bf)⟩
theorem jZ.lt{C:Sto}{k:Nat}(R:jZ C k cs rows):k<C.length/\∀c∈cs,c<C.length:=by
 refine⟨j9 R.at_,fun c hc=>?_⟩
 obtain⟨i,hi⟩:=bQ.mp hc;have bf:i<rows.length:=by rw[<-R.rows.1];exact(aQ.mp hi).1
 exact j9 (R.rows.2 i c _ hi (bA bf)).1
theorem aJd{n:Nat}{G:List T->Sto->Option Sto}{fa:FN}{τ:TSt}{C:Sto}{Q:TL.Fl->TSt->Sto->Prop}:wpS (aFG n G fa) τ C Q↔wpA fa τ C fun ts C1=>ts.length=n/\∃C2,G ts C1=some C2/\Q .nx τ C2:=by
 unfold wpS wpA aFG;constructor
 ·rintro⟨l,t,C',e,q⟩;obtain⟨⟨ts,C1⟩,e1,e⟩:=aK.mp e;dsimp only at e;split at e
  ·obtain⟨C2,e2,e⟩:=aL.mp e;cases e
   exact⟨ts,C1,e1,‹_›,_,e2,q⟩
  ·cases e
 ·rintro⟨ts,C1,e1,h,C2,e2,q⟩
  exact⟨_,_,_,by rw[e1,aU,if_pos h,e2];rfl,q⟩
theorem aAD{n:Nat}{G:List T->Option (T×Sto)}{ts:List T}{r:T}{C:Sto}{Q:T->Sto->Prop}(e:G ts=some (r,Cn))(hl:ts.length=n)(hc:CFs ts=true):wpO (rE n G ts C) Q↔Q (TL.sh C.length r) (C++Cn.map (shc C.length)):=by
 have:rE n G ts C=some (TL.sh C.length r,C++Cn.map (shc C.length)):=by
  unfold rE;rw[if_pos ⟨hl,hc⟩,e];rfl
 rw[this];exact oH
theorem aCB{rl:List (Nat×Int×List Nat)}{rw:Nat}(h1:Cn[rw]?=some (.l,rl.map fun z=>T.cell z.1))(h2:∀z∈rl,Cn[z.1]?=some (aBa z)):jZ Cn rw (rl.map (·.1)) (rl.map rI):=by
 refine⟨by rw[cC];exact h1,by simp,fun i c r hc hr=>?_⟩
 rw[bH]at hc hr;obtain⟨z,hz,rfl⟩:=aL.mp hc;rw[hz]at hr;cases hr;have h3:=h2 z (bC hz)
 refine⟨?_,fun e=>?_⟩
 ·rw[h3];simp[aBa,rI,nI]
 ·rw[e,h1]at h3;cases rl with
  |nil=>simp at hz
  |cons y rl=>simp[aBa]at h3
end K42
namespace K42
open PySem L2 TL Lib NF
variable{ws:List (Int×Int×Int)}{ps:List (Int×Int)}{Q:T->Sto->Prop}{i:Nat}
theorem rF{e:Int}:CFs [.lst (ws.map w3),.lst (ps.map pT),.int e]=true:=by rw[fR,fR,fR,gW,gK,gK,gA,pG,mD];rfl
theorem aAp:CFs [.lst (ws.map w3),.lst (ps.map pT)]=true:=by rw[fR,fR,gW,gK,gK,pG,mD];rfl
theorem self2{b:Bool}{C:Sto}:wpO (gEq b (.lst [.lst (ws.map w3),.lst (ps.map pT)]) (.lst [.lst (ws.map w3),.lst (ps.map pT)]) C) Q↔Q (.bl (!b)) C:=by
 have he:eqT 5 (.lst [.lst (ws.map w3),.lst (ps.map pT)]) (.lst [.lst (ws.map w3),.lst (ps.map pT)])=some true:=by
  apply aBo;intro t ht;simp only[bE,cA,or_false]at ht;rcases ht with rfl|rfl
  ·rw[qP (fun _ _=>aNq)];simp
  ·rw[qP (fun _ _=>aMA)];simp
 have hc:CF (.lst [.lst (ws.map w3),.lst (ps.map pT)])=true:=by rw[gK];exact aAp
 rw[aIi,fO (hX hc),fO (hX hc),fO he];cases b<;>rfl
abbrev hdd(ws:List (Int×Int×Int))(ps:List (Int×Int)):T:=.lst [.lst (ws.map w3),.lst (ps.map pT)]
theorem hand{j:Nat}{τ:TSt}{C:Sto}(hl:ws.length<=8)(hp:ps.length<=1000)(hi:τ[i]?=some (some (.lst (ws.map w3))))(hj:τ[j]?=some (some (.lst (ps.map pT))))(q:Q (hdd ws ps) C):
 wpE (fV (gJ (eX (fV (jR (jF i) 1 [] (gN 0) hW (fV (aCy (eX Y0 fH))))) (eX (fV (jR (jF j) 1 [] (gN 0) hW (fV (aCy (eX Y0 fH))))) fH)))) τ C Q:=by
 refine gE.mpr (hJ.mpr (e9.mpr (gE.mpr (kY.mpr (eY.mpr ⟨_,hi,_,rfl,by simp[lim];lia,g8 w3 (fun w _=>?_) ?_⟩)))))
 ·exact f9.mpr (gE.mpr (sL.mpr (e9.mpr (eY.mpr ⟨w3 w,rfl,fJ.mpr (zC.mpr ⟨_,rfl,rfl,rfl⟩)⟩))))
 ·refine e9.mpr (gE.mpr (kY.mpr (eY.mpr ⟨_,hj,_,rfl,by simp[lim];lia,g8 pT (fun w _=>?_) ?_⟩)))
  ·exact f9.mpr (gE.mpr (sL.mpr (e9.mpr (eY.mpr ⟨pT w,rfl,fJ.mpr (zC.mpr ⟨_,rfl,rfl,rfl⟩)⟩))))
  ·exact fJ.mpr ⟨by simp[lim],q⟩
theorem aED{rl:List (Nat×Int×List Nat)}(h:∀z∈rl,1<=z.2.1/\∀i,z.2.2.count i<=1):0<=(rl.map fun z=>z.2.1*(z.2.2.count i:Int)).sum/\(rl.map fun z=>z.2.1*(z.2.2.count i:Int)).sum<=(rl.map fun z=>z.2.1).sum:=by
 induction rl with
 |nil=>simp
 |cons z rl ih=>
  obtain⟨h1,h2⟩:=ih fun y hy=>h y (aZ _ hy)
  obtain⟨h3,h4⟩:=h z bJ;have h5:=h4 i;rw[aM,aM,eO,eO];rcases(show z.2.2.count i=0\/z.2.2.count i=1 by lia)with e|e<;>rw[e]<;>simp<;>lia
end K42
namespace Lib
open PySem L2 TL NF
variable{ws:List (Int×Int×Int)}{ps:List (Int×Int)}{nd:List (List Int)}{bs fs:List Int}{z:Int}
theorem Gvn.early_mono(G:Gvn ws ps nd){hs gs:List Int}(hE:Early ps hs bs)(hF:Early ps gs fs)(hl:hs.length=ws.length)(gl:gs.length=ws.length)(hH:∀i:Nat,i<ws.length->at0 hs i<=at0 gs i)(hp:∀h∈gs,0<=h):jW 0 (dones bs hs)<=jW 0 (dones fs gs):=by
 obtain⟨n0,n1,n2⟩:=hF.mxL hp
 refine G.fst hE hl (B:=fun i=>at0 fs i) n0 (fun i _=>hF.pos _) (fun p hp=>?_) fun i hi=>?_
 ·have h1:=hF.ge p hp;have h2:=G.inw _ hp;have h3:=hH p.1.toNat (by lia);rw[bZ h2.1.1]at h3|-;rw[bZ h2.2.1]
  lia
 ·have h4:=hH i hi;have h5:=n1 _ ⟨i,by rw[gl];exact hi,rfl⟩
  lia
structure Lot(ws:List (Int×Int×Int))(ps:List (Int×Int))(nd:List (List Int))(bs fs:List Int)(z y:Int):Prop where
 g:Gvn ws ps nd
 p63:ps.length<=63
 e:Early ps (ws.map (·.2.1)) bs
 f:Early ps (ws.map iQ) fs
 zz:jW 0 (dones bs (ws.map (·.2.1)))=z
 yy:jW 0 (dones fs (ws.map iQ))=y
 le:gZ [.lst (ws.map w3),.lst (ps.map pT)]=some (.int z)
 fe:nA [.lst (ws.map w3),.lst (ps.map pT)]=some (.int y)
 z0:0<=z
 zy:z<=y
 yb:y<=8*2^252
theorem Lot.of(ig:ws.length<=8)(av:ps.length<=63)(je:InW ws.length ps)(ow:Acy ps)(dn:∀w∈ws,tS w):∃nd bs fs z y,Lot ws ps nd bs fs z y:=by
 obtain⟨nd,G⟩:=Gvn.ex ig (by lia) je ow dn;have ends:∀f:Int×Int×Int->Int,(∀w∈ws,0<=f w)->∃bs,Early ps (ws.map f) bs/\kI [.lst ((ws.map f).map T.int),.lst (ps.map pT)]=some (.int (jW 0 (dones bs (ws.map f)))):=by
  intro f hf;have hp:∀h∈ws.map f,0<=h:=fun h hm=>by
   obtain⟨w,hw,rfl⟩:=bL.mp hm
   exact hf w hw
  have hln:(ws.map f).length=ws.length:=aS _;have hw:InW (ws.map f).length ps:=by rw[hln];exact je
  obtain⟨_,e,bs,rfl,hE⟩:=aCn (hs:=ws.map f) (by lia) (by lia) hw ow hp
  exact⟨bs,hE,aFB e (by rw[hE.len];lia)⟩
 have p1:∀w∈ws,0<=w.2.1:=fun w hw=>(dn w hw).1
 have p2:∀w∈ws,0<=iQ w:=fun w hw=>by
  have h:=dn w hw;unfold iQ;split
  ·exact h.1
  ·exact aPk h.1 h.2.1
 obtain⟨bs,hE,hz1⟩:=ends (·.2.1) p1;obtain⟨fs,hF,jc⟩:=ends iQ p2
 refine⟨nd,bs,fs,_,_,G,av,hE,hF,rfl,rfl,aBf (by lia) hz1,aBW (by lia) jc,G.zge hE,?_,(G.free hF (bonus:=0) (by decide)).1⟩
 refine G.early_mono hE hF (by simp) (by simp) (fun i hi=>?_) fun h hm=>?_
 ·have hw:=dn _ (dS hi);rw[lX (by simpa using hi),lX (by simpa using hi),eA,eA];unfold iQ;split
  ·exact bR _
  ·exact hw.2.1
 ·obtain⟨w,hw,rfl⟩:=bL.mp hm;exact p2 w hw
theorem Lot.fh{y:Int}(L:Lot ws ps nd bs fs z y):∀h∈ws.map iQ,0<=h:=fun h hm=>by
 obtain⟨w,hw,rfl⟩:=bL.mp hm;have h:=L.g.ok w hw;unfold iQ;split
 ·exact h.1
 ·exact aPk h.1 h.2.1
theorem Lot.en{y:Int}(L:Lot ws ps nd bs fs z y):sY [.lst (ws.map w3),.lst (ps.map pT)]=some (.tup [.int z,.int y]):=by
 have hn:=L.g.l8;have hp:=L.p63;rw[<-L.zz,<-L.yy]
 exact aIO (by lia) (wZ (by simp;lia) (by lia) (by simpa using L.g.inw) L.g.acy (fun h hm=>by
  obtain⟨w,hw,rfl⟩:=bL.mp hm
  exact(L.g.ok w hw).1) L.e) (wZ (by simp;lia) (by lia) (by simpa using L.g.inw) L.g.acy L.fh L.f)
theorem Lot.yC{y:Int}(L:Lot ws ps nd bs fs z y)(hw:∀w∈ws,wQ w):y<=8*2^240:=by
 rw[<-L.yy]
 refine L.g.early_le L.f (by simp) (by decide) fun i hi=>?_
 have:=p7 (P:=wQ) hw hi;have h1:0<=(gR ws).l i:=this.1;have h2:(gR ws).l i<=(gR ws).u i:=this.2.1;have h3:(gR ws).u i<2^240:=this.2.2.2.1;rw[vW hi];split<;>lia
theorem lotM{ns:List Int}(hl:ns.length<=63){M:Nat}(h4:4<=M)(h8:M<=8){u:Int}(ny:0<u)(hu:u<=10^20):∃ws ps nd bs fs z y,z6 [.lst (ns.map T.int),.int M,.int u]=some (.tup [.lst (ws.map w3),.lst (ps.map pT)])/\Lot ws ps nd bs fs z y/\ws.length<=M/\ps.length<=20/\∀w∈ws,wQ w:=by
 obtain⟨_,e1,ws,ps,rfl,ig,av,dn,rs,ck,cw⟩:=aJc hl h4 h8 ny hu;obtain⟨nd,bs,fs,z,y,L⟩:=Lot.of (ws:=ws) (ps:=ps) (by lia) (by lia) (Al.inW ck cw) (Al.acy ck cw) fun w hw=>(dn w hw).b
 exact⟨ws,ps,nd,bs,fs,z,y,e1,L,ig,av,dn⟩
end Lib
namespace Lib
open PySem L2 TL NF
variable{ws:List (Int×Int×Int)}{e z:Int}{rl:List (Nat×Int×List Nat)}{nd:List (List Int)}{ps:List (Int×Int)}{bs fs:List Int}
theorem aFX{rows:List (Int×List Int)}(hm:ws.length<=100)(hl:rows.length<90000)(hx:∀r∈rows,∀w∈r.2,0<=w/\w<(ws.length:Int))(hw:∀w∈ws,WB w)
 (ht:∀i,Bt 1000 (t6 rows i))(ha:Bt 1000 (rows.map (·.1)).sum)(he:Bt 1000 e):
 v3 [.lst (ws.map w3),.lst (rows.map rT),.int e]=some (.int (aD4 ws rows e)):=by
 apply iJ;unfold aEz;have w1:∀{C Q},wpO (iX 2 m4 [.int ws.length,.lst (rows.map rT)] C) Q↔Q (.lst (((bI ws.length).map (t6 rows)).map T.int)) C:=aCG hm hx;walk_at "b";simp_arith[↓fG,↓fF,↓fE,↓w1,aS,aC3]
 refine⟨x8 (by simp;lia),g8 (fun p=>T.int (wworth p.1 p.2)) (fun p hp=>?_) ?_⟩
 ·have vh:=hw p.1 (aOZ hp).1;have oj:Bt 1000 p.2:=by
   obtain⟨i,_,e⟩:=bL.mp (aOZ hp).2;rw[<-e];exact ht i
  simp only[scT,aT,aM,bB,aX,aV,aW,bT,bU,cF];simp_arith[↓fG,↓fF,↓fE,↓yZ]
 ·rw[oJ]
  refine⟨_,rfl,(by(try simp only[aS]);unfold lim;lia),g8 (fun r=>T.int r.1) (fun r _=>?_) ?_⟩
  ·simp only[scT,aT,aM,bB,aX,aV,aW,bT,bU,cF];simp_arith[↓fG,↓fF,↓fE,rT,↓fO (aCE (α:=T))]
  ·rw[oJ]
   refine⟨_,rfl,uR he ha (by decide),?_⟩
   exact hX gA
noncomputable def rws(rl:List (Nat×Int×List Nat)):List (Int×List Int):=rl.map fun z=>(z.2.1,z.2.2.map fun i:Nat=>(i:Int))
theorem aOj:(rws rl).map rT=(rl.map K42.rI).map iT:=by
 unfold rws;rw[cC,cC];rfl
theorem aCt{i:Nat}:∀{is:List Nat},(is.map fun i:Nat=>(i:Int)).count (i:Int)=is.count i
 | []=>rfl
 |a::is=>by
  rw[aM,eN,eN,aCt];congr 1;by_cases h:a=i
  ·subst h;simp
  ·rw[if_neg (by simp;lia),if_neg (by simp;lia)]
theorem aFe{i:Nat}:t6 (rws rl) i=(rl.map fun z=>z.2.1*(z.2.2.count i:Int)).sum:=by
 unfold t6 rws;rw[cC];congr 1
 refine cL fun z _=>?_
 show z.2.1*_=_;rw[aCt]
theorem aEj:((rws rl).map (·.1)).sum=(rl.map fun z=>z.2.1).sum:=by
 unfold rws;rw[cC];rfl
theorem aFy{n:Nat}{g:Nat->Int}:((bI n).map g).sum=sm n g:=by
 induction n with
 |zero=>rfl
 |succ n ih=>rw[dY,bP,aO1,ih];simp[sm]
theorem aFQ(gr:∀i,i<ws.length->(gR ws).l i<=(gR ws).u i):
 aD4 ws (rws rl) e=sm ws.length (fun i=>min ((rl.map fun z=>z.2.1*(z.2.2.count i:Int)).sum*(gR ws).u i) ((gR ws).p i*((gR ws).u i - (gR ws).l i)+(rl.map fun z=>z.2.1*(z.2.2.count i:Int)).sum*(gR ws).l i)) - e*(rl.map fun z=>z.2.1).sum:=by
 unfold aD4;rw[aEj];congr 1;rw[<-aFy];congr 1;apply List.ext_getElem
 ·simp
 ·intro i h1 h2;have hi:i<ws.length:=by simpa using h2
  obtain⟨q1,q2,q3⟩:=K42.aOA hi;have:=gr i hi;simp only[eA,List.getElem_zip,dU];rw[aFe];generalize (rl.map fun z=>z.2.1*(z.2.2.count i:Int)).sum=x;rw[<-aEN this];unfold wworth;rw[q1,q2,q3];split
  ·rfl
  ·rw[cJ,aPf];lia
def lJ(ws:List (Int×Int×Int))(nd:List (List Int))(e q:Int):Prop:=∃f a pp,Good (gR ws) ws.length (iM 0 nd) (plenty ws 0) f a pp/\pp 1=e/\a<=sm ws.length (gR ws).p/\q=len (iA ws nd 0) f - a*e
theorem lJ.uni{q q':Int}(h:lJ ws nd e q)(h':lJ ws nd e q'):q=q':=by
 obtain⟨f,a,pp,G,h1,_,rfl⟩:=h;obtain⟨f',a',pp',G',gw,_,rfl⟩:=h'
 exact rG G G' h1 gw
theorem nM{y:Int}(L:Lot ws ps nd bs fs z y)(he:e<2^300):
 (e<z->jE [.lst (ws.map w3),.lst (ps.map pT),.int e]=some .non)/\
 (z<=e->∃q,jE [.lst (ws.map w3),.lst (ps.map pT),.int e]=some (.int q)/\lJ ws nd e q):=by
 have hz0:=L.z0;have hn:=L.g.l8;obtain⟨S1,S2⟩:=aA6 L.g L.e L.f (by rw[L.zz];exact L.le) (e:=e);rw[L.zz]at S1 S2;have w4:∀{C Q},wpO (iX 2 gZ [.lst (ws.map w3),.lst (ps.map pT)] C) Q↔Q (.int z) C:=fQ L.le rfl K42.aAp;constructor
 ·intro yw;apply iJ;unfold rN;walk_at "b"
  refine fK.mpr (lO.mpr (gT.mpr (fL.mpr (eY.mpr ⟨_,rfl,gC.mpr (e9.mpr (eY.mpr ⟨_,rfl,e9.mpr (eY.mpr ⟨_,rfl,fJ.mpr (w4.mpr (jS.mpr ⟨_,rfl,?_⟩))⟩)⟩))⟩))))
  rw[if_pos (decide_eq_true yw)]
  exact iF.mpr (gG.mpr (hX rfl))
 ·intro tu;obtain⟨f2,a2,p2,rl,rw,Cn,s1,G2,oj,ha2,gh,RO,c1,c2,_⟩:=S2 tu;have gr:∀i,i<ws.length->(gR ws).l i<=(gR ws).u i:=fun i hi=>(p7 (P:=tS) L.g.ok hi).2.1
  have k4:=aCC G2 G2 oj oj gr RO;have R2:=(K42.aCB c1 c2).sh (C:=[]);have d2:=R2.dr;have hzz:∀x∈rl,1<=x.2.1/\∀i,x.2.2.count i<=1:=fun x hx=>⟨(RO.ok x hx).1,(RO.ok x hx).2.2.2.2⟩
  have hsP:=L.g.sP;have re:0<=(rl.map fun z=>z.2.1).sum/\(rl.map fun z=>z.2.1).sum<2^256:=by
   have h1:=K42.aED (i:=0) hzz;have h2:=RO.sum
   refine⟨by lia,?_⟩
   have h3:(8*2^252:Int)<2^256:=by decide
   lia
  have eW:=aFX (ws:=ws) (rows:=rws rl) (e:=e) (by lia) (by unfold rws;rw[aS];lia) (fun r hr w hw=>by
   unfold rws at hr;obtain⟨x,hx,rfl⟩:=bL.mp hr;obtain⟨i,hi,rfl⟩:=bL.mp hw;have:=(RO.ok x hx).2.2.1 i hi
   lia) (fun w hw=>by
   have h:=L.g.ok w hw;have hu:0<=w.1:=aPk h.1 h.2.1
   exact⟨Bt.mono (Bt.of_lt hu (aOV h.2.2.2.1 (by decide:(2^252:Int)<2^256))) (by decide),Bt.mono (Bt.of_lt h.1 (dJ h.2.1 (aOV h.2.2.2.1 (by decide:(2^252:Int)<2^256)))) (by decide),Bt.mono (Bt.of_lt h.2.2.1 (aOV h.2.2.2.2 (by decide:(2^252:Int)<2^256))) (by decide)⟩) (fun i=>by
   rw[aFe];have h1:=K42.aED (i:=i) hzz;have h2:(rl.map fun z=>z.2.1*(z.2.2.count i:Int)).sum<2^256:=by lia
   exact Bt.mono (Bt.of_lt h1.1 h2) (by decide)) (by
   rw[aEj]
   exact Bt.mono (Bt.of_lt re.1 re.2) (by decide)) (Bt.mono (Bt.of_lt (by lia) he) (by decide))
  rw[aOj,aFQ gr,<-k4]at eW
  refine⟨_,?_,f2,a2,p2,G2,oj,ha2,rfl⟩
  apply iJ;unfold rN;walk_at "b"
  refine fK.mpr (lO.mpr (gT.mpr (fL.mpr (eY.mpr ⟨_,rfl,gC.mpr (e9.mpr (eY.mpr ⟨_,rfl,e9.mpr (eY.mpr ⟨_,rfl,fJ.mpr (w4.mpr (jS.mpr ⟨_,rfl,?_⟩))⟩)⟩))⟩))))
  rw[if_neg (by simpa using tu)]
  refine iD.mpr (fW.mpr (iF.mpr ?_))
  refine gC.mpr (e9.mpr (eY.mpr ⟨_,rfl,e9.mpr (gC.mpr (e9.mpr (eY.mpr ⟨_,rfl,e9.mpr (eY.mpr ⟨_,rfl,e9.mpr (eY.mpr ⟨_,rfl,fJ.mpr ((K42.aAD s1 rfl K42.rF).mpr ?_)⟩)⟩)⟩)))⟩))
  refine e9.mpr (eY.mpr ⟨_,rfl,fJ.mpr ?_⟩)
  exact z5 rfl (jI (hX (by rw[gK,pG])) (jI d2 (jI (hX gA) aCk))) ⟨_,eW,rfl,hX gA⟩
theorem xE{y:Int}(L:Lot ws ps nd bs fs z y)(he:e<2^300):
 (e<=z->mZ [.lst (ws.map w3),.lst (ps.map pT),.int e]=some .non)/\
 (z<e->∃q q',lJ ws nd (e - 1) q/\lJ ws nd e q'/\mZ [.lst (ws.map w3),.lst (ps.map pT),.int e]=some (.int (q - q'))):=by
 have w4:∀{C Q},wpO (iX 2 gZ [.lst (ws.map w3),.lst (ps.map pT)] C) Q↔Q (.int z) C:=fQ L.le rfl K42.aAp;constructor
 ·intro yw;apply iJ;unfold uE;walk_at "b"
  refine fK.mpr (lO.mpr (gT.mpr (fL.mpr (eY.mpr ⟨_,rfl,gC.mpr (e9.mpr (eY.mpr ⟨_,rfl,e9.mpr (eY.mpr ⟨_,rfl,fJ.mpr (w4.mpr (jS.mpr ⟨_,rfl,?_⟩))⟩)⟩))⟩))))
  rw[if_pos (decide_eq_true yw)]
  exact iF.mpr (gG.mpr (hX rfl))
 ·intro tu;obtain⟨q,e1,p1⟩:=(nM L (e:=e - 1) (by lia)).2 (by lia);obtain⟨q',e2,p2⟩:=(nM L he).2 (by lia);have w5:∀{C Q},wpO (iX 3 jE [.lst (ws.map w3),.lst (ps.map pT),.int (e - 1)] C) Q↔Q (.int q) C:=fQ e1 rfl K42.rF;have w6:∀{C Q},wpO (iX 3 jE [.lst (ws.map w3),.lst (ps.map pT),.int e] C) Q↔Q (.int q') C:=fQ e2 rfl K42.rF
  refine⟨q,q',p1,p2,?_⟩
  apply iJ;unfold uE;walk_at "b"
  refine fK.mpr (lO.mpr (gT.mpr (fL.mpr (eY.mpr ⟨_,rfl,gC.mpr (e9.mpr (eY.mpr ⟨_,rfl,e9.mpr (eY.mpr ⟨_,rfl,fJ.mpr (w4.mpr (jS.mpr ⟨_,rfl,?_⟩))⟩)⟩))⟩))))
  rw[if_neg (by simpa using tu)]
  refine iD.mpr (fW.mpr (iF.mpr ?_))
  simp_arith[↓fG,↓fF,↓fE,↓w5,↓w6]
  exact hX gA
end Lib
namespace Lib
open PySem L2 TL NF
structure Pl(ws:List (Int×Int×Int))(ps:List (Int×Int))(e:Int)(b h:Nat->Int):Prop where
 b0:∀i,i<ws.length->0<=b i
 lh:∀i,i<ws.length->(gR ws).l i<=h i
 hu:∀i,i<ws.length->h i<=(gR ws).u i
 en:∀i,i<ws.length->b i+h i<=e
 ne:∀p∈ps,b p.1.toNat+h p.1.toNat<=b p.2.toNat
def cst(ws:List (Int×Int×Int))(h:Nat->Int):Int:=sm ws.length fun i=>(gR ws).p i*((gR ws).u i - h i)
section
variable {ws:List (Int×Int×Int)}{ps:List (Int×Int)}{nd:List (List Int)}{bs fs:List Int}{z y e q:Int}{b h:Nat->Int}
theorem lJ.plan(G:Gvn ws ps nd)(A:lJ ws nd e q):∃b h,Pl ws ps e b h/\cst ws h=q:=by
 obtain⟨f,a,pp,g,hp,ha,rfl⟩:=A;have W:=G.wel (bonus:=0) (by decide);obtain⟨k1,k2,k3⟩:=aKt W g hp (dJ ha W.pP) fun i hi=>(p7 (P:=tS) G.ok hi).2.1
 exact⟨beg pp,hrs (gR ws) pp,⟨fun i hi=>(k1 i hi).1,fun i hi=>(k1 i hi).2.1,fun i hi=>(k1 i hi).2.2.1,fun i hi=>(k1 i hi).2.2.2,fun p hp=>k2 _ (aE1 G.inw G.ndd hp)⟩,k3⟩
theorem Lot.pl_z(L:Lot ws ps nd bs fs z y)(p:Pl ws ps e b h)(he:0<=e):z<=e:=by
 have uf:∀i:Nat,i<ws.length->at0 (ws.map (·.2.1)) i=(gR ws).l i:=fun i hi=>by
  rw[lX (by simpa using hi),eA];show _=((ws[i]?).getD (0,0,0)).2.1;rw[bA hi];rfl
 rw[<-L.zz]
 refine L.g.fst L.e (aS _) he p.b0 (fun x hx=>?_) fun i hi=>?_
 ·have h1:=p.ne x hx;have h2:=L.g.inw _ hx;have hi:x.1.toNat<ws.length:=by lia
  have h3:=uf _ hi;rw[bZ h2.1.1]at h3;have:=p.lh _ hi
  lia
 ·have h4:=p.en i hi;have h5:=p.lh i hi;have h6:=uf i hi
  lia
end
end Lib
namespace NF
variable {N:Nt}{f p:Nat->Int}{w:Wk}{n:Nat}{es:List (Nat×Nat)}{P a:Int}
variable{o:Nat×Bool}
theorem Walk.cut:∀{s t:List (Nat×Bool)}{u v:Nat}{e:Nat×Bool},Walk N (s++e::t) u v->Walk N (s++[e]) u (rh N e)
 | [],_,_,_,_,⟨a,b,_⟩=>⟨a,b,rfl⟩
 |_::_,_,_,_,_,⟨a,b,c⟩=>⟨a,b,Walk.cut c⟩
theorem Rte.cut{s t:List (Nat×Bool)}{v:Nat}{e:Nat×Bool}(R:Rte N f p (s++e::t) v):Rte N f p (s++[e]) (rh N e):=by
 have hs:∀x∈s++[e],x∈s++e::t:=fun x hx=>by
  rcases bM.mp hx with h|h
  ·exact aOQ _ h
  ·rw[bS.mp h];simp
 refine⟨R.wk.cut,fun x hx=>R.tg x (hs x hx),fun x hx=>R.op x (hs x hx),?_⟩
 have:(0::(s++e::t).map (rh N))=(0::(s++[e]).map (rh N))++t.map (rh N):=by simp
 have h:=R.nd;rw[this]at h
 exact(dO.mp h).1
theorem Rte.on{r:List (Nat×Bool)}(R:Rte N f p r (rt N o))(ho:Open N f o)(tg:p (rt N o)+rd N o=p (rh N o)):∃r',Rte N f p r' (rh N o):=by
 by_cases h:rh N o∈0::r.map (rh N)
 ·rcases bE.mp h with h|h
  ·rw[h];exact⟨[],.nil⟩
  ·obtain⟨e,he,h'⟩:=bL.mp h;obtain⟨s,t,rfl⟩:=List.append_of_mem he;rw[<-h'];exact⟨_,R.cut⟩
 ·exact⟨_,R.snoc ho rfl tg h⟩
noncomputable def five(w:Wk)(i:Nat)(k:Nat):Int:=match k with
 |0=>0
 |1=>w.u i
 |2=>w.l i
 |3=> - w.u i
 |_=> - w.l i
def vals(w:Wk):Nat->List Int
 |0=>[0]
 |n+1=>(vals w n).flatMap fun x=>(bI 5).map fun k=>x+five w n k
theorem aHX:(vals w n).length=5^n:=by
 induction n with
 |zero=>rfl
 |succ n ih=>
  have:∀xs:List Int,(xs.flatMap fun x=>(bI 5).map fun k=>x+five w n k).length=xs.length*5:=fun xs=>by
   induction xs with
   |nil=>rfl
   |cons x xs ih=>rw[List.flatMap_cons,bD,ih,aS,eR,aN];lia
  rw[vals,this,ih,aQw]
theorem aG0{g:Nat->Nat}(hg:∀i,g i<5):sm n (fun i=>five w i (g i))∈vals w n:=by
 induction n with
 |zero=>simp[vals,sm]
 |succ n ih=>exact List.mem_flatMap.mpr ⟨_,ih,bL.mpr ⟨g n,cT.mpr (hg n),rfl⟩⟩
theorem aFx(ho:o.1<(net w n es P).m):rd (net w n es P) o=0\/∃i k,i<n/\k<5/\rd (net w n es P) o=five w i k/\(rt (net w n es P) o=2*i+2/\rh (net w n es P) o=2*i+3\/rt (net w n es P) o=2*i+3/\rh (net w n es P) o=2*i+2):=by
 obtain⟨k,b⟩:=o;unfold rd rt rh;cases pipe ho with
 |src i hi e t h d c=>left;cases b<;>simp_all
 |snk i hi e t h d c=>left;cases b<;>simp_all
 |nee x y j hj e t h d c=>left;cases b<;>simp_all
 |usu i hi e t h d c=>
  right;dsimp only at t h d|-;cases b
  ·exact⟨i,3,hi,by decide,by simp[d,five],.inr ⟨by simp[h],by simp[t]⟩⟩
  ·exact⟨i,1,hi,by decide,by simp[d,five],.inl ⟨by simp[t],by simp[h]⟩⟩
 |lea i hi e t h d c=>
  right;dsimp only at t h d|-;cases b
  ·exact⟨i,4,hi,by decide,by simp[d,five],.inr ⟨by simp[h],by simp[t]⟩⟩
  ·exact⟨i,2,hi,by decide,by simp[d,five],.inl ⟨by simp[t],by simp[h]⟩⟩
theorem aAt:∀{r:List (Nat×Bool)}{u v:Nat},Walk (net w n es P) r u v->(u::r.map (rh (net w n es P))).Nodup->∃g:Nat->Nat,(∀i,g i<5)/\(r.map (rd (net w n es P))).sum=sm n (fun i=>five w i (g i))/\∀i,g i≠0->2*i+2∈(u::r.map (rh (net w n es P)))/\2*i+3∈(u::r.map (rh (net w n es P)))
 | [],u,v,_,_=>⟨fun _=>0,fun _=>(by decide:0<5),(l7 fun _ _=>rfl).symm,fun i h=>absurd rfl h⟩
 |o::r,u,v,⟨h1,h2,h3⟩,hn=>by
  rw[aM,bV]at hn;obtain⟨g,g5,gs,gv⟩:=aAt h3 hn.2;rw[aM,eO,aM];rcases aFx h1 with h0| ⟨i,k,hi,hk,hd,hp⟩
  ·exact⟨g,g5,by rw[h0,gs,aO5],fun i h=>⟨aZ _ (gv i h).1,aZ _ (gv i h).2⟩⟩
  ·have z:g i=0:=by
    by_cases h:g i=0
    ·exact h
    ·have:=gv i h;rcases hp with⟨e1,e2⟩| ⟨e1,e2⟩
     ·rw[<-h2,e1]at hn;exact absurd this.1 hn.1
     ·rw[<-h2,e1]at hn;exact absurd this.2 hn.1
   refine⟨fun j=>if j=i then k else g j,fun j=>?_,?_,fun j hj=>?_⟩
   ·dsimp only;split
    ·exact hk
    ·exact g5 j
   ·have e:(fun j=>five w j (if j=i then k else g j))=up (fun j=>five w j (g j)) i (five w i k):=by
     funext j;unfold up;split
     ·rename_i h;rw[h]
     ·rfl
    rw[e,aHY hi,gs,hd,z];show _=_+(_ - 0)
    lia
   ·dsimp only at hj;by_cases h:j=i
    ·subst h;rcases hp with⟨e1,e2⟩| ⟨e1,e2⟩
     ·rw[<-h2,e1,e2];simp
     ·rw[<-h2,e1,e2];simp
    ·rw[if_neg h]at hj
     exact⟨aZ _ (gv j hj).1,aZ _ (gv j hj).2⟩
theorem zZ:∀{r:List (Nat×Bool)}{u v:Nat},Walk N r u v->Tight N p r->(r.map (rd N)).sum=p v - p u
 | [],u,v,h,_=>by cases h;simp
 |o::r,u,v,⟨h1,h2,h3⟩,t=>by
  have:=t o (by simp);rw[aM,eO,zZ h3 fun e he=>t e (aZ _ he),<-h2]
  lia
theorem Good.vals(G:Good w n es P f a p)(L:Least (net w n es P) (2*n+2) f (fun _=>0) p)(ho:∀k,k<(net w n es P).m->isU n k=false->f k<(net w n es P).c k)(hn:∀e∈es,e.1<n/\e.2<n)(hl:∀i,i<n->0<=w.l i)(h0:0<n):p 1∈vals w n:=by
 obtain⟨r,R⟩:=G.route L ho hn hl h0 (fun v=>∃r,Rte (net w n es P) f p r v) ⟨[],.nil⟩ fun o h1 ⟨r,R⟩ h2=>R.on h1 h2
 obtain⟨g,g5,gs,_⟩:=aAt R.wk R.nd;rw[zZ R.wk R.tg,G.p0,eG]at gs;rw[gs];exact aG0 g5
theorem aBR{α:Type}[DecidableEq α]:∀{xs ys:List α},xs.Nodup->(∀x∈xs,x∈ys)->xs.length<=ys.length
 | [],_,_,_=>dF _
 |x::xs,ys,h,hs=>by
  rw[bV]at h;have hx:=hs x (by simp);have:=aBR (ys:=ys.erase x) h.2 fun y hy=>(aPO fun(z:y=x)=>h.1 (z ▸ hy)).mpr (hs y (aZ _ hy))
  rw[d4 hx]at this;have:=aPE hx;rw[aN];lia
theorem aJg{xs:List Int}(h:xs.Pairwise (· > ·))(hv:∀x∈xs,x∈vals w n):xs.length<=5^n:=by
 rw[<-aHX (w:=w)]
 exact aBR (h.imp fun h=>by lia) hv
end NF
namespace NF
variable {w:Wk}{n:Nat}{es:List (Nat×Nat)}{P:Int}{f p:Nat->Int}{a e e' q x:Int}
def Seg(w:Wk)(n:Nat)(es:List (Nat×Nat))(P e e' q a:Int):Prop:=∃f m r,Good w n es P f a m/\m 1=e'/\Good w n es P f a r/\r 1=e/\q=len (net w n es P) f - a*e/\a<=sm n w.p
theorem Seg.at_(S:Seg w n es P e e' q a)(h1:e'<=x)(h2:x<=e):∃f p,Good w n es P f a p/\p 1=x/\q+a*(e - x)=len (net w n es P) f - a*x/\a<=sm n w.p:=by
 obtain⟨f,m,r,G,hm,G',hr,rfl,ha⟩:=S;obtain⟨p,Gp,hp⟩:=G.amid G' (e:=x) (by lia) (by lia)
 exact⟨f,p,Gp,hp,by rw[cJ];lia,ha⟩
structure Cor(w:Wk)(n:Nat)(es:List (Nat×Nat))(P y:Int)(E Q A:Nat->Int)(k:Nat):Prop where
 e0:E 0=y
 q0:Q 0=0
 a0:A 0=0
 seg:∀i,i<k->Seg w n es P (E i) (E (i+1)) (Q i) (A (i+1))
 fall:∀i,i<k->E (i+1)<E i
 dear:∀i,i<k->A i<A (i+1)
 price:∀i,i<k->Q (i+1)=Q i+A (i+1)*(E i - E (i+1))
 val:∀i,i<k->E (i+1)∈vals w n
theorem Cor.falls{y:Int}{E Q A:Nat->Int}{k:Nat}(C:Cor w n es P y E Q A k):∀{j i:Nat},i<j->j<=k->E j<E i
 |0,i,h,_=>by lia
 |j+1,i,h,hk=>by
  have:=C.fall j (by lia);by_cases hj:i=j
  ·rw[hj];exact this
  ·have:=C.falls (j:=j) (i:=i) (by lia) (by lia);lia
theorem Cor.le{y:Int}{E Q A:Nat->Int}{k i:Nat}(C:Cor w n es P y E Q A k)(h:i<=k):E i<=y:=by
 rw[<-C.e0];rcases aO2 i with z|z
 ·rw[z];exact bR _
 ·exact aO8 (C.falls z h)
theorem Cor.ge{y:Int}{E Q A:Nat->Int}{k i:Nat}(C:Cor w n es P y E Q A k)(h:i<=k):E k<=E i:=by
 rcases Nat.lt_or_eq_of_le h with z|z
 ·exact aO8 (C.falls z (bF _))
 ·rw[z];exact bR _
theorem Cor.count{y:Int}{E Q A:Nat->Int}{k:Nat}(C:Cor w n es P y E Q A k):k<=5^n:=by
 have:=aJg (w:=w) (n:=n) (xs:=(bI k).map fun i=>E (i+1)) ?_ fun x hx=>?_
 ·simpa using this
 ·refine aPr.mpr fun i j hi hj ko=>?_
  simp only[aS,eR]at hi hj;simp only[eA,dU]
  exact C.falls (by lia) (by lia)
 ·obtain⟨i,hi,rfl⟩:=bL.mp hx
  exact C.val i (cT.mp hi)
theorem Cor.more{y:Int}{E Q A:Nat->Int}{k:Nat}(C:Cor w n es P y E Q A k)(S:Seg w n es P (E k) e (Q k) a)(hf:e<E k)(ha:A k<a)(hv:e∈vals w n):Cor w n es P y (up E (k+1) e) (up Q (k+1) (Q k+a*(E k - e))) (up A (k+1) a) (k+1):=by
 have l:∀{i:Nat}{g:Nat->Int}{v:Int},i<=k->up g (k+1) v i=g i:=fun h=>sA (by lia)
 refine⟨by rw[l (by lia)];exact C.e0,by rw[l (by lia)];exact C.q0,by rw[l (by lia)];exact C.a0,fun i hi=>?_,fun i hi=>?_,fun i hi=>?_,fun i hi=>?_,fun i hi=>?_⟩<;>by_cases h:i=k
 ·subst h;rw[jM,jM,l (bF _),l (bF _)];exact S
 ·rw[l (by lia),l (by lia),l (by lia),l (by lia)];exact C.seg i (by lia)
 ·subst h;rw[jM,l (bF _)];exact hf
 ·rw[l (by lia),l (by lia)];exact C.fall i (by lia)
 ·subst h;rw[jM,l (bF _)];exact ha
 ·rw[l (by lia),l (by lia)];exact C.dear i (by lia)
 ·subst h;rw[jM,jM,jM,l (bF _),l (bF _)]
 ·rw[l (by lia),l (by lia),l (by lia),l (by lia),l (by lia)];exact C.price i (by lia)
 ·subst h;rw[jM];exact hv
 ·rw[l (by lia)];exact C.val i (by lia)
theorem aDn(hf:Flo (net w n es P) f a):(sm (net w n es P).m fun k=>if(net w n es P).t k=0 then f k else 0)=a:=by
 have:=hf fun v=>if v=0 then 0 else 1
 simp only[Nat.one_ne_zero,if_true,if_false,eG,aQc]at this;rw[<-this]
 refine kJ fun k hk=>?_
 have hh:(net w n es P).h k≠0:=by
  cases pipe hk with
  |src i hi e t h d c=>rw[h];lia
  |usu i hi e t h d c=>rw[h];lia
  |lea i hi e t h d c=>rw[h];lia
  |snk i hi e t h d c=>rw[h];lia
  |nee x y i hi e t h d c=>rw[h];lia
 rw[if_neg hh];split<;>simp
end NF
namespace Lib
open PySem L2 TL NF
variable{w:Wk}{es:List (Nat×Nat)}{P z:Int}{c:Nat}{Q:T->Sto->Prop}{ws:List (Int×Int×Int)}{ps:List (Int×Int)}{nd:List (List Int)}{bs fs:List Int}
theorem xV{n:Nat}(W:Wel w n es P){f p:Nat->Int}{a:Int}{C:Sto}(A:hZ (net w n es P) f c (2*n+2:Nat) C)(G:Good w n es P f a p)(L:Least (net w n es P) (2*n+2) f (fun _=>0) p)(hb:sm (2*n+2) p<10^199)
 (q:∀x,Q (.int (p 1)) (C++[x])):wpO (j8 [.cell c] C) Q:=by
 refine iI ?_
 unfold nT;walk_at "b"
 refine iF.mpr (fL.mpr (kF (eY.mpr ⟨_,rfl,lI A.net rfl,e9.mpr (gG.mpr (fJ.mpr ⟨rfl,moments0 W A G hb fun p' L' G' h'=>gG.mpr ?_⟩))⟩)))
 have e:p' 1=p 1:=aO0 (h' 1 (by lia)) (L.le p' (fun v hv=>G'.ge v hv) G'.pot 1 (by lia))
 refine jG.mpr ⟨kO (2*n+2) p',fY.mpr (by simp),_,aAV (v:=1) (by lia),?_⟩
 rw[e];exact q _
theorem aDM{n:Nat}{g:Nat->Int}{b:Nat->Bool}:(((bI n).filter b).map g).sum=sm n fun k=>if b k=true then g k else 0:=by
 induction n with
 |zero=>rfl
 |succ n ih=>
  rw[dY,List.filter_append,bP,aO1,ih];show _=sm n _+_;congr 1;cases h:b n<;>simp[h]
theorem aFL{n:Nat}{f:Nat->Int}{a:Int}{C:Sto}(A:hZ (net w n es P) f c (2*n+2:Nat) C)(hm:(net w n es P).m<40000)(hf:Flo (net w n es P) f a)(q:Q (.int a) C):wpO (mO [.cell c] C) Q:=by
 have hfl:nY "Net" "pipes" C (.cell c)=some (.cell (c+1)):=kP A.net rfl;have hl:lc C (c+1)=some ((bI (net w n es P).m).map fun j=>.cell (pc c (j,true))):=fY.mpr A.lst
 refine iI ?_
 unfold sC;walk_at "b"
 refine iF.mpr (gC.mpr (e9.mpr (gE.mpr (kY.mpr (f8 (iS rfl hfl) ⟨_,hl,by simp[lim];lia,?_⟩)))))
 refine tE (xs:=bI (net w n es P).m) (en:=fun j=>T.cell (pc c (j,true))) (fun j=>decide ((net w n es P).t j=0)) (fun j=>T.int (f j)) (fun j hj=>?_) ?_
 ·have hj:=cT.mp hj;have h1:=(A.fld (o:=(j,true)) hj).1;have h2:=(A.fld (o:=(j,true)) hj).2.2.2.2;have h3:=(A.fld (o:=(j,false)) hj).2.2.2.1
  refine f9.mpr (gT.mpr (fL.mpr (f8 (iS (t:=.cell (pc c (j,true))) rfl h1) (gG.mpr (rS.mpr ⟨_,rfl,rfl,?_,fun _=>wD.mpr (f8 (iS (t:=.cell (pc c (j,true))) rfl h2) ⟨_,h3,rfl,rfl⟩)⟩)))))
  exact decide_eq_decide.mpr (by show((rt (net w n es P) (j,true):Nat):Int)=0↔rt (net w n es P) (j,true)=0;lia)
 ·refine fJ.mpr ?_
  refine rX.mpr ⟨_,rfl,_,oJ,rfl,?_⟩
  rw[aDM];simp only[decide_eq_true_eq];rw[aDn hf]
  exact q
theorem Lot.free_min{y:Int}(L:Lot ws ps nd bs fs z y){a:Int}{q:Nat->Int}(G:Good (gR ws) ws.length (iM 0 nd) (plenty ws 0) (fun _=>0) a q):y<=q 1:=by
 have W:=L.g.wel (bonus:=0) (by decide);have ha:=aCs G.flo;have lr:0<=sm ws.length (gR ws).p:=m5 fun i hi=>(p7 (P:=tS) L.g.ok hi).2.2.1
 obtain⟨q1,q2,q3,q4⟩:=aBc G.pot (W.open G (by have:=W.pP;lia)) G.p0 W.ein;have gx:∀i:Nat,i<ws.length->at0 (ws.map iQ) i<=q (2*i+3) - q (2*i+2):=fun i hi=>by
  rw[vW hi];have h1:=q2 i hi;split
  ·lia
  ·rename_i hp;have cm:=(p7 (P:=tS) L.g.ok hi).2.2.1;have hm:4*i+1<(net (gR ws) ws.length (iM 0 nd) (plenty ws 0)).m:=by show _<4*ws.length+_;lia
   have h2:=(G.pot _ hm).1;cases pipe hm with
   |src j hj e=>lia
   |lea j hj e=>lia
   |snk j hj e=>lia
   |nee x y j hj e=>lia
   |usu j hj e t h d c=>
    have:j=i:=by lia
    subst this;rw[t,h,d,c]at h2;have:=h2 (by have:0<=(gR ws).p j:=cm;lia)
    lia
 rw[<-L.yy]
 refine L.g.fst L.f (by simp) (B:=fun i=>q (2*i+2)) (G.ge 1 (by lia)) (fun i hi=>G.ge _ (by lia)) (fun x hx=>?_) fun i hi=>?_
 ·have h1:=q4 _ (aE1 L.g.inw L.g.ndd hx);have h2:=L.g.inw _ hx;have h3:=gx x.1.toNat (by lia);rw[bZ h2.1.1]at h3;dsimp only at h1|-
  lia
 ·have h3:=gx i hi;have:=q3 i hi
  lia
def jZ(E Q:Nat->Int)(k:Nat)(r:Nat->Nat)(c:Nat)(C:Sto):Prop:=C[c]?=some (.l,(bI (k+1)).map fun i=>.cell (r i))/\∀i,i<=k->C[r i]?=some (.l,[.int (E i),.int (Q i)])
theorem aDa{y:Int}(L:Lot ws ps nd bs fs z y):
 ∃k E q A r Cn,oE [.lst (ws.map w3),.lst (ps.map pT)]=some (.cell 1,Cn)/\jZ E q k r 1 Cn/\(∀i j,i<=k->j<=k->r i=r j->i=j)/\(∀i,i<=k->r i≠1)/\Cor (gR ws) ws.length (iM 0 nd) (plenty ws 0) y E q A k/\E k=z:=by
 have G:=L.g;have hn:=G.l8;have hz0:=L.z0;have hzy:=L.zy;have hyb:=L.yb;have W:=G.wel (bonus:=0) (by decide);obtain⟨_,p0,G0,hb,lr⟩:=G.free L.f (bonus:=0) (by decide);rw[L.yy]at lr;have vq:=K42.aAp (ws:=ws) (ps:=ps);have h:wpO (oE [.lst (ws.map w3),.lst (ps.map pT)]) fun t Cn=>∃k E q A r,t=.cell 1/\jZ E q k r 1 Cn/\(∀i j,i<=k->j<=k->r i=r j->i=j)/\(∀i,i<=k->r i≠1)/\Cor (gR ws) ws.length (iM 0 nd) (plenty ws 0) y E q A k/\E k=z:=by
  refine uD ?_
  unfold aAE;walk_at "b"
  refine sqA (t:=.int z) (gC.mpr (e9.mpr (eY.mpr ⟨_,rfl,e9.mpr (eY.mpr ⟨_,rfl,fJ.mpr ((fQ L.le rfl vq).mpr ⟨rfl,rfl⟩)⟩)⟩))) ?_
  refine sqA (t:=.int y) (gC.mpr (e9.mpr (eY.mpr ⟨_,rfl,e9.mpr (eY.mpr ⟨_,rfl,fJ.mpr ((fQ L.fe rfl vq).mpr ⟨rfl,rfl⟩)⟩)⟩))) ?_
  refine sqA (t:=.int 0) (gG.mpr ⟨rfl,rfl⟩) ?_
  dsimp only[b5]
  refine fK.mpr (f6.mpr (jK.mpr (hJ.mpr (e9.mpr (jK.mpr (hJ.mpr (e9.mpr (eY.mpr ⟨_,rfl,e9.mpr (eY.mpr ⟨_,rfl,fJ.mpr ⟨by simp[lim],fJ.mpr ⟨by simp[lim],f9.mpr (fW.mpr ?_)⟩⟩⟩)⟩))))))))
  dsimp only[b5,aX,aV,aP,aN]
  refine fK.mpr (f6.mpr (sE (e9.mpr (eY.mpr ⟨_,rfl,e9.mpr (eY.mpr ⟨_,rfl,fJ.mpr ⟨rfl,?_⟩⟩)⟩))))
  refine zE (nd:=nd) G.l8 G.pl G.inw G.need G.ndd fun C1 P1=>⟨rfl,f9.mpr (fW.mpr (fK.mpr ?_))⟩
  dsimp only[b5,aP,aN];have A1:hZ (iA ws nd 0) (fun _=>0) 2 (2*ws.length+2:Nat) C1:=by
   have:=P1.at;rw[show((2*ws.length+2:Nat):Int)=2*(ws.length:Int)+2 by lia];exact this
  refine uQ (fun m τ C'=>∃k E q A r x f p,τ=[some (.lst (ws.map w3)),some (.lst (ps.map pT)),some (.int z),some (.int (E k)),some (.int (q k)),some (.cell 1),some (.cell 2),x]/\jZ E q k r 1 C'/\(∀i j,i<=k->j<=k->r i=r j->i=j)/\(∀i,i<=k->r i=0\/4+2*(iA ws nd 0).m<=r i)/\Cor (gR ws) ws.length (iM 0 nd) (plenty ws 0) y E q A k/\
   hZ (iA ws nd 0) f 2 (2*ws.length+2:Nat) C'/\Good (gR ws) ws.length (iM 0 nd) (plenty ws 0) f (A k) p/\p 1=E k/\(∀a p',Good (gR ws) ws.length (iM 0 nd) (plenty ws 0) f a p'->E k<=p' 1)/\sm (2*ws.length+2) p<10^199/\0<=A k/\A k<=sm ws.length (gR ws).p/\q k=len (iA ws nd 0) f - A k*E k/\z<=E k/\E k<=y/\E k - z<=(m:Int)) (m:=(y - z).toNat) ?_ ?_ ?_
  ·exact dW (show(y - z).toNat<=8*2^252 by lia) (by decide)
  ·refine⟨0,fun _=>y,fun _=>0,fun _=>0,fun _=>0,none,fun _=>0,p0,rfl,⟨?_,fun i hi=>?_⟩,fun i j hi hj _=>by lia,fun i _=>.inl rfl,⟨rfl,rfl,rfl,fun i hi=>by lia,fun i hi=>by lia,fun i hi=>by lia,fun i hi=>by lia,fun i hi=>by lia⟩,A1,G0,lr,fun a p' G'=>L.free_min G',aOV hb (by decide),bR _,m5 fun i hi=>(p7 (P:=tS) G.ok hi).2.2.1,?_,hzy,bR _,by lia⟩
   ·rw[P1.pre 1 (by simp)];rfl
   ·rw[P1.pre 0 (by simp)];rfl
   ·show(0:Int)=sm _ _ - 0*y;rw[l7 fun k _=>dR _];simp
  ·rintro m τ C' ⟨k,E,q,A,r,x,f,p,rfl,⟨xx,rm⟩,md,cm,hC,A',Gf,vh,ca,fg,iy,ha1,hq,hzE,hEy,vm⟩
   refine gT.mpr (fL.mpr (eY.mpr ⟨_,rfl,eY.mpr ⟨_,rfl,jS.mpr ⟨_,rfl,?_⟩⟩⟩))
   by_cases bf:z<E k
   ·rw[if_pos (decide_eq_true bf)];have sj:0<ws.length:=by
     rcases aO2 ws.length with h0|h0
     ·have jd:ws=[]:=aO3.mp h0;have hy:=L.yy;rw[jd]at hy;have:y=0:=by
       rw[<-hy];have:=L.f.len;rw[jd]at this;rw[aO3.mp (this.trans rfl)];rfl
      lia
     ·exact h0
    unfold u9
    refine fK.mpr (oI.mpr (kF (eY.mpr ⟨_,rfl,lI A'.net rfl,e9.mpr (fL.mpr (eY.mpr ⟨_,rfl,gG.mpr (jS.mpr (fJ.mpr ⟨rfl,?_⟩))⟩))⟩)))
    refine aEk W (G.tim L.e) (e:=E k - 1) (by rw[L.zz];lia) (by lia) Gf ha1 iy fg A' fun f2 p2 a2 C2 F ud ze A2 ai gx=>?_
    obtain⟨yl,q2,Gq,hq1,hq2⟩:A k<a2/\∃q,Good (gR ws) ws.length (iM 0 nd) (plenty ws 0) f2 a2 q/\E k - 1<q 1/\∀v,v<2*ws.length+2->q v<=p v:=by
     rcases F.how with h1|h1
     ·have h2:=F.good;rw[h1]at h2;have h3:=ca _ _ h2;have h4:=F.ready
      lia
     ·exact h1
    have hqE:q2 1=E k:=by have:=hq2 1 (by lia);lia
    have ho:=W.open F.good (dJ ud W.pP);have xq:=F.good.vals F.least ho W.ein W.l0 sj;have rf:sm (2*ws.length+2) p2<10^199:=dJ (y7 F.le) fg;have xw:=F.ready;obtain⟨b,hh,Pn,_⟩:=lJ.plan G ⟨f2,a2,p2,F.good,rfl,ud,rfl⟩;have xi:=L.pl_z Pn (F.good.ge 1 (by lia));have hqk:q k=len (iA ws nd 0) f2 - a2*E k:=by rw[hq];exact rG Gf Gq vh hqE
    have hS:Seg (gR ws) ws.length (iM 0 nd) (plenty ws 0) (E k) (p2 1) (q k) a2:=⟨f2,p2,q2,F.good,rfl,Gq,hqE,hqk,ud⟩;have kr:=hC.more hS (by lia) yl xq
    refine fW.mpr (fK.mpr (f6.mpr (kF (eY.mpr ⟨_,rfl,lI A2.net rfl,fJ.mpr ⟨rfl,xV W A2 F.good F.least rf fun xm=>f9.mpr (fW.mpr ?_)⟩⟩))))
    dsimp only[b5];have hlen2:4+2*(iA ws nd 0).m<=C2.length:=A2.len;have A3:hZ (iA ws nd 0) f2 2 (2*ws.length+2:Nat) (C2++[xm]):=A2.app A2.len
    refine fK.mpr (f6.mpr (fL.mpr (eY.mpr ⟨_,rfl,fL.mpr (kF (eY.mpr ⟨_,rfl,lI A3.net rfl,fJ.mpr ⟨rfl,aFL A3 W.m F.good.flo (fL.mpr (eY.mpr ⟨_,rfl,eY.mpr ⟨_,rfl,jS.mpr (oQ.mpr ⟨?_,jS.mpr (f9.mpr (fW.mpr ?_))⟩)⟩⟩))⟩⟩))⟩)))
    ·have hsP:=G.sP
     exact uR (Bt.of_lt (k:=256) (by lia) (by lia)) (Bt.of_lt (k:=256) (by lia) (by lia)) (by decide)
    dsimp only[b5]
    refine sqA (t:=.int (p2 1)) (eY.mpr ⟨_,rfl,rfl,rfl⟩) ?_
    dsimp only[b5];have zi:1<C'.length:=(aQ.mp xx).1;have hc1:C2[1]?=some (.l,(bI (k+1)).map fun i=>.cell (r i)):=by rw[gx 1 zi (.inl (by decide)),xx]
    have gh:∀i,i<=k->r i<C'.length:=fun i hi=>(aQ.mp (rm i hi)).1
    have hk5:k+1<=390625:=cB kr.count (dZ (by decide) hn)
    refine oV.mpr (eY.mpr ⟨_,rfl,e9.mpr (jK.mpr (hJ.mpr (e9.mpr (eY.mpr ⟨_,rfl,e9.mpr (eY.mpr ⟨_,rfl,fJ.mpr ⟨by simp[lim],fJ.mpr ⟨1,rfl,?_,(bI (k+1)).map fun i=>.cell (r i),fY.mpr ?_,o4.mpr ⟨?_,?_⟩⟩⟩⟩)⟩))))⟩)
    ·rw[fY.mpr (show(C2++[xm])[1]?=some (.l,_)by rw[aY (by lia)];exact hc1)];rfl
    ·rw[aY (by rw[bD];lia),aY (by lia)];exact hc1
    ·simp[lim];lia
    generalize hD:C2++[xm]++[(Kd.l,[T.int (p2 1),T.int (q k+a2*(E k - p2 1))])]=D;have hDl:D.length=C2.length+2:=by rw[<-hD];simp
    have hd:(C2++[xm]).length=C2.length+1:=by simp
    have hDo:∀i,i<C2.length->D[i]?=C2[i]?:=fun i hi=>by rw[<-hD,aY (by rw[hd];lia),aY hi]
    have hDn:D[C2.length+1]?=some (.l,[T.int (p2 1),T.int (q k+a2*(E k - p2 1))]):=by rw[<-hD,<-hd];simp
    rw[hd];have hle:∀{i:Nat}{g:Nat->Int}{v:Int},i<=k->up g (k+1) v i=g i:=fun h=>sA (by lia)
    refine⟨(p2 1 - z).toNat,by lia,k+1,up E (k+1) (p2 1),up q (k+1) (q k+a2*(E k - p2 1)),up A (k+1) a2,fun i=>if i=k+1 then C2.length+1 else r i,_,f2,p2,by rw[jM,jM],⟨?_,fun i hi=>?_⟩,fun i j hi hj e=>?_,fun i hi=>?_,kr,?_,by rw[jM];exact F.good,by rw[jM],fun a p' G'=>by rw[jM];exact F.least.le p' (fun v hv=>G'.ge v hv) G'.pot 1 (by lia),rf,by rw[jM];lia,by rw[jM];exact ud,by rw[jM,jM,jM,hqk,cJ];lia,by rw[jM];exact xi,by rw[jM];lia,by rw[jM];lia⟩
    ·rw[bN (by lia),dY (n:=k+1),bP];congr 3
     ·refine cL fun i hi=>?_
      have:=cT.mp hi;dsimp only;rw[if_neg (by lia)]
     ·simp
    ·dsimp only;split
     ·rename_i h;subst h;rw[aR (by lia),hDn,jM,jM]
     ·have tq:i<=k:=by lia
      have:=gh i tq;have h3:=cm i tq;rw[aR (by lia),hDo _ (by lia),gx _ this (h3.elim (fun h=>.inl (by lia)) .inr),rm i tq,hle tq,hle tq]
    ·dsimp only at e;split at e
     ·split at e
      ·lia
      ·have:=gh j (by lia);lia
     ·split at e
      ·have:=gh i (by lia);lia
      ·exact md i j (by lia) (by lia) e
    ·dsimp only;split
     ·right;lia
     ·exact cm i (by lia)
    ·refine A2.mono fun i h1 h2=>?_
     rw[aR (by lia),hDo i (bO h2 A2.len)]
   ·rw[if_neg (by simpa using bf)]
    refine fW.mpr (iF.mpr (eY.mpr ⟨_,rfl,k,E,q,A,r,rfl,⟨xx,rm⟩,md,fun i hi=>?_,hC,by lia⟩))
    have:=cm i hi
    lia
 obtain⟨_,Cn,e1,k,E,q,A,r,rfl,h1⟩:=h
 exact⟨k,E,q,A,r,Cn,e1,h1⟩
end Lib
namespace K42
open PySem L2 TL Lib NF
end K42
namespace K51
open PySem L2 TL Lib
def vB:FS:=
 (fIf (oK (lN (nB (vK "list" Y3))) (oK (iH (fNe (pC (eX Y3 fH)) (fI 2))) (oK (lN (nB (f7 1 lL (eX (fIx Y3 (fI 0)) fH)))) (lN (nB (f7 1 lL (eX (fIx Y3 (fI 1)) fH))))))) (hV (fC .non)) i0)
def uV:FS:=
 (fN (fZ (pD (fIx (fIx Y0 (pD Y5 (fI 1))) (fI 0)) (fIx (fIx Y0 Y5) (fI 0))) (gN 6))
  (fN (fZ (pD (fIx (fIx Y0 Y5) (fI 1)) (fIx (fIx Y0 (pD Y5 (fI 1))) (fI 1))) (gN 7))
  (fN (fIf (oK (iH (fLt Y6 (fI 1))) (oK (iH (fNe (j4 Y7 Y6) (fI 0))) (iH (fLe (aAq Y7 Y6) (fIx Y4 (aMF (fI 1))))))) (hV (fC .non)) i0)
  (qQ Y4 (eX (aAq Y7 Y6) fH)))))
def aAJ:FS:=
 (fN (fIf (oK (lN (nB (vK "list" Y0))) (iH (fEq Y0 (fV (gJ fH))))) (hV (fC .non)) i0)
  (fN (nK Y0 (gN 3)
   vB)
  (fN (fZ (iU (gJ (eX (fI 0) fH))) (gN 4))
  (fN (p5 (fI 1) (pC (eX Y0 fH)) (gN 5)
   uV)
  (fN (fIf (oK (iH (fNe (fIx Y0 (fI 0)) (fV (gJ (eX Y2 (eX (fI 0) fH)))))) (iH (fNe (fIx (fIx Y0 (aMF (fI 1))) (fI 0)) Y1))) (hV (fC .non)) i0)
  (hV (iU (fSl Y4 (tR (fI 1)) nQ))))))))
def qO:List T->Option (Option (List T)):=aHv aAJ 8
def nO:FS:=
 (qQ Y1 (eX (fI 7) fH))
def n4:FS:=
 (fN (nK Y0 (gN 1)
  nO)
  (qQ Y0 (eX (fV (gJ (eX (fI 8) fH))) fH)))
def lS:List T->Sto->Option Sto:=aCH n4 2
def aEY:FS:=
 (fN (fZ (f7 3 jE (eX (fIx Y5 (fI 0)) (eX (fIx Y5 (fI 1)) (eX Y12 fH)))) (gN 13))
  (fIf (oK (lN (nB (f7 1 lL (eX Y13 fH)))) (iH (fNe Y13 (j0 Y10 (oB (fIx Y7 Y8) (pD Y9 Y12)))))) (hV (fC (.bl false))) i0))
def aE8:FS:=
 (fN (fZ (f7 3 mZ (eX (fIx Y5 (fI 0)) (eX (fIx Y5 (fI 1)) (eX Y12 fH)))) (gN 14))
  (fIf (oK (lN (nB (f7 1 lL (eX Y14 fH)))) (iH (fNe Y14 (fIx Y7 Y8)))) (hV (fC (.bl false))) i0))
def aLH:FS:=
 (fN (fZ (f7 3 z6 (eX Y0 (eX (fI 8) (eX (fPow (fI 10) (fI 20)) fH)))) (gU [1,2]))
  (fN (fZ (f7 2 sY (eX Y1 (eX Y2 fH))) (gU [3,4]))
  (fN (fZ (fV (gJ (eX (fV (jR Y1 1 [] (gN 0) hW (fV (aCy (eX Y0 fH))))) (eX (fV (jR Y2 1 [] (gN 0) hW (fV (aCy (eX Y0 fH))))) fH)))) (gN 5))
  (fN (fZ (aDZ 2 oE (eX (fIx Y5 (fI 0)) (eX (fIx Y5 (fI 1)) fH))) (gN 6))
  (fN (fZ (fCallM 3 qO (eX Y6 (eX Y3 (eX Y4 fH)))) (gN 7))
  (fN (fIf (oK (iH (iV Y7 (fC .non) aB4)) (iH (fNe Y5 (fV (gJ (eX Y1 (eX Y2 fH))))))) (hV (fC (.bl false))) i0)
  (fN (fIf (iH (fEq Y7 (fV (gJ fH)))) (hV (yJ (fEq (f7 3 jE (eX Y1 (eX Y2 (eX Y3 fH)))) (fI 0)) (iV (f7 3 mZ (eX Y1 (eX Y2 (eX Y3 fH)))) (fC .non) aB4))) i0)
  (fN (fZ (j4 (f7 2 kH (eX (f7 2 iY (eX Y0 (eX (fI 2) fH))) (eX (fI 72) fH))) (pC (eX Y7 fH))) (gN 8))
  (fN (fZ (fIx Y6 Y8) (gU [9,10]))
  (fN (fZ (fIx (fIx Y6 (j0 Y8 (fI 1))) (fI 0)) (gN 11))
  (fN (aFG 1 lS (eX Y6 fH))
  (fN (nK (fV (gJ (eX Y9 (eX (pD Y9 (fI 1)) (eX (qR (j0 Y9 Y11) (fI 2)) (eX Y11 fH)))))) (gN 12)
   aEY)
  (fN (nK (fV (gJ (eX Y9 (eX (j0 Y11 (fI 1)) fH)))) (gN 12)
   aE8)
  (hV (fEq Y5 (fV (gJ (eX Y1 (eX Y2 fH)))))))))))))))))))
def aEm:List T->Option T:=jL aLH 15
end K51
namespace K51
open PySem L2 TL Lib NF
noncomputable def fd(E Q:Nat->Int)(k:Nat):List (List Int):=(bI (k+1)).map fun i=>[E i,Q i]
section
variable {w:Wk}{n:Nat}{es:List (Nat×Nat)}{P y z:Int}{E Q A:Nat->Int}{k:Nat}
theorem aIJ{i:Nat}(h:i<=k){j:Int}(hj:j=i):atI ((fd E Q k).map iT) j=some (iT [E i,Q i]):=by
 rw[hj,oA,bH,fd,bH,cQ (by lia)];rfl
theorem ix2m{τ:TSt}{C:Sto}{a k:Nat}{l row:List T}{i j:Int}{r v:T}(h0:τ[a]?=some (some (.lst l)))(hk:τ[k]?=some (some (.int i)))(hl:atI l (i - 1)=some r)(hr:sqT C r=some row)(hv:atI row j=some v):fIx (fIx (jF a) (pD (jF k) (fI 1))) (fC (.int j)) τ C=some (v,C):=
 aA4 (fL.mpr (fL.mpr (eY.mpr ⟨_,h0,fL.mpr (eY.mpr ⟨_,hk,gG.mpr (jS.mpr (jG.mpr ⟨_,rfl,_,hl,gG.mpr (jG.mpr ⟨_,hr,_,hv,rfl,rfl⟩)⟩))⟩)⟩)))
theorem aBt:(fd E Q k).length=k+1:=by simp[fd]
theorem aJH{B:FS}{m:Nat}{ts us:List T}(h:wpS B (st0 m ts) [] fun l _ C=>match l with
 | .rt (.cell c)=>lc C c=some us/\CFs us=true
 |_=>False):aHv B m ts=some (some us):=by
 obtain⟨l,τ,C,e,h⟩:=h;unfold aHv;rw[e];cases l with
 |rt t=>
  cases t with
  |cell c=>show(lc C c).bind _=_;rw[h.1,aU,if_pos h.2]
  |_=>exact h.elim
 |_=>exact h.elim
theorem aDY{n:Nat}{F:List T->Option (Option (List T))}{ts vs us:List T}{C:Sto}{Q:T->Sto->Prop}(hn:ts.length=n)(hc:CFs ts=false)(hd:mapO (dr 3 C) ts=some vs)(hF:F vs=some (some us))(hs:us.all sca=true)(q:Q (.cell C.length) (C++[(.l,us)])):wpO (uN n F ts C) Q:=
 ⟨_,_,by unfold uN;rw[if_pos hn,if_neg (by rw[hc];simp),hd,aU,hF];exact if_pos (.inr hs),q⟩
theorem aFs{τ:TSt}{a:Nat}{x y:Int}(h:τ[a]?=some (some (iT [x,y]))):wpB (oK (lN (nB (vK "list" (jF a)))) (oK (iH (fNe (pC (eX (jF a) fH)) (fI 2))) (oK (lN (nB (f7 1 lL (eX (fIx (jF a) (fI 0)) fH)))) (lN (nB (f7 1 lL (eX (fIx (jF a) (fI 1)) fH))))))) τ [] fun b C=>b=false/\C=[]:=by
 refine m7.mpr (oP.mpr (lZ.mpr (aBv.mpr (eY.mpr ⟨_,h,true,rfl,true,rfl,?_⟩))))
 rw[if_neg (by simp)]
 refine m7.mpr (gT.mpr (fL.mpr (gC.mpr (e9.mpr (eY.mpr ⟨_,h,fJ.mpr (sZ.mpr ⟨_,rfl,gG.mpr (p9.mpr ⟨_,rfl,?_⟩)⟩)⟩)))))
 rw[if_neg (by simp)]
 refine m7.mpr (oP.mpr (lZ.mpr (gC.mpr (e9.mpr (f8 (K42.ix1 h rfl rfl) (fJ.mpr (qJ.mpr ⟨true,rfl,?_⟩)))))))
 rw[if_neg (by simp)]
 exact oP.mpr (lZ.mpr (gC.mpr (e9.mpr (f8 (K42.ix1 h rfl rfl) (fJ.mpr (qJ.mpr ⟨true,rfl,rfl,rfl⟩))))))
theorem aH7(C:Cor w n es P y E Q A k)(hz:E k=z)(hk:k<395000)(hb:y - z<2^250):qO [.lst ((fd E Q k).map iT),.int z,.int y]=some (some (((bI k).map fun i=>A (i+1)).map T.int)):=by
 apply aJH;unfold aAJ;walk_at "b"
 refine fK.mpr (lO.mpr (m7.mpr (oP.mpr (lZ.mpr (aBv.mpr (eY.mpr ⟨_,rfl,true,rfl,true,rfl,?_⟩))))))
 rw[if_neg (by simp)]
 refine gT.mpr (fL.mpr (eY.mpr ⟨_,rfl,gE.mpr (hJ.mpr (fJ.mpr ⟨by decide,?_⟩))⟩))
 refine(rY (f:=fun xs:List (List Int)=>T.lst (xs.map iT)) (x:=fd E Q k) (y:=[]) (fun _ _=>qP fun _ _=>aD3) (hX (by rw[gK];exact aGE)) (hX rfl)).mpr ⟨_,rfl,?_⟩
 rw[if_neg (by simp[fd])]
 refine iD.mpr (fW.mpr (fK.mpr (lY.mpr (eY.mpr ⟨_,rfl,_,rfl,?_⟩))))
 refine i9 (xs:=fd E Q k) (en:=iT) (fun j τ C=>C=[]/\∃a,τ=[some (.lst ((fd E Q k).map iT)),some (.int z),some (.int y),a,none,none,none,none]) ⟨rfl,_,rfl⟩ ?_ ?_
 ·rintro j r τ _ hj ⟨rfl,a,rfl⟩;obtain⟨i,hi,rfl⟩:=bL.mp (bC hj);unfold vB
  refine f9.mpr ?_
  dsimp only[b5]
  refine ifF ?_ (iD.mpr ⟨trivial,rfl,_,rfl⟩)
  exact aFs (a:=3) rfl
 rintro τ _ ⟨rfl,a,rfl⟩
 refine fW.mpr (fK.mpr (f6.mpr (jK.mpr (hJ.mpr (e9.mpr (gG.mpr (fJ.mpr ⟨by simp[lim],f9.mpr (fW.mpr ?_)⟩)))))))
 dsimp only[b5,aX,aP]
 refine fK.mpr (aAr.mpr (gG.mpr (gC.mpr (e9.mpr (eY.mpr ⟨_,rfl,fJ.mpr (sZ.mpr ⟨_,rfl,_,_,rfl,rfl,?_,?_⟩)⟩)))))
 ·rw[aS,aBt];lia
 rw[aS,aBt,show(((k+1:Nat):Int) - 1).toNat=k by lia]
 refine mX (fun i τ C=>C=[(.l,((bI (i+1)).map A).map T.int)]/\∃a b c d,τ=[some (.lst ((fd E Q k).map iT)),some (.int z),some (.int y),a,some (.cell 0),b,c,d]) ⟨by rw[show(bI (0+1)).map A=[A 0]from rfl,C.a0];rfl,_,_,_,_,rfl⟩ ?_ ?_
 ·rintro i τ _ hi ⟨rfl,a,b,c,d,rfl⟩;have f1:=aIJ (E:=E) (Q:=Q) (k:=k) (i:=i) (by lia) (j:=1+(i:Int) - 1) (by lia);have f2:=aIJ (E:=E) (Q:=Q) (k:=k) (i:=i+1) (by lia) (j:=1+(i:Int)) (by lia);have h1:=C.fall i hi;have h2:=C.dear i hi;have h3:=C.price i hi;unfold uV
  refine f9.mpr ?_
  dsimp only[b5]
  refine sqA (t:=.int (E i - E (i+1))) (fL.mpr (f8 (ix2m (a:=0) (k:=5) rfl rfl f1 rfl rfl) (f8 (K42.ix2 (a:=0) (k:=5) rfl rfl f2 rfl rfl) (jS.mpr ⟨rfl,rfl⟩)))) ?_
  refine sqA (t:=.int (A (i+1)*(E i - E (i+1)))) (fL.mpr (f8 (K42.ix2 (a:=0) (k:=5) rfl rfl f2 rfl rfl) (f8 (ix2m (a:=0) (k:=5) rfl rfl f1 rfl rfl) (jS.mpr ⟨by rw[h3];congr 1;lia,rfl⟩)))) ?_
  dsimp only[b5];have ln:0<E i - E (i+1):=by lia
  have ij:E i - E (i+1)<2^250:=by
   have h4:=C.le (i:=i) (by lia);have h5:=C.ge (i:=i+1) (by lia);rw[hz]at h5
   lia
  have hdv:A (i+1)*(E i - E (i+1))/(E i - E (i+1))=A (i+1):=Int.mul_ediv_cancel _ (by lia);have ym:atI (((bI (i+1)).map A).map T.int) (-1)=some (.int (A i)):=by
   rw[aML (by simp)];simp[dY]
  refine fK.mpr (ifF ?_ (iD.mpr (fW.mpr ?_)))
  ·refine m7.mpr (gT.mpr (fL.mpr (eY.mpr ⟨_,rfl,gG.mpr (jS.mpr ⟨_,rfl,?_⟩)⟩)))
   rw[if_neg (by simp;lia)]
   refine m7.mpr (gT.mpr (fL.mpr (fL.mpr (eY.mpr ⟨_,rfl,eY.mpr ⟨_,rfl,oQ.mpr ⟨jT (by lia),gG.mpr (p9.mpr ⟨_,rfl,?_⟩)⟩⟩⟩))))
   rw[Int.mul_emod_left,if_neg (by simp)]
   refine gT.mpr (fL.mpr (fL.mpr (eY.mpr ⟨_,rfl,eY.mpr ⟨_,rfl,oQ.mpr ⟨jT ⟨ln,ij⟩,fL.mpr (eY.mpr ⟨_,rfl,xG.mpr (gG.mpr (aBK.mpr (jG.mpr ⟨_,rfl,_,ym,jS.mpr ⟨_,rfl,?_,rfl⟩⟩)))⟩)⟩⟩⟩)))
   rw[hdv];simp;lia
  refine oV.mpr (eY.mpr ⟨_,rfl,e9.mpr (fL.mpr (eY.mpr ⟨_,rfl,eY.mpr ⟨_,rfl,oQ.mpr ⟨jT ⟨ln,ij⟩,fJ.mpr ⟨0,rfl,rfl,_,rfl,o4.mpr ⟨by simp[lim];lia,trivial,?_,_,_,_,_,rfl⟩⟩⟩⟩⟩))⟩)
  rw[hdv,dY (n:=i+1),bP,bP];rfl
 rintro τ _ ⟨rfl,a,b,c,d,rfl⟩;have ym:atI ((fd E Q k).map iT) (-1)=some (iT [E k,Q k]):=by
  rw[sD,aCL (by simp[fd])];simp[fd,dY]
 refine fW.mpr (fK.mpr (ifF ?_ (iD.mpr (fW.mpr ?_))))
 ·refine m7.mpr (gT.mpr (fL.mpr (fL.mpr (eY.mpr ⟨_,rfl,gG.mpr (jG.mpr ⟨_,rfl,_,aIJ (i:=0) (by lia) rfl,gE.mpr (hJ.mpr (e9.mpr (eY.mpr ⟨_,rfl,e9.mpr (gG.mpr (fJ.mpr ⟨by simp[lim],?_⟩))⟩)))⟩)⟩))))
  refine(rY (f:=iT) (x:=[E 0,Q 0]) (y:=[y,0]) (fun _ _=>aD3) (hX aEv) (hX aEv)).mpr ⟨_,rfl,?_⟩
  rw[C.e0,C.q0,if_neg (by simp)]
  refine gT.mpr (fL.mpr (fL.mpr (fL.mpr (eY.mpr ⟨_,rfl,xG.mpr (gG.mpr (aBK.mpr (jG.mpr ⟨_,rfl,_,ym,gG.mpr (jG.mpr ⟨_,rfl,_,rfl,eY.mpr ⟨_,rfl,p9.mpr ⟨_,rfl,?_,rfl⟩⟩⟩)⟩)))⟩))))
  rw[hz];simp
 refine iF.mpr (jK.mpr (aGS.mpr (eY.mpr ⟨_,rfl,aCq.mpr (gG.mpr ⟨_,rfl,aIG.mpr ⟨_,rfl,?_⟩⟩)⟩)))
 rw[sV,aAO (by decide)];have:((bI (k+1)).map A).drop (aPC 1)=(bI k).map fun i=>A (i+1):=by
  rw[eB,aM,cC];rfl
 rw[this]
 exact⟨rfl,iC⟩
end
end K51
namespace K51
open PySem L2 TL Lib NF
section
variable {ws:List (Int×Int×Int)}{ps:List (Int×Int)}{nd:List (List Int)}{bs fs:List Int}{z y:Int}{E Q A:Nat->Int}{k:Nat}
theorem aGR{r:Nat->Nat}{Cn:Sto}(h:jZ E Q k r 1 Cn)(hr:∀i,i<=k->r i≠1):K42.jZ Cn 1 ((bI (k+1)).map r) (fd E Q k):=by
 refine⟨by rw[h.1,cC];rfl,by simp[fd],fun i c l hc hl=>?_⟩
 rw[bH]at hc;obtain⟨j,hj,rfl⟩:=aL.mp hc;obtain⟨vp,tf⟩:=aQ.mp hj;simp only[eR]at vp;rw[dU]at tf;subst tf;rw[fd,bH,cQ vp]at hl;cases hl
 exact⟨h.2 i (by lia),hr i (by lia)⟩
theorem aEh(C:Cor (gR ws) ws.length (iM 0 nd) (plenty ws 0) y E Q A k):∀{i:Nat},i<=k->0<=A i
 |0,_=>by rw[C.a0];exact bR _
 |i+1,h=>by have:=C.dear i (by lia);have:=aEh C (i:=i) (by lia);lia
theorem uF(L:Lot ws ps nd bs fs z y)(C:Cor (gR ws) ws.length (iM 0 nd) (plenty ws 0) y E Q A k){i:Nat}(hi:i<k){x:Int}(h1:E (i+1)<=x)(h2:x<=E i):lJ ws nd x (Q i+A (i+1)*(E i - x)):=by
 obtain⟨f,p,G,hp,e,ha⟩:=(C.seg i hi).at_ h1 h2
 exact⟨f,_,p,G,hp,ha,e⟩
theorem aD8(L:Lot ws ps nd bs fs z y):lJ ws nd y 0:=by
 obtain⟨_,p0,G0,hb,lr⟩:=L.g.free L.f (bonus:=0) (by decide);rw[L.yy]at lr
 refine⟨_,_,p0,G0,lr,m5 fun i hi=>(p7 (P:=tS) L.g.ok hi).2.2.1,?_⟩
 show(0:Int)=sm _ _ - 0*y;rw[l7 fun k _=>dR _];simp
theorem aKi(C:Cor (gR ws) ws.length (iM 0 nd) (plenty ws 0) y E Q A k){i:Nat}(hi:i<k):A (i+1)<=sm ws.length (gR ws).p:=by
 obtain⟨_,_,_,_,_,_,_,_,h⟩:=C.seg i hi
 exact h
end
theorem aI8:∀ns:List Int,ns.length<=63->(∀n∈ns,Builtin.Int.intBits n<=2^20)->aEm [.lst (ns.map T.int)]=some (.bl true):=by
 intro ns hl hb;obtain⟨ws,ps,nd,bs,fs,z,y,e1,L,hw8,hp20,dn⟩:=lotM hl (M:=8) (by decide) (by decide) (u:=10^20) (by decide) (by decide);have hn:=L.g.l8;have hz0:=L.z0;have hzy:=L.zy;have hyC:=L.yC dn;have hsP:=L.g.sP;obtain⟨k,E,q,A,r,Cn,eC,hR,md,ba,C,hEz⟩:=aDa L;have R0:=(aGR hR ba).sh (C:=[]);have hk5:k<=390625:=cB C.count (dZ (by decide) hn);have eS:=aH7 C hEz (by lia) (by lia);generalize hcs:((bI (k+1)).map r).map (([]:Sto).length+ ·)=cs at R0;generalize hD:([]:Sto)++Cn.map (shc ([]:Sto).length)=D at R0;generalize hkq:([]:Sto).length+1=kq at R0;have d1:=R0.dr;have w1:∀{C Q},wpO (iX 3 z6 [.lst (ns.map T.int),.int 8,.int (10^aPC 20)] C) Q↔Q (.tup [.lst (ws.map w3),.lst (ps.map pT)]) C:=fQ e1 rfl (by walk_at "c");apply iJ;unfold aLH;walk_at "b"
 refine fK.mpr (f6.mpr (gC.mpr (e9.mpr (eY.mpr ⟨_,rfl,e9.mpr (gG.mpr (e9.mpr (fL.mpr (gG.mpr (gG.mpr (oQ.mpr ⟨by decide,fJ.mpr (w1.mpr (y9.mpr ⟨_,rfl,rfl,fW.mpr ?_⟩))⟩))))))⟩))))
 dsimp only[setAll,b5]
 refine fK.mpr (f6.mpr (gC.mpr (e9.mpr (eY.mpr ⟨_,rfl,e9.mpr (eY.mpr ⟨_,rfl,fJ.mpr ((fQ L.en rfl K42.aAp).mpr (y9.mpr ⟨_,rfl,rfl,fW.mpr ?_⟩))⟩)⟩))))
 dsimp only[setAll,b5]
 refine fK.mpr (f6.mpr (K42.hand hn L.g.pl rfl rfl (f9.mpr (fW.mpr ?_))))
 dsimp only[b5]
 refine fK.mpr (f6.mpr (gC.mpr (e9.mpr (f8 (K42.ix1 (a:=5) rfl rfl rfl) (e9.mpr (f8 (K42.ix1 (a:=5) rfl rfl rfl) (fJ.mpr ((K42.aAD eC rfl K42.aAp).mpr (f9.mpr (fW.mpr ?_))))))))))
 rw[hD];rw[show TL.sh ([]:Sto).length (.cell 1)=.cell kq by rw[<-hkq];rfl];dsimp only[b5];generalize bc:(bI k).map (fun i=>A (i+1))=bj at eS;have oa:bj.length=k:=by rw[<-bc];simp
 refine fK.mpr (f6.mpr (gC.mpr (e9.mpr (eY.mpr ⟨_,rfl,e9.mpr (eY.mpr ⟨_,rfl,e9.mpr (eY.mpr ⟨_,rfl,fJ.mpr ?_⟩)⟩)⟩))))
 refine aDY rfl (by rw[fR,aFf];rfl) (jI d1 (jI (hX gA) (jI (hX gA) aCk))) eS (by simp[sca]) (f9.mpr (fW.mpr ?_))
 dsimp only[b5];have R1:=R0.app (G:=[(Kd.l,bj.map T.int)]);have hlD:=R0.lt;generalize hD1:D++[(Kd.l,bj.map T.int)]=D1 at R1;have xu:lc D1 D.length=some (bj.map T.int):=fY.mpr (by rw[<-hD1];simp)
 refine fK.mpr (ifF ?_ (iD.mpr (fW.mpr ?_)))
 ·refine m7.mpr (gT.mpr (fL.mpr (eY.mpr ⟨_,rfl,gG.mpr ⟨_,_,rfl,_,rfl,?_⟩⟩)))
  rw[if_neg (by simp)]
  exact gT.mpr (fL.mpr (eY.mpr ⟨_,rfl,gE.mpr (hJ.mpr (e9.mpr (eY.mpr ⟨_,rfl,e9.mpr (eY.mpr ⟨_,rfl,fJ.mpr ⟨by simp[lim],K42.self2.mpr ⟨_,rfl,rfl,rfl⟩⟩⟩)⟩)))⟩))
 have test7:∀{Q:Bool->Sto->Prop}{τ:TSt},τ[7]?=some (some (.cell D.length))->Q (decide (bj=[])) D1->wpB (iH (fEq Y7 (fV (gJ fH)))) τ D1 Q:=fun h q=>gT.mpr (fL.mpr (eY.mpr ⟨_,h,gE.mpr (hJ.mpr (fJ.mpr ⟨by decide,(rY (f:=iT) (x:=bj) (y:=[]) (fun _ _=>aD3) (l9 xu) (hX rfl)).mpr ⟨_,rfl,q⟩⟩))⟩))
 rcases aO2 k with yp|yp
 ·have hsn:bj=[]:=aO3.mp (oa.trans yp);have hyz:y=z:=by rw[<-C.e0,<-hEz,yp]
  obtain⟨q0,p1,PA⟩:=(nM L (e:=z) (by lia)).2 (bR _);have rq:q0=0:=PA.uni (by rw[<-hyz];exact aD8 L)
  refine fK.mpr (ifT (test7 rfl ⟨jT hsn,rfl⟩) ?_)
  refine iF.mpr (aET.mpr (fL.mpr (gC.mpr (e9.mpr (eY.mpr ⟨_,rfl,e9.mpr (eY.mpr ⟨_,rfl,e9.mpr (eY.mpr ⟨_,rfl,fJ.mpr ((fQ p1 rfl K42.rF).mpr (gG.mpr (rS.mpr ⟨_,rfl,?_⟩)))⟩)⟩)⟩)))))
  rw[if_pos (jT rq)]
  exact fL.mpr (gC.mpr (e9.mpr (eY.mpr ⟨_,rfl,e9.mpr (eY.mpr ⟨_,rfl,e9.mpr (eY.mpr ⟨_,rfl,fJ.mpr ((fQ ((xE L (e:=z) (by lia)).1 (bR _)) rfl K42.rF).mpr (gG.mpr (fF.mpr (hX mB))))⟩)⟩)⟩)))
 refine fK.mpr (ifF (test7 rfl ⟨decide_eq_false fun h=>by rw[h]at oa;simp at oa;lia,rfl⟩) (iD.mpr (fW.mpr ?_)))
 have m1:Bt 20 (72:Int):=.sml (by lia) (by lia) (by decide);have hmx:=iP (x:=tF (lM ns 2) 72) (m:=(k:Int)) (by lia)
 refine fK.mpr (f6.mpr (fL.mpr (gC.mpr (e9.mpr (gC.mpr (e9.mpr (eY.mpr ⟨_,rfl,e9.mpr (gG.mpr (fJ.mpr ((nC (by decide)).mpr ?_)))⟩)))))))
 refine e9.mpr (gG.mpr (fJ.mpr ((sQ m1).mpr ?_)))
 refine gC.mpr (e9.mpr (eY.mpr ⟨_,rfl,fJ.mpr (sZ.mpr ⟨_,xu,oQ.mpr ⟨?_,f9.mpr (fW.mpr ?_)⟩⟩)⟩))
 ·rw[aS,oa];exact jT (by lia)
 rw[aS,oa];dsimp only[b5];obtain⟨j,hj,ip⟩:∃j:Nat,tF (lM ns 2) 72%(k:Int)=j/\j<k:=⟨(tF (lM ns 2) 72%(k:Int)).toNat,by lia,by lia⟩;rw[hj];have ub:cs.length=k+1:=by rw[R1.rows.1,aBt]
 have row:∀(i:Nat)(x:Int),i<=k->x=i->∃c,atI (cs.map T.cell) x=some (.cell c)/\lc D1 c=some [.int (E i),.int (q i)]:=fun i x hi hx=>by
  have h1:cs[i]?=some (cs[i]'(by lia)):=bA (by lia)
  refine⟨_,by rw[hx,oA,bH,h1];rfl,fY.mpr (R1.rows.2 i _ [E i,q i] h1 ?_).1⟩
  rw[fd,bH,cQ (by lia)];rfl
 obtain⟨c1,f1,g1⟩:=row j j (by lia) rfl;obtain⟨c2,f2,g2⟩:=row (j+1) ((j:Int)+1) (by lia) (by lia);have k1:=fY.mpr R1.at_
 refine fK.mpr (f6.mpr (fL.mpr (eY.mpr ⟨_,rfl,eY.mpr ⟨_,rfl,jG.mpr ⟨_,k1,_,f1,y9.mpr ⟨_,g1,rfl,fW.mpr ?_⟩⟩⟩⟩)))
 dsimp only[setAll,b5]
 refine fK.mpr (f6.mpr (fL.mpr (fL.mpr (eY.mpr ⟨_,rfl,fL.mpr (eY.mpr ⟨_,rfl,gG.mpr (jS.mpr (jG.mpr ⟨_,k1,_,f2,gG.mpr (jG.mpr ⟨_,g2,_,rfl,f9.mpr (fW.mpr ?_)⟩)⟩))⟩)⟩))))
 dsimp only[b5];obtain⟨D3,x3,o3⟩:=R1.spoil (by rw[aBt];lia) fun l hl=>by
  obtain⟨i,_,rfl⟩:=bL.mp hl;simp
 have vd:lc D3 D.length=some (bj.map T.int):=by
  rw[fY,o3 _ (by lia) fun h=>by have:=hlD.2 _ h;lia]
  exact fY.mp xu
 refine fK.mpr (K42.aJd.mpr (e9.mpr (eY.mpr ⟨_,rfl,fJ.mpr ⟨rfl,D3,x3,fW.mpr ?_⟩⟩)))
 have hfa:=C.fall j ip;have hz1:=C.ge (i:=j+1) (by lia);have jc:=C.le (i:=j) (by lia);have hA0:=aEh C (i:=j+1) (by lia);have hA1:=aKi C ip;have hsj:atI (bj.map T.int) (j:Int)=some (.int (A (j+1))):=by
  rw[oA,bH,<-bc,bH,cQ ip];rfl
 refine fK.mpr (lY.mpr (gE.mpr (hJ.mpr (e9.mpr (eY.mpr ⟨_,rfl,e9.mpr (fL.mpr (eY.mpr ⟨_,rfl,gG.mpr (jS.mpr ?_)⟩))⟩)))))
 refine e9.mpr (fL.mpr (fL.mpr (eY.mpr ⟨_,rfl,eY.mpr ⟨_,rfl,jS.mpr (gG.mpr (oQ.mpr ⟨by decide,?_⟩))⟩⟩)))
 refine e9.mpr (eY.mpr ⟨_,rfl,fJ.mpr ⟨by simp[lim],_,rfl,?_⟩⟩)
 refine i9 (xs:=[E j,E j - 1,(E j+E (j+1))/2,E (j+1)]) (en:=T.int) (fun _ τ C=>D3=C/\∃a b,τ=[some (.lst (ns.map T.int)),some (.lst (ws.map w3)),some (.lst (ps.map pT)),some (.int z),some (.int y),some (K42.hdd ws ps),some (.cell kq),some (.cell D.length),some (.int j),some (.int (E j)),some (.int (q j)),some (.int (E (j+1))),a,b,none]) ⟨rfl,_,_,rfl⟩ ?_ ?_
 ·rintro i x τ _ hi ⟨rfl,a,b,rfl⟩;have hx:=bC hi;simp only[bE,cA,or_false]at hx;have h1:E (j+1)<=x:=by rcases hx with rfl|rfl|rfl|rfl<;>lia
  have h2:x<=E j:=by rcases hx with rfl|rfl|rfl|rfl<;>lia
  obtain⟨q0,p1,PA⟩:=(nM L (e:=x) (by lia)).2 (by lia);have rq:q0=q j+A (j+1)*(E j - x):=PA.uni (uF L C ip h1 h2);unfold aEY
  refine f9.mpr (fK.mpr (f6.mpr (gC.mpr (e9.mpr (f8 (K42.ix1 (a:=5) rfl rfl rfl) (e9.mpr (f8 (K42.ix1 (a:=5) rfl rfl rfl) (e9.mpr (eY.mpr ⟨_,rfl,fJ.mpr ((fQ p1 rfl K42.rF).mpr (f9.mpr (fW.mpr ?_)))⟩)))))))))
  refine ifF ?_ (iD.mpr ⟨trivial,rfl,_,_,rfl⟩)
  refine m7.mpr (oP.mpr (lZ.mpr (gC.mpr (e9.mpr (eY.mpr ⟨_,rfl,fJ.mpr (qJ.mpr ⟨true,rfl,?_⟩)⟩)))))
  rw[if_neg (by simp)]
  refine gT.mpr (fL.mpr (eY.mpr ⟨_,rfl,fL.mpr (eY.mpr ⟨_,rfl,fL.mpr (fL.mpr (eY.mpr ⟨_,rfl,eY.mpr ⟨_,rfl,jG.mpr ⟨_,vd,_,hsj,?_⟩⟩⟩))⟩)⟩))
  refine fL.mpr (eY.mpr ⟨_,rfl,eY.mpr ⟨_,rfl,jS.mpr (oQ.mpr ⟨uR (Bt.of_lt (k:=256) hA0 (by lia)) (Bt.of_lt (k:=256) (by lia) (by lia)) (by decide),jS.mpr (p9.mpr ⟨_,rfl,?_,rfl⟩)⟩)⟩⟩)
  rw[rq];simp
 rintro τ _ ⟨rfl,a,b,rfl⟩
 refine fW.mpr (fK.mpr (lY.mpr (gE.mpr (hJ.mpr (e9.mpr (eY.mpr ⟨_,rfl,e9.mpr (fL.mpr (eY.mpr ⟨_,rfl,gG.mpr (jS.mpr (fJ.mpr ⟨by simp[lim],_,rfl,?_⟩))⟩))⟩))))))
 refine i9 (xs:=[E j,E (j+1)+1]) (en:=T.int) (fun _ τ C=>D3=C/\∃a b c,τ=[some (.lst (ns.map T.int)),some (.lst (ws.map w3)),some (.lst (ps.map pT)),some (.int z),some (.int y),some (K42.hdd ws ps),some (.cell kq),some (.cell D.length),some (.int j),some (.int (E j)),some (.int (q j)),some (.int (E (j+1))),a,b,c]) ⟨rfl,_,_,_,rfl⟩ ?_ ?_
 ·rintro i x τ _ hi ⟨rfl,a,b,c,rfl⟩;have hx:=bC hi;simp only[bE,cA,or_false]at hx;have h1:E (j+1)<=x - 1:=by rcases hx with rfl|rfl<;>lia
  have h2:x<=E j:=by rcases hx with rfl|rfl<;>lia
  obtain⟨q0,q1,PA,PB,p1⟩:=(xE L (e:=x) (by lia)).2 (by lia);have rq:=PA.uni (uF L C ip h1 (by lia));have hq1:=PB.uni (uF L C ip (by lia) h2);have hq:q0 - q1=A (j+1):=by rw[rq,hq1,cJ,cJ,cJ];lia
  rw[hq]at p1;unfold aE8
  refine f9.mpr (fK.mpr (f6.mpr (gC.mpr (e9.mpr (f8 (K42.ix1 (a:=5) rfl rfl rfl) (e9.mpr (f8 (K42.ix1 (a:=5) rfl rfl rfl) (e9.mpr (eY.mpr ⟨_,rfl,fJ.mpr ((fQ p1 rfl K42.rF).mpr (f9.mpr (fW.mpr ?_)))⟩)))))))))
  refine ifF ?_ (iD.mpr ⟨trivial,rfl,_,_,_,rfl⟩)
  refine m7.mpr (oP.mpr (lZ.mpr (gC.mpr (e9.mpr (eY.mpr ⟨_,rfl,fJ.mpr (qJ.mpr ⟨true,rfl,?_⟩)⟩)))))
  rw[if_neg (by simp)]
  refine gT.mpr (fL.mpr (eY.mpr ⟨_,rfl,fL.mpr (eY.mpr ⟨_,rfl,eY.mpr ⟨_,rfl,jG.mpr ⟨_,vd,_,hsj,p9.mpr ⟨_,rfl,?_,rfl⟩⟩⟩⟩)⟩))
  simp
 rintro τ _ ⟨rfl,a,b,c,rfl⟩
 exact fW.mpr (iF.mpr (fL.mpr (eY.mpr ⟨_,rfl,gE.mpr (hJ.mpr (e9.mpr (eY.mpr ⟨_,rfl,e9.mpr (eY.mpr ⟨_,rfl,fJ.mpr ⟨by simp[lim],K42.self2.mpr (hX mB)⟩⟩)⟩)))⟩)))
end K51
end
namespace K51
open PySem L2 TL Lib
open HT (top)
local macro_rules| `(tactic|walk_at "bq")=>`(tactic|first|exact fun _ _ _ _ _ _=>len1 fun _=>rfl|exact fun _ _ _ _ _ _=>zP fun _=>len1 fun _=>rfl|exact fun _ _ _ _ _ _=>zP fun _=>zP fun _=>len1 fun _=>rfl|exact fun _ _ _ _ _ _=>zP fun _=>zP fun _=>zP fun _=>len1 fun _=>rfl|exact fun _ _ _ _ _ _=>zP fun _=>zP fun _=>zP fun _=>zP fun _=>len1 fun _=>rfl)
section
variable {P:Program}{w:World}{K:aO}{mg:Str->Option Value}{base:Heap}{f:Addr}{fd:FuncData}
set_option maxHeartbeats 0
theorem aF5:Ky P w K mg base "_law_mixed" "_law_mixed" (top 48) ["_law_cell","_law_k"] 1 (spT K 2 kH):=fun F=>okB (N:=["_law_cell","_law_k","_law_number"]) F gO (iB gS) fun nd hr=>
 (eZ (fM nd 2 (iN (iL (iL (k8 (eU 0) fB) (k8 (k8 (eU 1) (eU 1)) fB)) fB) fB))
  (eZ (fM nd 2 (iN (k8 (eU 2) (eU 2)) fB))
  (fD (fS (iN (k8 (eU 2) (eU 2)) fB)))))
theorem aDb(be:mg "len"=none):Ky P w K mg base "_law_cell_at" "_law_cell_at" (top 47) ["_law_script","_law_k"] 1 (spT K 2 iY):=fun F=>okB (N:=["_law_script","_law_k"]) F gO (iB gS) fun nd hr=>
 (eZ (kB (aH9 (eU 1) (m9 be (eV (eU 0) fA))) (fD (fS (gD (eU 0) (eU 1)))) iE)
  (fD (fS fB)))
theorem aCg(jl:jO P w K mg base 1 "_law_mixed" 2 kH)(gc:jO P w K mg base 1 "_law_cell_at" 2 iY)(bg:mg "range"=none)(dm:mg "min"=none)(be:mg "len"=none):Ky P w K mg base "_law_numbers" "_law_numbers" (top 50) ["_law_cells"] 2 (spT K 1 nE):=fun F=>okB (N:=["_law_cells","_law_numbers_here","_law_k","_law_at"]) F gO (iB gS) fun nd hr=>
 (eZ (qN nd 1 bg rfl (cok ["_law_k"] ["_law_cells"] [0]) fB (iZ (by decide)) (fun _ _ _ _=>(jC (show List.Nodup (["_law_k","_law_cells"]:List Str)by decide) 0)) (fun _ _ _ _=>iG) (fun _ _ _ _=>(fT jl (rdn hr) (eV (fT gc (rdn hr) (eV (eU 1) (eV fB fA))) (eV (iL fB (eU 0)) fA)))))
  (eZ (yK bg rfl fB (uP dm rfl (eV fB (eV (m9 be (eV (eU 0) fA)) fA))) (jC nd 2) (eZ (fM nd 3 (iN (eU 2) fB))
  (fD (sG (fT jl (rdn hr) (eV (iL (gD (eU 1) (eU 3)) (gD (eU 0) (eU 2))) (eV (eU 2) fA))) (eU 1) (eU 3)))))
  (fD (fS (eU 1)))))
theorem aFE(jl:jO P w K mg base 1 "_law_mixed" 2 kH)(bg:mg "range"=none):Ky P w K mg base "_law_names" "_law_names" (top 49) ["_law_cell","_law_many"] 2 (spT K 2 tL):=fun F=>okB (N:=["_law_cell","_law_many","_law_points","_law_k"]) F gO (iB gS) fun nd hr=>
 (eZ (fM nd 2 (j6 (gF fA)))
  (eZ (n5 bg rfl (eU 1) (jC nd 3) (fD (aD9 (eU 2) (eV (iN (fT jl (rdn hr) (eV (eU 0) (eV (eU 3) fA))) (iL (eU 3) fB)) (eV (eU 3) fA)))))
  (fD (fS (eU 2)))))
theorem aCh(gc:jO P w K mg base 1 "_law_cell_at" 2 iY)(bg:mg "range"=none)(ci:mg "int"=none):Ky P w K mg base "_law_lot_free" "_law_lot_free" (top 52) ["_law_cells","_law_many","_law_unit"] 2 (spT K 3 oZ):=fun F=>okB (N:=["_law_cells","_law_many","_law_unit","_law_base","_law_works","_law_k","_law_left","_law_least","_law_more","_law_order","_law_needs","_law_a"]) F gO (iB gS) fun nd hr=>
 (eZ (fM nd 3 (gD (fU (gF (eV fB (eV (k8 (eU 2) (aLB fB fB)) fA)))) (iN (kS (fT gc (rdn hr) (eV (eU 0) (eV fB fA))) fB) fB)))
  (eZ (fM nd 4 (j6 (gF fA)))
  (eZ (n5 bg rfl (eU 1) (jC nd 5) (eZ (fM nd 6 (fT gc (rdn hr) (eV (eU 0) (eV (iL fB (eU 5)) fA))))
  (eZ (fM nd 7 (iN (eU 6) (gD (fU (gF (eV fB (eV (eU 3) fA)))) (pX ci (eV (aFm (eU 3) fB) fA)))))
  (eZ (fM nd 6 (rQ (eU 6) (gD (fU (gF (eV fB (eV (eU 3) fA)))) (pX ci (eV (aFm (eU 3) fB) fA)))))
  (eZ (fM nd 8 (iN (eU 6) (gD (fU (gF (eV fB (eV (eU 3) fA)))) (pX ci (eV (aFm (eU 3) fB) fA)))))
  (eZ (fM nd 6 (rQ (eU 6) (gD (fU (gF (eV fB (eV (eU 3) fA)))) (pX ci (eV (aFm (eU 3) fB) fA)))))
  (fD (nJ (eU 4) (eV (fU (gF (eV (iL (eU 7) (eU 8)) (eV (eU 7) (eV (iN (eU 6) (gD (fU (gF (eV fB (eV (eU 3) fA)))) (pX ci (eV (aFm (eU 3) fB) fA)))) fA))))) fA)))))))))
  (eZ (fM nd 6 (fT gc (rdn hr) (eV (eU 0) (eV fB fA))))
  (eZ (fM nd 9 (j6 (gF fA)))
  (eZ (n5 bg rfl (eU 1) (jC nd 5) (eZ (aD9 (eU 9) (eV (iN (eU 6) (iL (eU 5) fB)) (eV (eU 5) fA)))
  (fD (fM nd 6 (rQ (eU 6) (iL (eU 5) fB))))))
  (eZ (fM nd 10 (j6 (gF fA)))
  (eZ (n5 bg rfl (eU 1) (jC nd 5) (fD (kU rfl (fU (wI (eU 9) sB (aBp (eU 5)))) (jC nd 11) (eZ (kB (vO (hu20 hr) (iN (eU 6) fB) fB) (fD (nJ (eU 10) (eV (fU (gF (eV (eU 11) (eV (gD (eU 9) (eU 5)) fA)))) fA))) iE)
  (fD (fM nd 6 (kS (eU 6) fB)))))))
  (fD (fS (aBu (eV (eU 4) (eV (eU 10) fA)))))))))))))
theorem aHM(ci:mg "int"=none):Ky P w K mg base "_law_work" "_law_work" (top 51) ["_law_one","_law_two","_law_three","_law_mode","_law_unit"] 1 (spT K 5 sH):=fun F=>okB (N:=["_law_one","_law_two","_law_three","_law_mode","_law_unit","_law_least","_law_more","_law_price"]) F gO (iB gS) fun nd hr=>
 (eZ (fM nd 5 (iN (eU 0) fB))
  (eZ (fM nd 6 (iN (eU 1) fB))
  (eZ (fM nd 7 (iN (eU 2) fB))
  (eZ (kB (vO (hu20 hr) (eU 3) fB) (eZ (fM nd 5 (iL (k8 (eU 0) (eU 4)) (iN (eU 1) fB)))
  (eZ (fM nd 6 (k8 (k8 (eU 1) (eU 4)) (pX ci (eV (aFm (iN (eU 1) fB) fB) fA))))
  (fD (fM nd 7 (iL (k8 (eU 2) (eU 4)) (iN (eU 0) fB)))))) iE)
  (eZ (kB (vO (hu20 hr) (eU 3) fB) (eZ (fM nd 6 (k8 (iN (eU 1) fB) (iN (kS (eU 1) fB) fB)))
  (fD (fM nd 7 (gD (fU (gF (eV fB (eV fB (eV fB (eV (iL fB (iN (eU 2) fB)) fA)))))) (iN (kS (eU 2) fB) fB))))) iE)
  (eZ (kB (t_w (aEg (vO (hu20 hr) (eU 3) fB) (aBI (vO (hu20 hr) (iN (eU 0) fB) fB)))) (fD (fM nd 5 fB)) iE)
  (fD (fS (fU (gF (eV (iL (eU 5) (eU 6)) (eV (eU 5) (eV (eU 7) fA)))))))))))))
theorem aMD(d62:jO P w K mg base 2 "_law_numbers" 1 nE)(gc:jO P w K mg base 1 "_law_cell_at" 2 iY)(d63:jO P w K mg base 2 "_law_names" 2 tL)(d64:jO P w K mg base 2 "_law_lot_free" 3 oZ)(d65:jO P w K mg base 1 "_law_work" 5 sH)(bg:mg "range"=none)(dm:mg "min"=none)(ci:mg "int"=none)(be:mg "len"=none):Ky P w K mg base "_law_lot" "_law_lot" (top 53) ["_law_cells","_law_most","_law_unit"] 3 (spT K 3 z6):=fun F=>okB (N:=["_law_cells","_law_most","_law_unit","_law_numbers_here","_law_first","_law_few","_law_many","_law_cell","_law_works","_law_names_here","_law_needs","_law_k","_law_b","_law_back","_law_a"]) F gO (iB gS) fun nd hr=>
 (eZ (fM nd 3 (fT d62 (rdn hr) (eV (eU 0) fA)))
  (eZ (fM nd 4 (fT gc (rdn hr) (eV (eU 0) (eV fB fA))))
  (eZ (fM nd 5 (iN (kS (eU 4) fB) (uP dm rfl (eV fB (eV (iL (eU 1) fB) fA)))))
  (eZ (fM nd 6 (gD (fU (gF (eV (eU 5) (eV (mC (eU 1) (gD (fU (gF (eV fB (eV fB (eV fB (eV fB fA)))))) (iN (kS (eU 4) fB) fB))) (eV (eU 5) (eV (uP dm rfl (eV (eU 1) (eV (iL fB (iN (kS (eU 4) fB) fB)) fA))) fA)))))) (iN (eU 4) fB)))
  (eZ (fM nd 7 (fT gc (rdn hr) (eV (eU 0) (eV fB fA))))
  (eZ (kB (vO (hu20 hr) (iN (kS (eU 7) fB) fB) fB) (fD (fS (fT d64 (rdn hr) (eV (eU 0) (eV (uP dm rfl (eV (eU 6) (eV (gD (fU (gF (eV fB (eV fB fA)))) (pX ci (eV (aOI (eU 1) fB) fA))) fA))) (eV (eU 2) fA)))))) iE)
  (eZ (aF1 nd 8 bg rfl (cok ["_law_k"] ["_law_numbers_here","_law_cell","_law_unit"] [3,7,2]) (eU 6) (iZ (by decide)) (fun _ _ _ _=>(jC (show List.Nodup (["_law_k","_law_numbers_here","_law_cell","_law_unit"]:List Str)by decide) 0)) (fun _ _ _ _=>iG) (fun _ _ _ _=>(fT d65 (rdn hr) (eV (gD (eU 1) (eU 0)) (eV (gD (eU 1) (iL fB (eU 0))) (eV (gD (eU 1) (iL fB (eU 0))) (eV (iN (eU 2) fB) (eV (eU 3) fA))))))))
  (eZ (fM nd 9 (fT d63 (rdn hr) (eV (gD (eU 3) fB) (eV (eU 6) fA))))
  (eZ (fM nd 10 (j6 (gF fA)))
  (eZ (yK bg rfl fB (iL fB (uP dm rfl (eV fB (eV (iL (eU 6) (iN (kS (eU 7) fB) fB)) fA)))) (jC nd 11) (fD (kB (aF2 (eU 6) fB) (eZ (fM nd 12 (iL fB (iN (gD (eU 3) (eU 11)) (mC (eU 6) fB))))
  (eZ (fM nd 13 (iN (kS (gD (eU 3) (eU 11)) fB) (uP dm rfl (eV (eU 12) (eV (gD (fU (gF (eV fB (eV fB (eV fB fA))))) (iN (kS (eU 7) fB) fB)) fA)))))
  (eZ (fM nd 14 (gD (fU (gF (eV (mC (mC (eU 12) fB) (eU 13)) (eV (eU 13) fA)))) (iN (kS (eU 7) fB) fB)))
  (fD (aD9 (eU 10) (eV (iN (kS (gD (eU 3) (eU 11)) fB) (iL (m9 be (eV (eU 10) fA)) fB)) (eV (fU (gF (eV (gD (eU 9) (eU 14)) (eV (gD (eU 9) (eU 12)) fA)))) fA))))))) iE)))
  (fD (fS (aBu (eV (eU 8) (eV (fU (wI (eU 10) (aBp (iN (kS (eU 7) fB) fB)) sB)) fA)))))))))))))))
theorem aD6(bg:mg "range"=none)(jb:mg "max"=none)(be:mg "len"=none):Ky P w K mg base "_law_length" "_law_length" (top 54) ["_law_hours","_law_needs"] 1 (spT K 2 kQ):=fun F=>okB (N:=["_law_hours","_law_needs","_law_begins","_law_k","_law_a","_law_b"]) F gO (iB gS) fun nd hr=>
 (eZ (fM nd 2 (j6 (j5 rfl (cok ["_law_one"] [] []) (eU 0) (iZ (by decide)) (fun _ _ _ _=>(jC (show List.Nodup (["_law_one"]:List Str)by decide) 0)) (fun _ _ _ _=>iG) (fun _ _ _ _=>fB))))
  (eZ (n5 bg rfl (m9 be (eV (eU 0) fA)) (jC nd 3) (fD (kU rfl (eU 1) (rB rfl (jV nd 4 (jV nd 5 rD))) (fD (sG (aMU jb rfl (eV (gD (eU 2) (eU 5)) (eV (iL (gD (eU 2) (eU 4)) (gD (eU 0) (eU 4))) fA))) (eU 2) (eU 5))))))
  (fD (fS (aNt jb rfl (eV (fU (aEE (fU (aHf bg rfl (cok ["_law_k"] ["_law_begins","_law_hours"] [2,0]) (m9 be (eV (eU 0) fA)) (iZ (by decide)) (fun _ _ _ _=>(jC (show List.Nodup (["_law_k","_law_begins","_law_hours"]:List Str)by decide) 0)) (fun _ _ _ _=>iG) (fun _ _ _ _=>(iL (gD (eU 1) (eU 0)) (gD (eU 2) (eU 0)))))) (fU (gF (eV fB fA))))) fA))))))
theorem aID(wc:jO P w K mg base 1 "_law_length" 2 kQ)(ci:mg "int"=none):Ky P w K mg base "_law_ends" "_law_ends" (top 55) ["_law_works","_law_needs"] 2 (spT K 2 sY):=fun F=>okB (N:=["_law_works","_law_needs","_law_least"]) F gO (iB gS) fun nd hr=>
 (eZ (fM nd 2 (fT wc (rdn hr) (eV (fU (j5 rfl (cok ["_law_work_here"] [] []) (eU 0) (iZ (by decide)) (fun _ _ _ _=>(jC (show List.Nodup (["_law_work_here"]:List Str)by decide) 0)) (fun _ _ _ _=>iG) (fun _ _ _ _=>(gD (eU 0) fB)))) (eV (eU 1) fA))))
  (fD (fS (aBu (eV (eU 2) (eV (fT wc (rdn hr) (eV (fU (j5 rfl (cok ["_law_work_here"] [] []) (eU 0) (iZ (by decide)) (fun _ _ _ _=>(jC (show List.Nodup (["_law_work_here"]:List Str)by decide) 0)) (fun _ _ _ _=>iG) (fun _ _ _ _=>(gD (eU 0) (pX ci (eV (aMb (hu20 hr) (gD (eU 0) fB) fB) fA)))))) (eV (eU 1) fA))) fA))))))
theorem vH(nq:mg "zip"=none):Ky P w K mg base "done_moments" "done_moments" (top 12) ["begins","hours"] 1 (spT K 2 kG):=fun F=>okB (N:=["begins","hours"]) F gO (iB gS) fun nd hr=>
 (fD (fS (fU (aEy nq rfl (cok ["begin","took"] [] []) (eU 0) (eU 1) (aEb (by decide)) (fun _ _ _ _=>(rB rfl (jV (show List.Nodup (["begin","took"]:List Str)by decide) 0 (jV (show List.Nodup (["begin","took"]:List Str)by decide) 1 rD)))) (fun _ _ _ _=>iG) (fun _ _ _ _=>(iL (eU 0) (eU 1)))))))
theorem aDD:Ky P w K mg base "is_work" "is_work" (top 6) ["many","number"] 1 (spT K 2 lA):=fun F=>okB (N:=["many","number"]) F gO (iB gS) fun nd hr=>
 (fD (fS (zI fB (eU 1) (eU 0))))
theorem vI(wb:jO P w K mg base 1 "is_work" 2 lA)(bg:mg "range"=none):Ky P w K mg base "needed_works" "needed_works" (top 7) ["many","needs"] 2 (spT K 2 gQ):=fun F=>okB (N:=["many","needs","needed","first","second"]) F gO (iB gS) fun nd hr=>
 (eZ (qN nd 2 bg rfl (cok ["work"] [] []) (eU 0) (iZ (by decide)) (fun _ _ _ _=>(jC (show List.Nodup (["work"]:List Str)by decide) 0)) (fun _ _ _ _=>iG) (fun _ _ _ _=>(j6 (gF fA))))
  (eZ (kU rfl (eU 1) (rB rfl (jV nd 3 (jV nd 4 rD))) (eZ (kB (t_w (y0 (vF (o7 (fT wb (rdn hr) (eV (eU 0) (eV (eU 3) fA))))) (u8 (vF (o7 (fT wb (rdn hr) (eV (eU 0) (eV (eU 4) fA)))))))) (fD aCP) iE)
  (fD (kB (aLk (hu20 hr) (eU 3) (gD (eU 2) (eU 4))) (fD (nJ (gD (eU 2) (eU 4)) (eV (eU 3) fA))) iE))))
  (fD (fS (eU 2)))))
theorem xQ(bg:mg "range"=none)(be:mg "len"=none)(xa:mg "all"=none):Ky P w K mg base "least_ready" "least_ready" (top 8) ["needed","told"] 1 (spT K 2 l6):=fun F=>okB (N:=["needed","told","work"]) F gO (iB gS) fun nd hr=>
 (eZ (n5 bg rfl (m9 be (eV (eU 0) fA)) (jC nd 2) (fD (kB (t_w (aEg (aLk (hu20 hr) (eU 2) (eU 1)) (aBI (o7 (aNU xa rfl (eV (fU (j5 rfl (cok ["first"] ["told"] [1]) (gD (eU 0) (eU 2)) (iZ (by decide)) (fun _ _ _ _=>(jC (show List.Nodup (["first","told"]:List Str)by decide) 0)) (fun _ _ _ _=>iG) (fun _ _ _ _=>(aON (hu20 hr) (eU 0) (eU 1))))) fA)))))) (fD (fS (eU 2))) iE)))
  (fD aCP))
theorem aC4(jv:jO P w K mg base 2 "needed_works" 2 gQ)(d69:jO P w K mg base 1 "least_ready" 2 l6)(be:mg "len"=none):Ky P w K mg base "order_of" "order_of" (top 5) ["many","needs"] 3 (spT K 2 m8):=fun F=>okB (N:=["many","needs","needed","order"]) F gO (iB gS) fun nd hr=>
 (eZ (fM nd 2 (fT jv (rdn hr) (eV (eU 0) (eV (eU 1) fA))))
  (eZ (fM nd 3 (j6 (gF fA)))
  (eZ (nH 10 (aH9 (m9 be (eV (eU 3) fA)) (eU 0)) (fD (nJ (eU 3) (eV (fT d69 (rdn hr) (eV (eU 2) (eV (eU 3) fA))) fA))))
  (fD (fS (eU 3))))))
theorem aCS(d70:jO P w K mg base 3 "order_of" 2 m8)(jv:jO P w K mg base 2 "needed_works" 2 gQ)(be:mg "len"=none)(jb:mg "max"=none):Ky P w K mg base "earliest" "earliest" (top 10) ["hours","needs"] 4 (spT K 2 lR):=fun F=>okB (N:=["hours","needs","order","needed","begins","work"]) F gO (iB gS) fun nd hr=>
 (eZ (fM nd 2 (fT d70 (rdn hr) (eV (m9 be (eV (eU 0) fA)) (eV (eU 1) fA))))
  (eZ (fM nd 3 (fT jv (rdn hr) (eV (m9 be (eV (eU 0) fA)) (eV (eU 1) fA))))
  (eZ (fM nd 4 (j6 (j5 rfl (cok ["work"] [] []) (eU 2) (iZ (by decide)) (fun _ _ _ _=>(jC (show List.Nodup (["work"]:List Str)by decide) 0)) (fun _ _ _ _=>iG) (fun _ _ _ _=>fB))))
  (eZ (kU rfl (eU 2) (jC nd 5) (fD (sG (aI9 jb rfl (fU (j5 rfl (cok ["first"] ["begins","hours"] [4,0]) (gD (eU 3) (eU 5)) (iZ (by decide)) (fun _ _ _ _=>(jC (show List.Nodup (["first","begins","hours"]:List Str)by decide) 0)) (fun _ _ _ _=>iG) (fun _ _ _ _=>(iL (gD (eU 1) (eU 0)) (gD (eU 2) (eU 0)))))) fB) (eU 4) (eU 5))))
  (fD (fS (eU 4)))))))
theorem aFA(d71:jO P w K mg base 1 "done_moments" 2 kG)(d72:jO P w K mg base 4 "earliest" 2 lR)(jb:mg "max"=none):Ky P w K mg base "length" "length" (top 11) ["hours","needs"] 5 (spT K 2 kI):=fun F=>okB (N:=["hours","needs"]) F gO (iB gS) fun nd hr=>
 (fD (fS (aI9 jb rfl (fT d71 (rdn hr) (eV (fT d72 (rdn hr) (eV (eU 0) (eV (eU 1) fA))) (eV (eU 0) fA))) fB)))
theorem yD:Ky P w K mg base "least_hours" "least_hours" (top 34) ["works"] 1 (spT K 1 kX):=fun F=>okB (N:=["works"]) F gO (iB gS) fun nd hr=>
 (fD (fS (fU (j5 rfl (cok ["work"] [] []) (eU 0) (iZ (by decide)) (fun _ _ _ _=>(jC (show List.Nodup (["work"]:List Str)by decide) 0)) (fun _ _ _ _=>iG) (fun _ _ _ _=>(gD (eU 0) fB))))))
theorem aA2(pj:jO P w K mg base 5 "length" 2 kI)(d74:jO P w K mg base 1 "least_hours" 1 kX):Ky P w K mg base "least_end" "least_end" (top 31) ["works","needs"] 6 (spT K 2 gZ):=fun F=>okB (N:=["works","needs"]) F gO (iB gS) fun nd hr=>
 (fD (fS (fT pj (rdn hr) (eV (fT d74 (rdn hr) (eV (eU 0) fA)) (eV (eU 1) fA)))))
theorem zL:Ky P w K mg base "free_hours" "free_hours" (top 35) ["work"] 1 (spT K 1 lC):=fun F=>okB (N:=["work"]) F gO (iB gS) fun nd hr=>
 (fD (fS (aOx (vO (hu20 hr) (gD (eU 0) fB) fB) (gD (eU 0) fB) (gD (eU 0) fB))))
theorem aB1(pj:jO P w K mg base 5 "length" 2 kI)(d75:jO P w K mg base 1 "free_hours" 1 lC):Ky P w K mg base "free_end" "free_end" (top 32) ["works","needs"] 6 (spT K 2 nA):=fun F=>okB (N:=["works","needs"]) F gO (iB gS) fun nd hr=>
 (fD (fS (fT pj (rdn hr) (eV (fU (j5 rfl (cok ["work"] [] []) (eU 0) (iZ (by decide)) (fun _ _ _ _=>(jC (show List.Nodup (["work"]:List Str)by decide) 0)) (fun _ _ _ _=>iG) (fun _ _ _ _=>(fT d75 (rdn hr) (eV (eU 0) fA))))) (eV (eU 1) fA)))))
theorem aCU(cr:iO K "Pipe" "tail")(di:iO K "Pipe" "head")(jx:iO K "Pipe" "hours")(cq:iO K "Pipe" "room")(cn:iO K "Pipe" "back"):Ky P w K mg base "__init__" "Pipe.__init__" (inClass (top 16) 0) ["self","tail","head","hours","room"] 1 (spS K 5 lP):=fun F=>okB (N:=["self","tail","head","hours","room"]) F i7 jY fun nd hr=>
 (eZ (oR cr (eU 0) (eU 1))
  (eZ (oR di (eU 0) (eU 2))
  (eZ (oR jx (eU 0) (eU 3))
  (eZ (oR cq (eU 0) (eU 4))
  (fD (oR cn (eU 0) qX))))))
theorem aDO(wa:aFv P w K mg base 1 "Pipe" 5 lP [] [])(cn:iO K "Pipe" "back")(dw:iO K "Net" "pipes"):Ky P w K mg base "lay" "Net.lay" (inClass (top 17) 1) ["self","tail","head","hours","room"] 3 (spS K 5 jJ):=fun F=>okB (N:=["self","tail","head","hours","room","pipe","back"]) F i7 jY fun nd hr=>
 (eZ (fM nd 5 (aBn wa (rdn hr) (eV (eU 1) (eV (eU 2) (eV (eU 3) (eV (eU 4) fA))))))
  (eZ (fM nd 6 (aBn wa (rdn hr) (eV (eU 2) (eV (eU 1) (eV (aHa (eU 3)) (eV fB fA))))))
  (eZ (oR cn (eU 5) (eU 6))
  (eZ (oR cn (eU 6) (eU 5))
  (fD (nJ (jQ dw (eU 0)) (eV (eU 5) fA)))))))
theorem yM:Ky P w K mg base "begin_place" "begin_place" (top 18) ["work"] 1 (spT K 1 iR):=fun F=>okB (N:=["work"]) F gO (iB gS) fun nd hr=>
 (fD (fS (iL (k8 fB (eU 0)) fB)))
theorem zT:Ky P w K mg base "done_place" "done_place" (top 19) ["work"] 1 (spT K 1 jA):=fun F=>okB (N:=["work"]) F gO (iB gS) fun nd hr=>
 (fD (fS (iL (k8 fB (eU 0)) fB)))
theorem aDL{dV:Value}(mn:nZ P w K mg base 3 "Net" "lay" 5 jJ)(jv:jO P w K mg base 2 "needed_works" 2 gQ)(pi:jO P w K mg base 1 "begin_place" 1 iR)(ph:jO P w K mg base 1 "done_place" 1 jA)(dw:iO K "Net" "pipes")(pq:iO K "Net" "places")(uz:mg "enumerate"=none)(be:mg "len"=none)(ja:mg "sum"=none)(ib:∃t,mg "SOURCE"=some (.int 0 t))(dv:∃t,mg "SINK"=some (.int 1 t))(F:aIe K "__init__" "Net.__init__" (inClass (top 17) 0) f fd dV):mQ P w K mg base CX0 4 f fd ["self","works","needs","bonus"] (spS K 4 lT):=okD (N:=["self","works","needs","bonus","plenty","number","work","second","firsts","first"]) F i7 jY fun nd hr=>
 (eZ (oR dw (eU 0) (j6 (gF fA)))
  (eZ (oR pq (eU 0) (iL (k8 fB (m9 be (eV (eU 1) fA))) fB))
  (eZ (fM nd 4 (iL (iL (aEr ja rfl (eV (fU (j5 rfl (cok ["work"] [] []) (eU 1) (iZ (by decide)) (fun _ _ _ _=>(jC (show List.Nodup (["work"]:List Str)by decide) 0)) (fun _ _ _ _=>iG) (fun _ _ _ _=>(gD (eU 0) fB)))) fA)) (eU 3)) fB))
  (eZ (aE3 uz rfl (eU 1) (rB rfl (jV nd 5 (jV nd 6 rD))) (eZ (mS (zK mn (rdn hr) (eU 0) (eV (lW ib) (eV (fT pi (rdn hr) (eV (eU 5) fA)) (eV fB (eV (eU 4) fA))))))
  (eZ (mS (zK mn (rdn hr) (eU 0) (eV (fT pi (rdn hr) (eV (eU 5) fA)) (eV (fT ph (rdn hr) (eV (eU 5) fA)) (eV (gD (eU 6) fB) (eV (gD (eU 6) fB) fA))))))
  (eZ (mS (zK mn (rdn hr) (eU 0) (eV (fT pi (rdn hr) (eV (eU 5) fA)) (eV (fT ph (rdn hr) (eV (eU 5) fA)) (eV (gD (eU 6) fB) (eV (eU 4) fA))))))
  (fD (mS (zK mn (rdn hr) (eU 0) (eV (fT ph (rdn hr) (eV (eU 5) fA)) (eV (lW dv) (eV fB (eV (eU 4) fA)))))))))))
  (fD (aE3 uz rfl (fT jv (rdn hr) (eV (m9 be (eV (eU 1) fA)) (eV (eU 2) fA))) (rB rfl (jV nd 7 (jV nd 8 rD))) (fD (kU rfl (eU 8) (jC nd 9) (fD (mS (zK mn (rdn hr) (eU 0) (eV (fT ph (rdn hr) (eV (eU 9) fA)) (eV (fT pi (rdn hr) (eV (eU 7) fA)) (eV fB (eV (eU 4) fA)))))))))))))))
theorem tH(dw:iO K "Net" "pipes")(cn:iO K "Pipe" "back")(cq:iO K "Pipe" "room"):Ky P w K mg base "open_pipes" "Net.open_pipes" (inClass (top 17) 6) ["self"] 1 (spS K 1 jD):=fun F=>okB (N:=["self","both"]) F i7 jY fun nd hr=>
 (eZ (fM nd 1 (fU (aEE (jQ dw (eU 0)) (fU (j5 rfl (cok ["pipe"] [] []) (jQ dw (eU 0)) (iZ (by decide)) (fun _ _ _ _=>(jC (show List.Nodup (["pipe"]:List Str)by decide) 0)) (fun _ _ _ _=>iG) (fun _ _ _ _=>(jQ cn (eU 0))))))))
  (fD (fS (fU (j5 rfl (cok ["pipe"] [] []) (eU 1) (iZ (by decide)) (fun _ _ _ _=>(jC (show List.Nodup (["pipe"]:List Str)by decide) 0)) (fun _ _ _ _=>(vX (aF2 (jQ cq (eU 0)) fB))) (fun _ _ _ _=>(eU 0)))))))
theorem t7(jx:iO K "Pipe" "hours")(cr:iO K "Pipe" "tail")(di:iO K "Pipe" "head"):Ky P w K mg base "raise_moments" "raise_moments" (top 21) ["moments","pipes"] 1 (spS K 2 kZ):=fun F=>okB (N:=["moments","pipes","raised","pipe","reached"]) F i7 jY fun nd hr=>
 (eZ (fM nd 2 aI7)
  (eZ (kU rfl (eU 1) (jC nd 3) (eZ (fM nd 4 (iL (gD (eU 0) (jQ cr (eU 3))) (jQ jx (eU 3))))
  (fD (kB (aF2 (eU 4) (gD (eU 0) (jQ di (eU 3)))) (eZ (sG (eU 4) (eU 0) (jQ di (eU 3)))
  (fD (fM nd 2 aI7))) iE))))
  (fD (fS (eU 2)))))
theorem zF(pe:nZ P w K mg base 1 "Net" "open_pipes" 1 jD)(d81:vM P w K mg base 1 "raise_moments" 2 kZ)(pq:iO K "Net" "places")(bg:mg "range"=none)(dv:∃t,mg "SINK"=some (.int 1 t)):Ky P w K mg base "moments" "Net.moments" (inClass (top 17) 4) ["self","end"] 2 (spS K 2 jB):=fun F=>okB (N:=["self","end","found","pipes"]) F i7 jY fun nd hr=>
 (eZ (qN nd 2 bg rfl (cok ["place"] [] []) (jQ pq (eU 0)) (iZ (by decide)) (fun _ _ _ _=>(jC (show List.Nodup (["place"]:List Str)by decide) 0)) (fun _ _ _ _=>iG) (fun _ _ _ _=>fB))
  (eZ (sG (eU 1) (eU 2) (lW dv))
  (eZ (fM nd 3 (aB0 pe (rdn hr) (eU 0)))
  (eZ (nH (10^200) (o7 (k6 d81 (rdn hr) (eV (eU 2) (eV (eU 3) fA)))) (fD aKD))
  (fD (fS (eU 2)))))))
theorem wR(cr:iO K "Pipe" "tail")(di:iO K "Pipe" "head"):Ky P w K mg base "next_routes" "next_routes" (top 23) ["routes","pipes"] 1 (spS K 2 l5):=fun F=>okB (N:=["routes","pipes","fresh","pipe"]) F i7 jY fun nd hr=>
 (eZ (fM nd 2 aJB)
  (eZ (kU rfl (eU 1) (jC nd 3) (fD (kB (t_w (aEg (aOp (hu20 hr) (jQ cr (eU 3)) (eU 0)) (aBI (aHN (hu20 hr) (jQ di (eU 3)) (eU 0))))) (fD (aEt (hu20 hr) (eU 2) (jQ di (eU 3)) (fU (aEE (aA3 (hu20 hr) (eU 0) (jQ cr (eU 3))) (fU (gF (eV (eU 3) fA))))))) iE)))
  (fD (fS (eU 2)))))
theorem wU(d82:vM P w K mg base 1 "next_routes" 2 l5)(jx:iO K "Pipe" "hours")(di:iO K "Pipe" "head")(cr:iO K "Pipe" "tail")(ib:∃t,mg "SOURCE"=some (.int 0 t))(dv:∃t,mg "SINK"=some (.int 1 t)):Ky P w K mg base "tight_route" "tight_route" (top 22) ["pipes","moments"] 2 (spS K 2 lV):=fun F=>okB (N:=["pipes","moments","tight","routes"]) F i7 jY fun nd hr=>
 (eZ (aJX nd 2 rfl (cok ["pipe"] ["moments"] [1]) (eU 0) (iZ (by decide)) (fun _ _ _ _=>(jC (show List.Nodup (["pipe","moments"]:List Str)by decide) 0)) (fun _ _ _ _=>(vX (vO (hu20 hr) (iL (gD (eU 1) (jQ cr (eU 0))) (jQ jx (eU 0))) (gD (eU 1) (jQ di (eU 0)))))) (fun _ _ _ _=>(eU 0)))
  (eZ (fM nd 3 (aK3 (lW ib) (fU (gF fA))))
  (eZ (nH 40 (aHN (hu20 hr) (lW dv) (eU 3)) (fD (mS (aNb (eU 3) (k6 d82 (rdn hr) (eV (eU 3) (eV (eU 2) fA)))))))
  (fD (fS (aA3 (hu20 hr) (eU 3) (lW dv)))))))
theorem aKL(cq:iO K "Pipe" "room")(cn:iO K "Pipe" "back"):Ky P w K mg base "pour" "pour" (top 25) ["route","amount"] 1 (spS K 2 aBb):=fun F=>okB (N:=["route","amount","pipe"]) F i7 jY fun nd hr=>
 (fD (kU rfl (eU 0) (jC nd 2) (eZ (aGi cq (eU 2) (eU 1))
  (fD (aFt cq (jQ cn (eU 2)) (eU 1))))))
theorem aDt(cq:iO K "Pipe" "room")(dm:mg "min"=none):Ky P w K mg base "room_on" "room_on" (top 24) ["route"] 1 (spS K 1 qH):=fun F=>okB (N:=["route"]) F i7 jY fun nd hr=>
 (fD (fS (aHg dm rfl (eV (fU (j5 rfl (cok ["pipe"] [] []) (eU 0) (iZ (by decide)) (fun _ _ _ _=>(jC (show List.Nodup (["pipe"]:List Str)by decide) 0)) (fun _ _ _ _=>iG) (fun _ _ _ _=>(jQ cq (eU 0))))) fA))))
theorem aBS(mm:nZ P w K mg base 2 "Net" "moments" 2 jB)(d84:vM P w K mg base 2 "tight_route" 2 lV)(d85:vM P w K mg base 1 "pour" 2 aBb)(pe:nZ P w K mg base 1 "Net" "open_pipes" 1 jD)(d86:vM P w K mg base 1 "room_on" 1 qH)(dv:∃t,mg "SINK"=some (.int 1 t)):Ky P w K mg base "fill" "Net.fill" (inClass (top 17) 2) ["self","end"] 3 (spS K 2 lQ):=fun F=>okB (N:=["self","end","moments","route"]) F i7 jY fun nd hr=>
 (eZ (fM nd 2 (zK mm (rdn hr) (eU 0) (eV fB fA)))
  (fD (nH (10^200) (aF2 (gD (eU 2) (lW dv)) (eU 1)) (eZ (fM nd 3 (k6 d84 (rdn hr) (eV (aB0 pe (rdn hr) (eU 0)) (eV (eU 2) fA))))
  (eZ (mS (k6 d85 (rdn hr) (eV (eU 3) (eV (k6 d86 (rdn hr) (eV (eU 3) fA)) fA))))
  (fD (fM nd 2 (zK mm (rdn hr) (eU 0) (eV fB fA)))))))))
theorem rP(mm:nZ P w K mg base 2 "Net" "moments" 2 jB)(dv:∃t,mg "SINK"=some (.int 1 t)):Ky P w K mg base "open_length" "Net.open_length" (inClass (top 17) 5) ["self"] 3 (spS K 1 j8):=fun F=>okB (N:=["self"]) F i7 jY fun nd hr=>
 (fD (fS (gD (zK mm (rdn hr) (eU 0) (eV fB fA)) (lW dv))))
theorem zR(cq:iO K "Pipe" "room")(cn:iO K "Pipe" "back")(dw:iO K "Net" "pipes")(cr:iO K "Pipe" "tail")(ja:mg "sum"=none)(ib:∃t,mg "SOURCE"=some (.int 0 t)):Ky P w K mg base "amount" "Net.amount" (inClass (top 17) 7) ["self"] 1 (spS K 1 mO):=fun F=>okB (N:=["self"]) F i7 jY fun nd hr=>
 (fD (fS (aEr ja rfl (eV (fU (j5 rfl (cok ["pipe"] [] []) (jQ dw (eU 0)) (iZ (by decide)) (fun _ _ _ _=>(jC (show List.Nodup (["pipe"]:List Str)by decide) 0)) (fun _ _ _ _=>(vX (vO (hu20 hr) (jQ cr (eU 0)) (lW ib)))) (fun _ _ _ _=>(jQ cq (jQ cn (eU 0)))))) fA))))
theorem aDs(gz:jO P w K mg base 6 "least_end" 2 gZ)(d88:jO P w K mg base 6 "free_end" 2 nA)(pd:aFv P w K mg base 4 "Net" 4 lT [.int 0] [.int 0])(oz:nZ P w K mg base 3 "Net" "fill" 2 lQ)(d91:nZ P w K mg base 3 "Net" "open_length" 1 j8)(zx:nZ P w K mg base 1 "Net" "amount" 1 mO):Ky P w K mg base "corners" "corners" (top 42) ["works","needs"] 7 (aCQ K 2 oE):=fun F=>okB (N:=["works","needs","last","end","price","found","net","sooner"]) F aCY (aEu aCc) fun nd hr=>
 (eZ (fM nd 2 (fT gz (rdn hr) (eV (eU 0) (eV (eU 1) fA))))
  (eZ (fM nd 3 (fT d88 (rdn hr) (eV (eU 0) (eV (eU 1) fA))))
  (eZ (fM nd 4 fB)
  (eZ (fM nd 5 (j6 (gF (eV (j6 (gF (eV (eU 3) (eV (eU 4) fA)))) fA))))
  (eZ (fM nd 6 (aBn pd (rdn hr) (eV (eU 0) (eV (eU 1) fA))))
  (eZ (nH (10^200) (aF2 (eU 3) (eU 2)) (eZ (mS (zK oz (rdn hr) (eU 6) (eV (mC (eU 3) fB) fA)))
  (eZ (fM nd 7 (aB0 d91 (rdn hr) (eU 6)))
  (eZ (aFS nd 4 (k8 (aB0 zx (rdn hr) (eU 6)) (mC (eU 3) (eU 7))))
  (eZ (fM nd 3 (eU 7))
  (fD (nJ (eU 5) (eV (j6 (gF (eV (eU 3) (eV (eU 4) fA)))) fA))))))))
  (fD (fS (eU 5)))))))))
theorem aIT(ke:mg "isinstance"=none)(ci:mg "int"=none)(wz:mg "bool"=none):Ky P w K mg base "_law_whole" "_law_whole" (top 46) ["_law_found"] 1 (spT K 1 lL):=fun F=>okB (N:=["_law_found"]) F gO (iB gS) fun nd hr=>
 (fD (fS (aLw (aFh ke ci (eU 0)) (aLD (aOs (aEd ke wz (eU 0)))))))
theorem aDA(ku:jO P w K mg base 1 "_law_whole" 1 lL)(bg:mg "range"=none)(be:mg "len"=none)(ke:mg "isinstance"=none)(kc:mg "list"=none):Ky P w K mg base "_law_steps" "_law_steps" (top 56) ["_law_found","_law_least","_law_free"] 2 (spM K 3 qO):=fun F=>okB (N:=["_law_found","_law_least","_law_free","_law_row","_law_steps_here","_law_k","_law_sooner","_law_dearer"]) F aK6 (aLS aJP) fun nd hr=>
 (eZ (kB (t_w (y0 (vF (o7 (xU ke kc (eU 0)))) (u8 (vO (hu20 hr) (eU 0) (fU (gF fA)))))) (fD (fS qX)) iE)
  (eZ (kU rfl (eU 0) (jC nd 3) (fD (kB (t_w (y0 (vF (o7 (xU ke kc (eU 3)))) (y0 (aDo (hu20 hr) (m9 be (eV (eU 3) fA)) fB) (y0 (vF (o7 (fT ku (rdn hr) (eV (gD (eU 3) fB) fA)))) (u8 (vF (o7 (fT ku (rdn hr) (eV (gD (eU 3) fB) fA))))))))) (fD (fS qX)) iE)))
  (eZ (fM nd 4 (j6 (gF (eV fB fA))))
  (eZ (yK bg rfl fB (m9 be (eV (eU 0) fA)) (jC nd 5) (eZ (fM nd 6 (mC (gD (gD (eU 0) (mC (eU 5) fB)) fB) (gD (gD (eU 0) (eU 5)) fB)))
  (eZ (fM nd 7 (mC (gD (gD (eU 0) (eU 5)) fB) (gD (gD (eU 0) (mC (eU 5) fB)) fB)))
  (eZ (kB (t_w (y0 (aH9 (eU 6) fB) (y0 (aDo (hu20 hr) (iN (eU 7) (eU 6)) fB) (u8 (aNA (rQ (eU 7) (eU 6)) (gD (eU 4) (aHa fB))))))) (fD (fS qX)) iE)
  (fD (nJ (eU 4) (eV (rQ (eU 7) (eU 6)) fA)))))))
  (eZ (kB (t_w (y0 (aDo (hu20 hr) (gD (eU 0) fB) (fU (gF (eV (eU 2) (eV fB fA))))) (u8 (aDo (hu20 hr) (gD (gD (eU 0) (aHa fB)) fB) (eU 1))))) (fD (fS qX)) iE)
  (fD (fS (j6 (wI (eU 4) (aBp fB) sB)))))))))
theorem aDf:Ky P w K mg base "_law_spoil" "_law_spoil" (top 57) ["_law_rows"] 1 (aEa K 1 lS):=fun F=>okB (N:=["_law_rows","_law_row"]) F aIj aJR fun nd hr=>
 (eZ (kU rfl (eU 0) (jC nd 1) (fD (nJ (eU 1) (eV fB fA))))
  (fD (nJ (eU 0) (eV (fU (gF (eV fB fA))) fA))))
theorem aDJ(bg:mg "range"=none):Ky P w K mg base "through" "through" (top 38) ["many","rows"] 1 (spT K 2 m4):=fun F=>okB (N:=["many","rows","amounts","row","work"]) F gO (iB gS) fun nd hr=>
 (eZ (qN nd 2 bg rfl (cok ["work"] [] []) (eU 0) (iZ (by decide)) (fun _ _ _ _=>(jC (show List.Nodup (["work"]:List Str)by decide) 0)) (fun _ _ _ _=>iG) (fun _ _ _ _=>fB))
  (eZ (kU rfl (eU 1) (jC nd 3) (fD (kU rfl (fU (wI (eU 3) (aBp fB) sB)) (jC nd 4) (fD (aJk (eU 2) (eU 4) (gD (eU 3) fB))))))
  (fD (fS (eU 2)))))
theorem zV:Ky P w K mg base "work_worth" "work_worth" (top 40) ["work","amount"] 1 (spT K 2 lH):=fun F=>okB (N:=["work","amount"]) F gO (iB gS) fun nd hr=>
 (eZ (kB (aNA (eU 1) (gD (eU 0) fB)) (fD (fS (k8 (eU 1) (gD (eU 0) fB)))) iE)
  (fD (fS (iL (k8 (gD (eU 0) fB) (mC (gD (eU 0) fB) (gD (eU 0) fB))) (k8 (eU 1) (gD (eU 0) fB))))))
theorem aG6(zw:jO P w K mg base 1 "through" 2 m4)(zu:jO P w K mg base 1 "work_worth" 2 lH)(ja:mg "sum"=none)(be:mg "len"=none)(nq:mg "zip"=none):Ky P w K mg base "worth" "worth" (top 39) ["works","rows","end"] 2 (spT K 3 v3):=fun F=>okB (N:=["works","rows","end","amounts","gained"]) F gO (iB gS) fun nd hr=>
 (eZ (fM nd 3 (fT zw (rdn hr) (eV (m9 be (eV (eU 0) fA)) (eV (eU 1) fA))))
  (eZ (fM nd 4 (aEr ja rfl (eV (fU (aEy nq rfl (cok ["work","amount"] [] []) (eU 0) (eU 3) (aEb (by decide)) (fun _ _ _ _=>(rB rfl (jV (show List.Nodup (["work","amount"]:List Str)by decide) 0 (jV (show List.Nodup (["work","amount"]:List Str)by decide) 1 rD)))) (fun _ _ _ _=>iG) (fun _ _ _ _=>(fT zu (rdn hr) (eV (eU 0) (eV (eU 1) fA)))))) fA)))
  (fD (fS (mC (eU 4) (k8 (eU 2) (aEr ja rfl (eV (fU (j5 rfl (cok ["row"] [] []) (eU 1) (iZ (by decide)) (fun _ _ _ _=>(jC (show List.Nodup (["row"]:List Str)by decide) 0)) (fun _ _ _ _=>iG) (fun _ _ _ _=>(gD (eU 0) fB)))) fA))))))))
theorem zS:Ky P w K mg base "steps_from" "steps_from" (top 27) ["place","flows"] 1 (spS K 2 lK):=fun F=>okB (N:=["place","flows"]) F i7 jY fun nd hr=>
 (fD (fS (fU (aKk rfl (cok ["step"] ["place","flows"] [0,1]) (eU 1) (iZ (by decide)) (fun _ _ _ _=>(jC (show List.Nodup (["step","place","flows"]:List Str)by decide) 0)) (fun _ _ _ _=>(vX (t_w (aEg (vO (hu20 hr) (gD (eU 0) fB) (eU 1)) (aBI (aF2 (aA3 (hu20 hr) (eU 2) (eU 0)) fB)))))) (fun _ _ _ _=>(eU 0))))))
theorem t8(vz:vM P w K mg base 1 "steps_from" 2 lK)(ib:∃t,mg "SOURCE"=some (.int 0 t)):Ky P w K mg base "flowing_route" "flowing_route" (top 26) ["flows"] 2 (spS K 1 j3):=fun F=>okB (N:=["flows","route","steps"]) F i7 jY fun nd hr=>
 (eZ (fM nd 1 (j6 (gF fA)))
  (eZ (fM nd 2 (k6 vz (rdn hr) (eV (lW ib) (eV (eU 0) fA))))
  (eZ (nH 40 (o7 (eU 2)) (eZ (nJ (eU 1) (eV (gD (eU 2) fB) fA))
  (fD (fM nd 2 (k6 vz (rdn hr) (eV (gD (gD (eU 2) fB) fB) (eV (eU 0) fA)))))))
  (fD (fS (eU 1))))))
theorem aDu:Ky P w K mg base "work_at" "work_at" (top 20) ["place"] 1 (spT K 1 qL):=fun F=>okB (N:=["place"]) F gO (iB gS) fun nd hr=>
 (fD (fS (mC (kS (eU 0) fB) fB)))
theorem aC9(zt:jO P w K mg base 1 "work_at" 1 qL):Ky P w K mg base "works_on" "works_on" (top 29) ["route"] 2 (spS K 1 oS):=fun F=>okB (N:=["route"]) F i7 jY fun nd hr=>
 (fD (fS (fU (j5 rfl (cok ["tail","head"] [] []) (fU (aOm (eU 0))) (aEb (by decide)) (fun _ _ _ _=>(rB rfl (jV (show List.Nodup (["tail","head"]:List Str)by decide) 0 (jV (show List.Nodup (["tail","head"]:List Str)by decide) 1 rD)))) (fun _ _ _ _=>iG) (fun _ _ _ _=>(fT zt (rdn hr) (eV (eU 0) fA)))))))
theorem aBO(dm:mg "min"=none):Ky P w K mg base "take_out" "take_out" (top 28) ["flows","route"] 1 (spS K 2 o0):=fun F=>okB (N:=["flows","route","amount","step"]) F i7 jY fun nd hr=>
 (eZ (fM nd 2 (aHg dm rfl (eV (fU (j5 rfl (cok ["step"] ["flows"] [0]) (eU 1) (iZ (by decide)) (fun _ _ _ _=>(jC (show List.Nodup (["step","flows"]:List Str)by decide) 0)) (fun _ _ _ _=>iG) (fun _ _ _ _=>(aA3 (hu20 hr) (eU 1) (eU 0))))) fA)))
  (eZ (kU rfl (eU 1) (jC nd 3) (fD (aDS (hu20 hr) (eU 0) (eU 3) (eU 2))))
  (fD (fS (eU 2)))))
theorem zX(vy:vM P w K mg base 2 "flowing_route" 1 j3)(zr:vM P w K mg base 2 "works_on" 1 oS)(nc:vM P w K mg base 1 "take_out" 2 o0)(dw:iO K "Net" "pipes")(cr:iO K "Pipe" "tail")(di:iO K "Pipe" "head")(cq:iO K "Pipe" "room")(cn:iO K "Pipe" "back"):Ky P w K mg base "stream" "Net.stream" (inClass (top 17) 8) ["self"] 3 (spS K 1 mL):=fun F=>okB (N:=["self","flows","pipe","step","rows","route"]) F i7 jY fun nd hr=>
 (eZ (fM nd 1 aK2)
  (eZ (kU rfl (jQ dw (eU 0)) (jC nd 2) (eZ (fM nd 3 (aBu (eV (jQ cr (eU 2)) (eV (jQ di (eU 2)) fA))))
  (fD (aEt (hu20 hr) (eU 1) (eU 3) (iL (aJL (hu20 hr) (eU 1) (eU 3) fB) (jQ cq (jQ cn (eU 2))))))))
  (eZ (fM nd 4 (j6 (gF fA)))
  (eZ (fM nd 5 (k6 vy (rdn hr) (eV (eU 1) fA)))
  (eZ (nH (10^200) (o7 (eU 5)) (eZ (nJ (eU 4) (eV (j6 (aEE (fU (gF (eV (k6 nc (rdn hr) (eV (eU 1) (eV (eU 5) fA))) fA))) (k6 zr (rdn hr) (eV (eU 5) fA)))) fA))
  (fD (fM nd 5 (k6 vy (rdn hr) (eV (eU 1) fA))))))
  (fD (fS (eU 4))))))))
theorem zU(pd:aFv P w K mg base 4 "Net" 4 lT [.int 0] [.int 0])(oz:nZ P w K mg base 3 "Net" "fill" 2 lQ):Ky P w K mg base "filled_net" "filled_net" (top 36) ["works","needs","end"] 6 (spS K 3 mR):=fun F=>okB (N:=["works","needs","end","net"]) F i7 jY fun nd hr=>
 (eZ (fM nd 3 (aBn pd (rdn hr) (eV (eU 0) (eV (eU 1) fA))))
  (eZ (mS (zK oz (rdn hr) (eU 3) (eV (eU 2) fA)))
  (fD (fS (eU 3)))))
theorem aBi(nb:nZ P w K mg base 3 "Net" "stream" 1 mL)(gz:jO P w K mg base 6 "least_end" 2 gZ)(na:vM P w K mg base 6 "filled_net" 3 mR):Ky P w K mg base "stream_at" "stream_at" (top 33) ["works","needs","end"] 7 (aCQ K 3 kD):=fun F=>okB (N:=["works","needs","end"]) F aCY (aEu aCc) fun nd hr=>
 (eZ (kB (aH9 (eU 2) (fT gz (rdn hr) (eV (eU 0) (eV (eU 1) fA)))) (fD (fS qX)) iE)
  (fD (fS (aB0 nb (rdn hr) (k6 na (rdn hr) (eV (eU 0) (eV (eU 1) (eV (eU 2) fA))))))))
theorem aBQ(mz:jO P w K mg base 2 "worth" 3 v3)(gz:jO P w K mg base 6 "least_end" 2 gZ)(my:aE5 P w K mg base 7 "stream_at" 3 kD):Ky P w K mg base "price_at" "price_at" (top 43) ["works","needs","end"] 8 (spT K 3 jE):=fun F=>okB (N:=["works","needs","end"]) F gO (iB gS) fun nd hr=>
 (eZ (kB (aH9 (eU 2) (fT gz (rdn hr) (eV (eU 0) (eV (eU 1) fA)))) (fD (fS qX)) iE)
  (fD (fS (fT mz (rdn hr) (eV (eU 0) (eV (aEI my (rdn hr) (eV (eU 0) (eV (eU 1) (eV (eU 2) fA)))) (eV (eU 2) fA)))))))
theorem aDw(gz:jO P w K mg base 6 "least_end" 2 gZ)(dh:jO P w K mg base 8 "price_at" 3 jE):Ky P w K mg base "step_at" "step_at" (top 44) ["works","needs","end"] 9 (spT K 3 mZ):=fun F=>okB (N:=["works","needs","end"]) F gO (iB gS) fun nd hr=>
 (eZ (kB (aNA (eU 2) (fT gz (rdn hr) (eV (eU 0) (eV (eU 1) fA)))) (fD (fS qX)) iE)
  (fD (fS (mC (fT dh (rdn hr) (eV (eU 0) (eV (eU 1) (eV (mC (eU 2) fB) fA)))) (fT dh (rdn hr) (eV (eU 0) (eV (eU 1) (eV (eU 2) fA))))))))
theorem aMf(mx:jO P w K mg base 3 "_law_lot" 3 z6)(mw:jO P w K mg base 2 "_law_ends" 2 sY)(mv:aE5 P w K mg base 7 "corners" 2 oE)(ms:aMq P w K mg base 2 "_law_steps" 3 qO)(mr:aG2 P w K mg base 1 "_law_spoil" 1 lS)(jl:jO P w K mg base 1 "_law_mixed" 2 kH)(dh:jO P w K mg base 8 "price_at" 3 jE)(jw:jO P w K mg base 9 "step_at" 3 mZ)(gc:jO P w K mg base 1 "_law_cell_at" 2 iY)(ku:jO P w K mg base 1 "_law_whole" 1 lL)(be:mg "len"=none)(kc:mg "list"=none):Ky P w K mg base "law" "law" (top 58) ["_law_script"] 10 (spT K 1 aEm):=fun F=>okB (N:=["_law_script","_law_works","_law_needs","_law_least","_law_free","_law_handed","_law_found","_law_steps_here","_law_k","_law_late","_law_price","_law_soon","_law_end","_law_told_at","_law_step"]) F gO (iB gS) fun nd hr=>
 (eZ (aD1 (fT mx (rdn hr) (eV (eU 0) (eV fB (eV (aLB fB fB) fA)))) (rB rfl (jV nd 1 (jV nd 2 rD))))
  (eZ (aD1 (fT mw (rdn hr) (eV (eU 1) (eV (eU 2) fA))) (rB rfl (jV nd 3 (jV nd 4 rD))))
  (eZ (fM nd 5 (fU (gF (eV (fU (j5 rfl (cok ["_law_work_here"] [] []) (eU 1) (iZ (by decide)) (fun _ _ _ _=>(jC (show List.Nodup (["_law_work_here"]:List Str)by decide) 0)) (fun _ _ _ _=>iG) (fun _ _ _ _=>(fU (aIQ kc (eV (eU 0) fA)))))) (eV (fU (j5 rfl (cok ["_law_pair"] [] []) (eU 2) (iZ (by decide)) (fun _ _ _ _=>(jC (show List.Nodup (["_law_pair"]:List Str)by decide) 0)) (fun _ _ _ _=>iG) (fun _ _ _ _=>(fU (aIQ kc (eV (eU 0) fA)))))) fA)))))
  (eZ (fM nd 6 (aEI mv (rdn hr) (eV (gD (eU 5) fB) (eV (gD (eU 5) fB) fA))))
  (eZ (fM nd 7 (aJh ms (rdn hr) (eV (eU 6) (eV (eU 3) (eV (eU 4) fA)))))
  (eZ (kB (t_w (y0 (aOv (eU 7) qX) (u8 (aDo (hu20 hr) (eU 5) (fU (gF (eV (eU 1) (eV (eU 2) fA)))))))) (fD (fS aI7)) iE)
  (eZ (kB (vO (hu20 hr) (eU 7) (fU (gF fA))) (fD (fS (aLw (aMb (hu20 hr) (fT dh (rdn hr) (eV (eU 1) (eV (eU 2) (eV (eU 3) fA)))) fB) (aLD (aOq (fT jw (rdn hr) (eV (eU 1) (eV (eU 2) (eV (eU 3) fA)))) qX))))) iE)
  (eZ (fM nd 8 (iN (fT jl (rdn hr) (eV (fT gc (rdn hr) (eV (eU 0) (eV fB fA))) (eV fB fA))) (m9 be (eV (eU 7) fA))))
  (eZ (aD1 (gD (eU 6) (eU 8)) (rB rfl (jV nd 9 (jV nd 10 rD))))
  (eZ (fM nd 11 (gD (gD (eU 6) (iL (eU 8) fB)) fB))
  (eZ (aLU mr (rdn hr) (eV (eU 6) fA))
  (eZ (kU rfl (fU (gF (eV (eU 9) (eV (mC (eU 9) fB) (eV (kS (iL (eU 9) (eU 11)) fB) (eV (eU 11) fA)))))) (jC nd 12) (eZ (fM nd 13 (fT dh (rdn hr) (eV (gD (eU 5) fB) (eV (gD (eU 5) fB) (eV (eU 12) fA)))))
  (fD (kB (t_w (y0 (vF (o7 (fT ku (rdn hr) (eV (eU 13) fA)))) (u8 (aDo (hu20 hr) (eU 13) (iL (eU 10) (k8 (gD (eU 7) (eU 8)) (mC (eU 9) (eU 12)))))))) (fD (fS aI7)) iE))))
  (eZ (kU rfl (fU (gF (eV (eU 9) (eV (iL (eU 11) fB) fA)))) (jC nd 12) (eZ (fM nd 14 (fT jw (rdn hr) (eV (gD (eU 5) fB) (eV (gD (eU 5) fB) (eV (eU 12) fA)))))
  (fD (kB (t_w (y0 (vF (o7 (fT ku (rdn hr) (eV (eU 14) fA)))) (u8 (aDo (hu20 hr) (eU 14) (gD (eU 7) (eU 8)))))) (fD (fS aI7)) iE))))
  (fD (fS (aMb (hu20 hr) (eU 5) (fU (gF (eV (eU 1) (eV (eU 2) fA))))))))))))))))))))
end
set_option maxHeartbeats 0 in
theorem aNj{l:aQg}{w:World}{K:aO}{h:Heap}{mg:Str->Option Value}{fa:Addr}(X:K.In h)(G:h.Ns mainGlobals mg)(hfa:mg "law"=some (.ref fa))
 {nh:Addr}(h60:Cm K "Pipe" nh)
 {ic:Addr}(h61:Cm K "Net" ic)
 (v60:b6 K (.ref nh) "tail"=some none)
 (v61:b6 K (.ref nh) "head"=some none)
 (v62:b6 K (.ref nh) "hours"=some none)
 (v63:b6 K (.ref nh) "room"=some none)
 (v64:b6 K (.ref nh) "back"=some none)
 (v65:b6 K (.ref ic) "pipes"=some none)
 (v66:b6 K (.ref ic) "places"=some none)
 (a1:Nm K "_law_mixed" (top 48))
 (a2:Nm K "_law_cell_at" (top 47))
 (a3:Nm K "_law_numbers" (top 50))
 (a4:Nm K "_law_names" (top 49))
 (a5:Nm K "_law_lot_free" (top 52))
 (a6:Nm K "_law_work" (top 51))
 (a7:Nm K "_law_lot" (top 53))
 (a8:Nm K "_law_length" (top 54))
 (a9:Nm K "_law_ends" (top 55))
 (a10:Nm K "done_moments" (top 12))
 (a11:Nm K "is_work" (top 6))
 (a12:Nm K "needed_works" (top 7))
 (a13:Nm K "least_ready" (top 8))
 (a14:Nm K "order_of" (top 5))
 (a15:Nm K "earliest" (top 10))
 (a16:Nm K "length" (top 11))
 (a17:Nm K "least_hours" (top 34))
 (a18:Nm K "least_end" (top 31))
 (a19:Nm K "free_hours" (top 35))
 (a20:Nm K "free_end" (top 32))
 (a21:Mm K nh "__init__" "Pipe.__init__" (inClass (top 16) 0))
 (a22:Mm K ic "lay" "Net.lay" (inClass (top 17) 1))
 (a23:Nm K "begin_place" (top 18))
 (a24:Nm K "done_place" (top 19))
 {uj:Addr}{wt an25:Option Addr}{wg:Array (Option Value)}{wv xf zq wl uo ct25:Value}
 {T25:Addr}
 (a25:b6 K (.ref ic) "__init__"=some (some (.ref uj)))(l25:K.lookup uj=some ⟨wv,wt,.func (cK "__init__" "Net.__init__" (jU (inClass (top 17) 0)) (i8 (inClass (top 17) 0)) (gH (inClass (top 17) 0)) (.ref T25) xf zq wl an25 uo ct25),wg⟩)(c25:dM K uo "Net.__init__"=true)(k25:cG K (.ref uj)=true)
 (n25:aO4 K (.ref uj)=true)
 {qd:Value}{qc:Option Addr}{we:Nat}{pz:Array (Option Value)}{py:Tok}(d25:K.lookup T25=some ⟨qd,qc,.seq #[.int 0 py] we,pz⟩)
 (a26:Mm K ic "open_pipes" "Net.open_pipes" (inClass (top 17) 6))
 (a27:Nm K "raise_moments" (top 21))
 (a28:Mm K ic "moments" "Net.moments" (inClass (top 17) 4))
 (a29:Nm K "next_routes" (top 23))
 (a30:Nm K "tight_route" (top 22))
 (a31:Nm K "pour" (top 25))
 (a32:Nm K "room_on" (top 24))
 (a33:Mm K ic "fill" "Net.fill" (inClass (top 17) 2))
 (a34:Mm K ic "open_length" "Net.open_length" (inClass (top 17) 5))
 (a35:Mm K ic "amount" "Net.amount" (inClass (top 17) 7))
 (a36:Nm K "corners" (top 42))
 (a37:Nm K "_law_whole" (top 46))
 (a38:Nm K "_law_steps" (top 56))
 (a39:Nm K "_law_spoil" (top 57))
 (a40:Nm K "through" (top 38))
 (a41:Nm K "work_worth" (top 40))
 (a42:Nm K "worth" (top 39))
 (a43:Nm K "steps_from" (top 27))
 (a44:Nm K "flowing_route" (top 26))
 (a45:Nm K "work_at" (top 20))
 (a46:Nm K "works_on" (top 29))
 (a47:Nm K "take_out" (top 28))
 (a48:Mm K ic "stream" "Net.stream" (inClass (top 17) 8))
 (a49:Nm K "filled_net" (top 36))
 (a50:Nm K "stream_at" (top 33))
 (a51:Nm K "price_at" (top 43))
 (a52:Nm K "step_at" (top 44))
 {zk:Addr}{wn uq:Option Addr}{wf:Array (Option Value)}{wu qu uk qm ng ul:Value}
 (a53:bX K mainGlobals "law"=some (some (.ref zk)))(l53:K.lookup zk=some ⟨wu,wn,.func (cK "law" "law" (jU (top 58)) (i8 (top 58)) (gH (top 58)) .none qu uk qm uq ng ul),wf⟩)(c53:dM K ng "law"=true)(k53:cG K (.ref zk)=true)
 (z60:bX K mainGlobals "len"=some none)
 (z61:bX K mainGlobals "range"=some none)
 (z62:bX K mainGlobals "min"=some none)
 (z63:bX K mainGlobals "int"=some none)
 (z64:bX K mainGlobals "max"=some none)
 (z65:bX K mainGlobals "zip"=some none)
 (z66:bX K mainGlobals "all"=some none)
 (z67:bX K mainGlobals "enumerate"=some none)
 (z68:bX K mainGlobals "sum"=some none)
 (z69:bX K mainGlobals "isinstance"=some none)
 (z70:bX K mainGlobals "bool"=some none)
 (z71:bX K mainGlobals "list"=some none)
 {u60:Tok}(y60:bX K mainGlobals "SOURCE"=some (some (.int 0 u60)))
 {u61:Tok}(y61:bX K mainGlobals "SINK"=some (some (.int 1 u61))):
 ∃fd:FuncData,(∀(s:Shared)(v:Value),BindsTo s fd ⟨[v],[]⟩ [("_law_script",v)])/\∀base:Heap,K.In base->base.Ns mainGlobals mg->mQ l.prog w K mg base CX0 10 fa fd ["_law_script"] (spT K 1 aEm):=by
 have e:=hfa.symm.trans (aOY X G a53);cases e;have cr:iO K "Pipe" "tail":=iO.of h60.e h60.c v60;have di:iO K "Pipe" "head":=iO.of h60.e h60.c v61;have jx:iO K "Pipe" "hours":=iO.of h60.e h60.c v62;have cq:iO K "Pipe" "room":=iO.of h60.e h60.c v63;have cn:iO K "Pipe" "back":=iO.of h60.e h60.c v64;have dw:iO K "Net" "pipes":=iO.of h61.e h61.c v65;have pq:iO K "Net" "places":=iO.of h61.e h61.c v66;have be:=cH X G z60;have bg:=cH X G z61;have dm:=cH X G z62;have ci:=cH X G z63;have jb:=cH X G z64;have nq:=cH X G z65;have xa:=cH X G z66;have uz:=cH X G z67;have ja:=cH X G z68;have ke:=cH X G z69;have wz:=cH X G z70;have kc:=cH X G z71;have ib:∃t,mg "SOURCE"=some (.int 0 t):=⟨_,aOY X G y60⟩;have dv:∃t,mg "SINK"=some (.int 1 t):=⟨_,aOY X G y61⟩
 refine⟨cK "law" "law" (jU (top 58)) (i8 (top 58)) (gH (top 58)) .none qu uk qm uq ng ul,fun s v=>.of_eq rfl,fun base _ _=>?_⟩
 have xT:= @mkT l.prog w K mg base h;have xI:= @mkI l.prog w K mg base h;have lb:= @mkMe l.prog w K mg base;have xS:= @mkS l.prog w K mg base h;have xRc:= @mkRc l.prog w K mg base h;have xM:= @mkM l.prog w K mg base h;have xWc:= @mkWc l.prog w K mg base h;have jl:=xT X G a1 aF5;have gc:=xT X G a2 (aDb be);have d62:=xT X G a3 (aCg jl gc bg dm be);have d63:=xT X G a4 (aFE jl bg);have d64:=xT X G a5 (aCh gc bg ci);have d65:=xT X G a6 (aHM ci);have mx:=xT X G a7 (aMD d62 gc d63 d64 d65 bg dm ci be);have wc:=xT X G a8 (aD6 bg jb be);have mw:=xT X G a9 (aID wc ci);have d71:=xT X G a10 (vH nq);have wb:=xT X G a11 aDD;have jv:=xT X G a12 (vI wb bg);have d69:=xT X G a13 (xQ bg be xa);have d70:=xT X G a14 (aC4 jv d69 be);have d72:=xT X G a15 (aCS d70 jv be jb);have pj:=xT X G a16 (aFA d71 d72 jb);have d74:=xT X G a17 yD;have gz:=xT X G a18 (aA2 pj d74);have d75:=xT X G a19 zL;have d88:=xT X G a20 (aB1 pj d75);have wa:=xI X G h60 a21 (aCU cr di jx cq cn);have mn:=lb h61 a22 (aDO wa cn dw);have pi:=xT X G a23 yM;have ph:=xT X G a24 zT;have F25:=aJS (st:=(inClass (top 17) 0)) l25 c25;have pd:aFv l.prog w K mg base 4 "Net" 4 lT [.int 0] [.int 0]:=⟨⟨ic,uj,_,["self","works","needs","bonus"],[.int 0 py],h61.e,aOY X G h61.e,⟨h61.mi,a25,n25,h61.kp⟩,aDL mn jv pi ph dw pq uz be ja ib dv F25,aDr 3 rfl d25 rfl (fun us hl=>match us,hl with| [_,_,_],_=>⟨_,rfl,rfl⟩),(.cons ⟨_,rfl⟩ .nil)⟩,fun _ _=>(.cons .int .nil)⟩;have pe:=lb h61 a26 (tH dw cn cq);have d81:=xS X G a27 (t7 jx cr di);have mm:=lb h61 a28 (zF pe d81 pq bg dv);have d82:=xS X G a29 (wR cr di);have d84:=xS X G a30 (wU d82 jx di cr ib dv);have d85:=xS X G a31 (aKL cq cn);have d86:=xS X G a32 (aDt cq dm);have oz:=lb h61 a33 (aBS mm d84 d85 pe d86 dv);have d91:=lb h61 a34 (rP mm dv);have zx:=lb h61 a35 (zR cq cn dw cr ja ib);have mv:=xRc X G a36 (aDs gz d88 pd oz d91 zx);have ku:=xT X G a37 (aIT ke ci wz);have ms:=xM X G a38 (aDA ku bg be ke kc);have mr:=xWc X G a39 aDf;have zw:=xT X G a40 (aDJ bg);have zu:=xT X G a41 zV;have mz:=xT X G a42 (aG6 zw zu ja be nq);have vz:=xS X G a43 zS;have vy:=xS X G a44 (t8 vz ib);have zt:=xT X G a45 aDu;have zr:=xS X G a46 (aC9 zt);have nc:=xS X G a47 (aBO dm);have nb:=lb h61 a48 (zX vy zr nc dw cr di cq cn);have na:=xS X G a49 (zU pd oz);have my:=xRc X G a50 (aBi nb gz na);have dh:=xT X G a51 (aBQ mz gz my);have jw:=xT X G a52 (aDw gz dh)
 exact(aMf mx mw mv ms mr jl dh jw gc ku be kc) (aDW l53 c53 k53)
end K51
open PySem PySem.W PyProof.Rows
local macro_rules| `(tactic|walk_at "kN")=>`(tactic| (refine' TL.Nm.of ?a ?l ?c ?k;(case a=>k_is);(case l=>k_is);(case c=>k_is);(case k=>k_is)))
local macro_rules| `(tactic|walk_at "kM")=>`(tactic| (refine' TL.Mm.of ?a ?l ?c ?k ?n;(case a=>k_is);(case l=>k_is);(case c=>k_is);(case k=>k_is);(case n=>k_is)))
local macro_rules| `(tactic|walk_at "kC")=>`(tactic| (refine'⟨?e,⟨?p,?h,?o,?s⟩,?m,?k⟩;(case e=>k_is);(case p=>k_is);(case h=>k_is);(case o=>k_is);(case s=>k_is);(case m=>k_is);(case k=>k_is)))
set_option maxRecDepth 100000 in
set_option maxHeartbeats 0 in
theorem PySem.Challenge.cw_hastebook_k51_corners_holds : PySem.Challenge.rw_hastebook_k51_corners.Holds := by
 refine holds_law (by decide+kernel) fun said=>?_;refine holds_open (q:=HT.vw) (YP:=Hook.says (kHook HT.KH HT.KA HT.ka)) (N:=4080) HT.left (Hook.of (kHook HT.KH HT.KA HT.ka)) (Hook.keeps _) HT.xs XL.keeps rfl rfl rfl HT.rs rfl (by first|assumption|decide+kernel) (by decide+kernel) ⟨rfl,rfl,rfl,rfl,rfl,by decide+kernel⟩ ?hw ?hc;(case hw=>w_witness2)
 k_fill
 refine TL.aGd (l:=PySem.Challenge.rw_hastebook_k51_corners) (x:="_law_script") (R:=K51.aEm) (k:=10) rfl rfl ⟨rfl,by decide,by decide⟩ (fun w h Y=>PySem.W.kIn_of Y) K51.aI8 ?F
 case F=>
  intro w mg fa h KX G yj;refine' K51.aNj KX G yj ?h60 ?h61 ?v60 ?v61 ?v62 ?v63 ?v64 ?v65 ?v66 ?a1 ?a2 ?a3 ?a4 ?a5 ?a6 ?a7 ?a8 ?a9 ?a10 ?a11 ?a12 ?a13 ?a14 ?a15 ?a16 ?a17 ?a18 ?a19 ?a20 ?a21 ?a22 ?a23 ?a24 ?a25 ?l25 ?c25 ?k25 ?n25 ?d25 ?a26 ?a27 ?a28 ?a29 ?a30 ?a31 ?a32 ?a33 ?a34 ?a35 ?a36 ?a37 ?a38 ?a39 ?a40 ?a41 ?a42 ?a43 ?a44 ?a45 ?a46 ?a47 ?a48 ?a49 ?a50 ?a51 ?a52 ?a53 ?l53 ?c53 ?k53 ?z60 ?z61 ?z62 ?z63 ?z64 ?z65 ?z66 ?z67 ?z68 ?z69 ?z70 ?z71 ?y60 ?y61
  (case h60=>walk_at "kC")
  (case h61=>walk_at "kC")
  (case v60=>k_is)
  (case v61=>k_is)
  (case v62=>k_is)
  (case v63=>k_is)
  (case v64=>k_is)
  (case v65=>k_is)
  (case v66=>k_is)
  (case a1=>walk_at "kN")
  (case a2=>walk_at "kN")
  (case a3=>walk_at "kN")
  (case a4=>walk_at "kN")
  (case a5=>walk_at "kN")
  (case a6=>walk_at "kN")
  (case a7=>walk_at "kN")
  (case a8=>walk_at "kN")
  (case a9=>walk_at "kN")
  (case a10=>walk_at "kN")
  (case a11=>walk_at "kN")
  (case a12=>walk_at "kN")
  (case a13=>walk_at "kN")
  (case a14=>walk_at "kN")
  (case a15=>walk_at "kN")
  (case a16=>walk_at "kN")
  (case a17=>walk_at "kN")
  (case a18=>walk_at "kN")
  (case a19=>walk_at "kN")
  (case a20=>walk_at "kN")
  (case a21=>walk_at "kM")
  (case a22=>walk_at "kM")
  (case a23=>walk_at "kN")
  (case a24=>walk_at "kN")
  (case a25=>k_is)
  (case l25=>k_is)
  (case c25=>k_is)
  (case k25=>k_is)
  (case n25=>k_is)
  (case d25=>k_is)
  (case a26=>walk_at "kM")
  (case a27=>walk_at "kN")
  (case a28=>walk_at "kM")
  (case a29=>walk_at "kN")
  (case a30=>walk_at "kN")
  (case a31=>walk_at "kN")
  (case a32=>walk_at "kN")
  (case a33=>walk_at "kM")
  (case a34=>walk_at "kM")
  (case a35=>walk_at "kM")
  (case a36=>walk_at "kN")
  (case a37=>walk_at "kN")
  (case a38=>walk_at "kN")
  (case a39=>walk_at "kN")
  (case a40=>walk_at "kN")
  (case a41=>walk_at "kN")
  (case a42=>walk_at "kN")
  (case a43=>walk_at "kN")
  (case a44=>walk_at "kN")
  (case a45=>walk_at "kN")
  (case a46=>walk_at "kN")
  (case a47=>walk_at "kN")
  (case a48=>walk_at "kM")
  (case a49=>walk_at "kN")
  (case a50=>walk_at "kN")
  (case a51=>walk_at "kN")
  (case a52=>walk_at "kN")
  (case a53=>k_is)
  (case l53=>k_is)
  (case c53=>k_is)
  (case k53=>k_is)
  (case z60=>k_is)
  (case z61=>k_is)
  (case z62=>k_is)
  (case z63=>k_is)
  (case z64=>k_is)
  (case z65=>k_is)
  (case z66=>k_is)
  (case z67=>k_is)
  (case z68=>k_is)
  (case z69=>k_is)
  (case z70=>k_is)
  (case z71=>k_is)
  (case y60=>k_is)
  (case y61=>k_is)
