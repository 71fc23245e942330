import PyProof.Rows.All
import Wide.All
import OpenK.AllK
import Wide.FinOn
import Lean
import PyProof.EqAt
import PyProof.EqKinds
import PyProof.TupleCall
import PyProof.ExcClass3
import PyProof.NeKinds
import PyProof.ZipIter
import PyProof.ExcArgsOwn
import PyProof.EnumFor
import PyProof.EnumMake
import PyProof.DictUpdate
import PyProof.DictWalks
import PySem.Challenge.RW_hastebook_k93_whole_works_changed
open Option renaming bind_eq_some_iff->aK,map_eq_some_iff->aL,bind_some->aX,getD_some->b8,some->cH,isSome_iff_exists->cU,toList_some->dO,map_some->aOP,isSome_map->aPi,getD_none->aP0,none->aQu
open List renaming map_cons->aM,length_cons->aN,length_map->aP,length_nil->aQ,getElem?_eq_some_iff->aR,replicate->aS,cons_append->aT,getElem?_set_ne->aU,append_nil->aV,nil_append->aW,getElem?_append_left->aY,mem_cons_of_mem->aZ,length_append->bA,map_nil->bB,getElem?_eq_getElem->bC,mem_of_getElem?->bD,mem_cons->bE,size_toArray->bF,getElem?_append_right->bH,mem_map->bI,mem_cons_self->bJ,mem_append->bK,range->bL,getElem?_map->bM,mem_singleton->bO,getElem?_cons_zero->bP,getElem?_set_self->bQ,getElem?_cons_succ->bR,mem_iff_getElem?->bT,map_append->bV,nodup_cons->bY,lookup_cons->b6,map_map->b7,set_append_right->cC,mem_append_right->cF,zip_cons_cons->cG,getD_eq_getElem?_getD->cI,map_congr_left->cL,length_set->cM,not_mem_nil->cN,mem_filter->cQ,getElem?_replicate->cS,mem_map_of_mem->cY,append_assoc->cZ,mem_range->c7,take_length->dA,set->dC,getElem?_eq_none->dE,getElem?_take_of_lt->dF,find?_cons->dG,length_zip->dJ,length_filter_le->dM,mem_append_left->dR,lookup->dS,getElem?_range->dY,take_of_length_le->dZ,idxOf_lt_length_of_mem->d0,sum_cons->d4,length_take->d7,getElem_mem->d8,getElem?_zip_eq_some->eA,nodup_append->eC,take_add_one->eE,nodup_iff_count->eG,length_pos_iff->eJ,filter_cons->eO,getElem_map->eP,getElem_range->eQ,drop_eq_nil_of_le->eR,set_set->aOv,count_cons->aOy,length_replicate->aOz,set_getElem_self->aOA,getElem?_inj->aOB,all_eq_true->aOF,drop_eq_getElem_cons->aOJ,filterMap_cons->aOK,length_erase_of_mem->aON,of_mem_zip->aOO,range_succ_eq_map->aOS,take_succ->aOT,getElem_inj->aOU,length_drop->aOW,any_cons->aOY,getElem?_zipIdx->aOZ,mem_of_mem_take->aO1,foldl_cons->aO4,sum_append->aO5,map_eq_nil_iff->aO7,count_eq_zero->aPc,getElem_idxOf->aPd,mem_or_eq_of_mem_set->aPe,length_range->aPk,ext_getElem->aPo,length_singleton->aPv,take_append_drop->aPw,mem_of_mem_drop->aPC,set_append_left->aPD,count_singleton->aPE,take_succ_cons->aPG,mem_filterMap->aPJ,foldl->aPK,filterMap_map->aPL,map_replicate->aPM,length_zipIdx->aPN,count_pos_iff->aPO,ext_getElem?->aPR,count_append->aPS,map->aPT,pairwise_map->aPV,any_eq_true->aP1,length->aP3,map_const'->aP5,range_succ->aP6,nodup_nil->aP7,drop_zero->aP8,map_drop->aQc,map_take->aQd,cons->aQe,all_map->aQh,map_set->aQm,tail->aQz,sum->aQB
open PySem.W renaming Frag->aO,findIn->bU,nsIn->bZ,mg_none_of->cJ,fnOf->cP,keepIn->cR,kitOne->c8,emptyDict->dD,codeIn->dU,instObj->dW,kia_one->aOx,mroIn->aOL,mg_of->aOM,isFn->aOR,plainGet->aOV,plainGet_of->aO6,lookIn->aPa,callWith_K->aPb,methodObj->aPf,hasDictIn->aPg,cellsFrom_some->aPp,takerIn->aPr,makesIn->aPs,methodCall_KW->aPu,typeIn->aPz,kl_ins->aPA,excIn->aPH,plainOver->aPQ,handedIn->aPY,OpenLaw->aP4,subIn->aQb
open Nat renaming le_refl->bG,lt_of_lt_of_le->bS,ne_of_lt->bX,le_trans->cA,lt_irrefl->cV,sub_self->dH,zero_le->d3,lt_succ_self->eK,le_add_right->eL,zero_add->aOG,lt_of_le_of_lt->aOQ,le_of_not_lt->aOX,pow_le_pow_right->aO0,lt_succ_of_lt->aPh,add_assoc->aPm,min_eq_right->aPn,lt_trans->aPq,min_eq_left->aPt,mul_le_mul_right->aPF,le_of_lt->aPP,le_of_eq->aQg,add_zero->aQk,pow_succ->aQl,sub_zero->aQn,le_succ->aQt,log2_lt->aQv
open Int renaming toNat_of_nonneg->bN,mul_le_mul_of_nonneg_left->bW,le_refl->b4,toNat_natCast->cE,le_of_lt->cK,mul_nonneg->cO,lt_of_le_of_lt->cT,mul_sub->c9,lt_trans->dB,emod_lt_of_pos->dN,mul_le_mul_of_nonneg_right->dP,le_trans->dQ,emod_nonneg->dX,mul_le_mul->d9,le_antisymm->eB,toNat->eN,mul_zero->aOt,zero_mul->aOu,mul_add->aOD,zero_add->aOH,sub_zero->aOI,sub_mul->aO2,add_mul->aO3,add_zero->aO8,fdiv_eq_ediv_of_nonneg->aO9,mul_left_comm->aPl,natAbs_of_nonneg->aPB,le_of_eq->aPU,pow_succ->aPW,emod_eq_of_lt->aPX,natCast_succ->aP2,ofNat_lt->aQj,sub_self->aQo,mul_one->aQs,one_mul->aQw,not_le->aQx
open Bool renaming false_ne_true->b5,false_eq_true->cD,and_true->cW,and_self->cX,eq_iff_iff->aOw,and_eq_true_iff->aOC,and_eq_true->aOE,false_and->aPy
open Array renaming length_toList->b9,mk->aPx,append_assoc->aPI
open Classical renaming byContradiction->cB,choose_spec->dL,axiomOfChoice->aQf,choose->aQA
open PyProof.Rows renaming callWith_type1->dI,callWith_builtin1->aPZ,callWith_kw->aQa,iadd_int->aQp,isub_int->aQq
open Function renaming comp->eI
open Iff renaming rfl->aPj
open Or renaming inr->aP9,inl->aQi
open Prod renaming ext->aQr,mk->aQy
set_option hygiene false in
local macro_rules|`(tactic|walk_at "a")=>`(tactic|(first | exact j5 (by lia) | lia | (simp only [aP, bA, aN, aQ, lim]; lia) | (first | (apply gB <;> lia) | (apply gM <;> lia) | (apply fZ; assumption) | (apply f8; assumption)) | decide))
set_option hygiene false in
local macro_rules|`(tactic|walk_at "b")=>`(tactic|(simp only [st0, aM, bB, aN, aQ, Nat.reduceAdd, Nat.reduceSub, aS, aV, aT, aW]))
set_option hygiene false in
local macro_rules|`(tactic|walk_at "c")=>`(tactic|(simp only [fH, f7, fY, kY, fW, j8, gZ, cW, cX]))
set_option Elab.async false
set_option linter.all false
set_option bootstrap.genMatcherCode false
set_option compiler.extract_closed false
namespace L2
open PySem
def jM(s:Stmt):Arguments:=match s with
 | .FunctionDef _ a _ _ _ _ _ _ _ _=>a
 |_=>{posonlyargs:=[],args:=[],vararg:=none,kwonlyargs:=[],kw_defaults:=[],kwarg:=none,defaults:=[]}
def iZ(s:Stmt):List Stmt:=match s with
 | .FunctionDef _ _ b _ _ _ _ _ _ _=>b
 |_=>[]
def f9(s:Stmt):Scope:=match s with
 | .FunctionDef _ _ _ _ _ _ sc _ _ _=>sc
 |_=>{kind:=.function,names:=[],isGenerator:=false,isCoroutine:=false}
def inClass(s:Stmt)(j:Nat):Stmt:=match s with
 | .ClassDef _ _ _ body _ _ _ _ _ _ _=>body.getD j (.Pass ⟨0,0,0,0⟩)
 |_=>.Pass ⟨0,0,0,0⟩
end L2
namespace HT
open PySem PySem.W PyProof.Rows
abbrev so(x:String):Str:=Str.ofString x
abbrev de:=PySem.DictEntry.mk
abbrev ob:=PySem.Obj.mk
abbrev kh:=PySem.PyData.keyHash
abbrev vs(x:String)(n:Tok):Value:=.str (so x) n
abbrev vi(i:Int):Value:=.int i 0
abbrev vr(a:Addr):Value:=.ref a
abbrev vn:Value:=.none
abbrev vb:Value:=.bool true
abbrev vt(x:String):Value:=.type x
abbrev dx(P:Params)(x:String)(n:Tok)(v:Value):DictEntry:=.mk (kh P (so x)) (vs x n) v
abbrev oc(x q:String)(i j k:Tok)(l a b:Int)(r:Addr)(h:Int)(s t u v:Addr)(z m:Int)(n:Tok):Obj:=ob (vt "code") none (Data.fields #[vs x i,vs q j,vs "/claim/cut.py" k,vi l,vi a,vi 0,vi 0,vi b,vr r,vb,vi h,vr s,vn,vr t,vr u,vr v,vi z,vi m,vs "/claim/cut.py" n]) #[]
open L2 (jM iZ f9 inClass)
abbrev PR:Program:=PySem.Challenge.pw_hastebook_k93_whole_works_changed
def top(i:Nat):Stmt:=PR.main.body.getD i (.Pass ⟨0,0,0,0⟩)
abbrev of(x q:String)(s:Stmt)(p:String)(n:Tok)(c:Addr):Obj:=ob (vt "function") none (Data.func (cP x q (jM s) (iZ s) (f9 s) vn vn vn (vs p n) none (vr c) vn)) #[]
noncomputable def KH:Params->aO:=fun P=>
 (nat_lit 2,ob vn none (Data.dict #[]) #[])::
 (nat_lit 3,ob (vt "dict") none (Data.dict #[dx P "__name__" 165 (vs "law_hastebook_k93_whole_works_changed" 581),dx P "__doc__" 166 vn,dx P "__package__" 167 vn,dx P "__loader__" 168 (Value.builtin "__main__.__loader__#opaque"),dx P "__spec__" 169 vn,dx P "__annotations__" 170 (vr 6),dx P "__builtins__" 171 (vr 4),dx P "__file__" 173 (vs "/claim/cut.py" 172),dx P "__cached__" 174 vn,dx P "_wall" 193 (vr 21),dx P "BookError" 213 (vr 31),dx P "NoOrder" 229 (vr 44),dx P "order_of" 241 (vr 53),dx P "is_work" 249 (vr 60),dx P "needed_works" 255 (vr 65),dx P "least_ready" 261 (vr 70),dx P "earliest" 269 (vr 75),dx P "length" 277 (vr 82),dx P "done_moments" 283 (vr 87),dx P "SOURCE" 287 (Value.int 0 286),dx P "SINK" 289 (Value.int 1 288),dx P "Pipe" 325 (vr 104),dx P "Net" 422 (vr 174),dx P "begin_place" 429 (vr 185),dx P "done_place" 436 (vr 192),dx P "work_at" 443 (vr 199),dx P "raise_moments" 454 (vr 206),dx P "tight_route" 460 (vr 211),dx P "next_routes" 470 (vr 218),dx P "room_on" 476 (vr 223),dx P "pour" 485 (vr 230),dx P "flowing_route" 494 (vr 237),dx P "steps_from" 500 (vr 242),dx P "take_out" 506 (vr 247),dx P "works_on" 512 (vr 252),dx P "least_end" 522 (vr 259),dx P "stream_at" 531 (vr 266),dx P "least_hours" 537 (vr 271),dx P "filled_net" 547 (vr 278),dx P "through" 555 (vr 283),dx P "worth" 561 (vr 288),dx P "work_worth" 569 (vr 295),dx P "price_at" 580 (vr 302),dx P "_law_whole" 589 (vr 309),dx P "_law_cell_at" 597 (vr 316),dx P "_law_mixed" 606 (vr 323),dx P "_law_names" 616 (vr 330),dx P "_law_numbers" 622 (vr 335),dx P "_law_work" 636 (vr 342),dx P "_law_lot_free" 654 (vr 349),dx P "_law_lot" 660 (vr 354),dx P "_law_length" 666 (vr 359),dx P "_law_ends" 672 (vr 364),dx P "_law_leads" 678 (vr 369),dx P "_law_amid" 689 (vr 376),dx P "_law_dearer" 703 (vr 383),dx P "_law_more" 720 (vr 390),dx P "law" 726 (vr 395)] 58) #[])::
 (nat_lit 22,ob (vt "tuple") none (Data.seq #[vt "ValueError"]) #[])::
 (nat_lit 29,ob (vt "tuple") none (Data.seq #[]) #[])::
 (nat_lit 30,ob (vt "dict") none (Data.dict #[dx P "__module__" 203 (vs "hastebook.errors" 194),dx P "__firstlineno__" 207 (Value.int 5 206),dx P "__static_attributes__" 208 (vr 29),dx P "__weakref__" 210 (vr 32),dx P "__doc__" 211 vn] 3) #[])::
 (nat_lit 31,ob (vt "type") none (Data.cls (PySem.ClassData.mk (so "BookError") [vt "ValueError"] [vr 31,vt "ValueError",vt "Exception",vt "BaseException",vt "object"] 30 (so "BookError") true [] [vr 44] false none false)) #[some (vr 22),none,some (vs "BookError" 196),some (vs "BookError" 204),some (Value.builtin "ValueError.__new__"),some (vb)])::
 (nat_lit 32,ob (vt "getset_descriptor") none (Data.fields #[vs "__weakref__" 209,vr 31,Value.builtin "ExceptionGroup.__weakref__",vn]) #[])::
 (nat_lit 35,ob (vt "tuple") none (Data.seq #[vr 31]) #[])::
 (nat_lit 42,ob (vt "tuple") none (Data.seq #[]) #[])::
 (nat_lit 43,ob (vt "dict") none (Data.dict #[dx P "__module__" 221 (vs "hastebook.errors" 194),dx P "__firstlineno__" 225 (Value.int 7 224),dx P "__static_attributes__" 226 (vr 42),dx P "__doc__" 227 vn] 2) #[])::
 (nat_lit 44,ob (vt "type") none (Data.cls (PySem.ClassData.mk (so "NoOrder") [vr 31] [vr 44,vr 31,vt "ValueError",vt "Exception",vt "BaseException",vt "object"] 43 (so "NoOrder") true [] [] false none false)) #[some (vr 35),none,some (vs "NoOrder" 214),some (vs "NoOrder" 222),some (Value.builtin "ValueError.__new__"),some (vb)])::
 (nat_lit 52,oc "order_of" "order_of" 232 233 234 10 2 3 47 181 48 49 50 51 239 10 240)::
 (nat_lit 53,of "order_of" "order_of" (top 5) "hastebook.needs" 230 52)::
 (nat_lit 59,oc "is_work" "is_work" 242 243 244 16 2 3 54 181 55 56 57 58 247 16 248)::
 (nat_lit 60,of "is_work" "is_work" (top 6) "hastebook.needs" 230 59)::
 (nat_lit 64,ob (vt "code") none (Data.fields #[vs "needed_works" 250,vs "needed_works" 251,vs "/claim/cut.py" 252,vi 18,vi 2,vi 0,vi 0,vi 3,vr 61,vb,vi 181,vr 62,vn,vn,vn,vr 63,vi 253,vi 18,vs "/claim/cut.py" 254]) #[])::
 (nat_lit 65,of "needed_works" "needed_works" (top 7) "hastebook.needs" 230 64)::
 (nat_lit 69,ob (vt "code") none (Data.fields #[vs "least_ready" 256,vs "least_ready" 257,vs "/claim/cut.py" 258,vi 26,vi 2,vi 0,vi 0,vi 3,vr 66,vb,vi 181,vr 67,vn,vn,vn,vr 68,vi 259,vi 26,vs "/claim/cut.py" 260]) #[])::
 (nat_lit 70,of "least_ready" "least_ready" (top 8) "hastebook.needs" 230 69)::
 (nat_lit 74,ob (vt "code") none (Data.fields #[vs "earliest" 264,vs "earliest" 265,vs "/claim/cut.py" 266,vi 32,vi 2,vi 0,vi 0,vi 3,vr 71,vb,vi 181,vr 72,vn,vn,vn,vr 73,vi 267,vi 32,vs "/claim/cut.py" 268]) #[])::
 (nat_lit 75,of "earliest" "earliest" (top 10) "hastebook.moments" 262 74)::
 (nat_lit 81,oc "length" "length" 270 271 272 39 2 3 76 181 77 78 79 80 275 39 276)::
 (nat_lit 82,of "length" "length" (top 11) "hastebook.moments" 262 81)::
 (nat_lit 86,ob (vt "code") none (Data.fields #[vs "done_moments" 278,vs "done_moments" 279,vs "/claim/cut.py" 280,vi 41,vi 2,vi 0,vi 0,vi 3,vr 83,vb,vi 181,vr 84,vn,vn,vn,vr 85,vi 281,vi 41,vs "/claim/cut.py" 282]) #[])::
 (nat_lit 87,of "done_moments" "done_moments" (top 12) "hastebook.moments" 262 86)::
 (nat_lit 100,oc "__init__" "Pipe.__init__" 302 303 304 48 5 3 95 181 96 97 98 99 310 48 311)::
 (nat_lit 101,of "__init__" "Pipe.__init__" (inClass (top 16) 0) "hastebook.nets" 284 100)::
 (nat_lit 102,ob (vt "tuple") none (Data.seq #[vs "back" 313,vs "head" 314,vs "hours" 315,vs "room" 316,vs "tail" 317]) #[])::
 (nat_lit 103,ob (vt "dict") none (Data.dict #[dx P "__module__" 297 (vs "hastebook.nets" 284),dx P "__firstlineno__" 301 (Value.int 46 300),dx P "__init__" 312 (vr 101),dx P "__static_attributes__" 318 (vr 102),dx P "__dict__" 320 (vr 105),dx P "__weakref__" 322 (vr 106),dx P "__doc__" 323 vn] 4) #[])::
 (nat_lit 104,ob (vt "type") none (Data.cls (PySem.ClassData.mk (so "Pipe") [vt "object"] [vr 104,vt "object"] 103 (so "Pipe") true [] [] false none false)) #[none,none,some (vs "Pipe" 290),some (vs "Pipe" 298),some (Value.builtin "object.__new__"),some (vb)])::
 (nat_lit 105,ob (vt "getset_descriptor") none (Data.fields #[vs "__dict__" 319,vr 104,Value.builtin "function.__dict__",Value.builtin "function.__dict__#set"]) #[])::
 (nat_lit 106,ob (vt "getset_descriptor") none (Data.fields #[vs "__weakref__" 321,vr 104,Value.builtin "ExceptionGroup.__weakref__",vn]) #[])::
 (nat_lit 116,ob (vt "tuple") none (Data.seq #[Value.int 0 338]) #[])::
 (nat_lit 120,ob (vt "code") none (Data.fields #[vs "__init__" 339,vs "Net.__init__" 340,vs "/claim/cut.py" 341,vi 56,vi 4,vi 0,vi 0,vi 3,vr 117,vb,vi 181,vr 118,vn,vn,vn,vr 119,vi 342,vi 56,vs "/claim/cut.py" 343]) #[])::
 (nat_lit 121,ob (vt "function") (none) (Data.func (cP "__init__" "Net.__init__" (jM (inClass (top 17) 0)) (iZ (inClass (top 17) 0)) (f9 (inClass (top 17) 0)) (vr 116) (vn) (vn) (vs "hastebook.nets" 284) (none) (vr 120) (vn))) (#[]))::
 (nat_lit 127,oc "lay" "Net.lay" 345 346 347 69 5 3 122 181 123 124 125 126 355 69 356)::
 (nat_lit 128,of "lay" "Net.lay" (inClass (top 17) 1) "hastebook.nets" 284 127)::
 (nat_lit 134,oc "fill" "Net.fill" 358 359 360 76 2 3 129 181 130 131 132 133 365 76 366)::
 (nat_lit 135,of "fill" "Net.fill" (inClass (top 17) 2) "hastebook.nets" 284 134)::
 (nat_lit 146,ob (vt "code") none (Data.fields #[vs "moments" 376,vs "Net.moments" 377,vs "/claim/cut.py" 378,vi 86,vi 2,vi 0,vi 0,vi 3,vr 143,vb,vi 181,vr 144,vn,vn,vn,vr 145,vi 379,vi 86,vs "/claim/cut.py" 380]) #[])::
 (nat_lit 147,of "moments" "Net.moments" (inClass (top 17) 4) "hastebook.nets" 284 146)::
 (nat_lit 158,ob (vt "code") none (Data.fields #[vs "open_pipes" 389,vs "Net.open_pipes" 390,vs "/claim/cut.py" 391,vi 97,vi 1,vi 0,vi 0,vi 3,vr 155,vb,vi 181,vr 156,vn,vn,vn,vr 157,vi 392,vi 97,vs "/claim/cut.py" 393]) #[])::
 (nat_lit 159,of "open_pipes" "Net.open_pipes" (inClass (top 17) 6) "hastebook.nets" 284 158)::
 (nat_lit 170,oc "stream" "Net.stream" 401 402 403 104 1 3 165 181 166 167 168 169 410 104 411)::
 (nat_lit 171,of "stream" "Net.stream" (inClass (top 17) 8) "hastebook.nets" 284 170)::
 (nat_lit 172,ob (vt "tuple") none (Data.seq #[vs "pipes" 413,vs "places" 414]) #[])::
 (nat_lit 173,ob (vt "dict") none (Data.dict #[dx P "__module__" 333 (vs "hastebook.nets" 284),dx P "__firstlineno__" 337 (Value.int 54 336),dx P "__init__" 344 (vr 121),dx P "lay" 357 (vr 128),dx P "fill" 367 (vr 135),dx P "lead" 375 (vr 142),dx P "moments" 381 (vr 147),dx P "open_length" 388 (vr 154),dx P "open_pipes" 394 (vr 159),dx P "amount" 400 (vr 164),dx P "stream" 412 (vr 171),dx P "__static_attributes__" 415 (vr 172),dx P "__dict__" 417 (vr 175),dx P "__weakref__" 419 (vr 176),dx P "__doc__" 420 vn] 4) #[])::
 (nat_lit 174,ob (vt "type") none (Data.cls (PySem.ClassData.mk (so "Net") [vt "object"] [vr 174,vt "object"] 173 (so "Net") true [] [] false none false)) #[none,none,some (vs "Net" 326),some (vs "Net" 334),some (Value.builtin "object.__new__"),some (vb)])::
 (nat_lit 175,ob (vt "getset_descriptor") none (Data.fields #[vs "__dict__" 416,vr 174,Value.builtin "function.__dict__",Value.builtin "function.__dict__#set"]) #[])::
 (nat_lit 176,ob (vt "getset_descriptor") none (Data.fields #[vs "__weakref__" 418,vr 174,Value.builtin "ExceptionGroup.__weakref__",vn]) #[])::
 (nat_lit 184,oc "begin_place" "begin_place" 423 424 425 115 1 3 179 181 180 181 182 183 427 115 428)::
 (nat_lit 185,of "begin_place" "begin_place" (top 18) "hastebook.nets" 284 184)::
 (nat_lit 191,oc "done_place" "done_place" 430 431 432 117 1 3 186 181 187 188 189 190 434 117 435)::
 (nat_lit 192,of "done_place" "done_place" (top 19) "hastebook.nets" 284 191)::
 (nat_lit 198,oc "work_at" "work_at" 437 438 439 119 1 3 193 181 194 195 196 197 441 119 442)::
 (nat_lit 199,of "work_at" "work_at" (top 20) "hastebook.nets" 284 198)::
 (nat_lit 205,oc "raise_moments" "raise_moments" 444 445 446 121 2 3 200 181 201 202 203 204 452 121 453)::
 (nat_lit 206,of "raise_moments" "raise_moments" (top 21) "hastebook.nets" 284 205)::
 (nat_lit 210,ob (vt "code") none (Data.fields #[vs "tight_route" 455,vs "tight_route" 456,vs "/claim/cut.py" 457,vi 129,vi 2,vi 0,vi 0,vi 3,vr 207,vb,vi 181,vr 208,vn,vn,vn,vr 209,vi 458,vi 129,vs "/claim/cut.py" 459]) #[])::
 (nat_lit 211,of "tight_route" "tight_route" (top 22) "hastebook.nets" 284 210)::
 (nat_lit 217,oc "next_routes" "next_routes" 461 462 463 135 2 3 212 181 213 214 215 216 468 135 469)::
 (nat_lit 218,of "next_routes" "next_routes" (top 23) "hastebook.nets" 284 217)::
 (nat_lit 222,ob (vt "code") none (Data.fields #[vs "room_on" 471,vs "room_on" 472,vs "/claim/cut.py" 473,vi 141,vi 1,vi 0,vi 0,vi 3,vr 219,vb,vi 181,vr 220,vn,vn,vn,vr 221,vi 474,vi 141,vs "/claim/cut.py" 475]) #[])::
 (nat_lit 223,of "room_on" "room_on" (top 24) "hastebook.nets" 284 222)::
 (nat_lit 229,oc "pour" "pour" 477 478 479 143 2 3 224 181 225 226 227 228 483 143 484)::
 (nat_lit 230,of "pour" "pour" (top 25) "hastebook.nets" 284 229)::
 (nat_lit 236,oc "flowing_route" "flowing_route" 486 487 488 147 1 3 231 181 232 233 234 235 492 147 493)::
 (nat_lit 237,of "flowing_route" "flowing_route" (top 26) "hastebook.nets" 284 236)::
 (nat_lit 241,ob (vt "code") none (Data.fields #[vs "steps_from" 495,vs "steps_from" 496,vs "/claim/cut.py" 497,vi 154,vi 2,vi 0,vi 0,vi 3,vr 238,vb,vi 181,vr 239,vn,vn,vn,vr 240,vi 498,vi 154,vs "/claim/cut.py" 499]) #[])::
 (nat_lit 242,of "steps_from" "steps_from" (top 27) "hastebook.nets" 284 241)::
 (nat_lit 246,ob (vt "code") none (Data.fields #[vs "take_out" 501,vs "take_out" 502,vs "/claim/cut.py" 503,vi 156,vi 2,vi 0,vi 0,vi 3,vr 243,vb,vi 181,vr 244,vn,vn,vn,vr 245,vi 504,vi 156,vs "/claim/cut.py" 505]) #[])::
 (nat_lit 247,of "take_out" "take_out" (top 28) "hastebook.nets" 284 246)::
 (nat_lit 251,ob (vt "code") none (Data.fields #[vs "works_on" 507,vs "works_on" 508,vs "/claim/cut.py" 509,vi 161,vi 1,vi 0,vi 0,vi 3,vr 248,vb,vi 181,vr 249,vn,vn,vn,vr 250,vi 510,vi 161,vs "/claim/cut.py" 511]) #[])::
 (nat_lit 252,of "works_on" "works_on" (top 29) "hastebook.nets" 284 251)::
 (nat_lit 258,oc "least_end" "least_end" 515 516 517 164 2 3 253 181 254 255 256 257 520 164 521)::
 (nat_lit 259,of "least_end" "least_end" (top 31) "hastebook.haste" 513 258)::
 (nat_lit 265,oc "stream_at" "stream_at" 523 524 525 166 3 3 260 181 261 262 263 264 529 166 530)::
 (nat_lit 266,of "stream_at" "stream_at" (top 32) "hastebook.haste" 513 265)::
 (nat_lit 270,ob (vt "code") none (Data.fields #[vs "least_hours" 532,vs "least_hours" 533,vs "/claim/cut.py" 534,vi 170,vi 1,vi 0,vi 0,vi 3,vr 267,vb,vi 181,vr 268,vn,vn,vn,vr 269,vi 535,vi 170,vs "/claim/cut.py" 536]) #[])::
 (nat_lit 271,of "least_hours" "least_hours" (top 33) "hastebook.haste" 513 270)::
 (nat_lit 277,oc "filled_net" "filled_net" 538 539 540 172 3 3 272 181 273 274 275 276 545 172 546)::
 (nat_lit 278,of "filled_net" "filled_net" (top 34) "hastebook.haste" 513 277)::
 (nat_lit 282,ob (vt "code") none (Data.fields #[vs "through" 550,vs "through" 551,vs "/claim/cut.py" 552,vi 177,vi 2,vi 0,vi 0,vi 3,vr 279,vb,vi 181,vr 280,vn,vn,vn,vr 281,vi 553,vi 177,vs "/claim/cut.py" 554]) #[])::
 (nat_lit 283,of "through" "through" (top 36) "hastebook.streams" 548 282)::
 (nat_lit 287,ob (vt "code") none (Data.fields #[vs "worth" 556,vs "worth" 557,vs "/claim/cut.py" 558,vi 183,vi 3,vi 0,vi 0,vi 3,vr 284,vb,vi 181,vr 285,vn,vn,vn,vr 286,vi 559,vi 183,vs "/claim/cut.py" 560]) #[])::
 (nat_lit 288,of "worth" "worth" (top 37) "hastebook.streams" 548 287)::
 (nat_lit 294,oc "work_worth" "work_worth" 562 563 564 187 2 3 289 181 290 291 292 293 567 187 568)::
 (nat_lit 295,of "work_worth" "work_worth" (top 38) "hastebook.streams" 548 294)::
 (nat_lit 301,oc "price_at" "price_at" 572 573 574 192 3 3 296 181 297 298 299 300 578 192 579)::
 (nat_lit 302,of "price_at" "price_at" (top 40) "hastebook.curves" 570 301)::
 (nat_lit 308,oc "_law_whole" "_law_whole" 583 584 585 197 1 3 303 181 304 305 306 307 587 197 588)::
 (nat_lit 309,of "_law_whole" "_law_whole" (top 42) "law_hastebook_k93_whole_works_changed" 581 308)::
 (nat_lit 315,oc "_law_cell_at" "_law_cell_at" 590 591 592 199 2 3 310 181 311 312 313 314 595 199 596)::
 (nat_lit 316,of "_law_cell_at" "_law_cell_at" (top 43) "law_hastebook_k93_whole_works_changed" 581 315)::
 (nat_lit 322,oc "_law_mixed" "_law_mixed" 598 599 600 203 2 3 317 181 318 319 320 321 604 203 605)::
 (nat_lit 323,of "_law_mixed" "_law_mixed" (top 44) "law_hastebook_k93_whole_works_changed" 581 322)::
 (nat_lit 329,oc "_law_names" "_law_names" 607 608 609 207 2 3 324 181 325 326 327 328 614 207 615)::
 (nat_lit 330,of "_law_names" "_law_names" (top 45) "law_hastebook_k93_whole_works_changed" 581 329)::
 (nat_lit 334,ob (vt "code") none (Data.fields #[vs "_law_numbers" 617,vs "_law_numbers" 618,vs "/claim/cut.py" 619,vi 212,vi 1,vi 0,vi 0,vi 3,vr 331,vb,vi 181,vr 332,vn,vn,vn,vr 333,vi 620,vi 212,vs "/claim/cut.py" 621]) #[])::
 (nat_lit 335,of "_law_numbers" "_law_numbers" (top 46) "law_hastebook_k93_whole_works_changed" 581 334)::
 (nat_lit 341,oc "_law_work" "_law_work" 623 624 625 218 5 3 336 181 337 338 339 340 634 218 635)::
 (nat_lit 342,of "_law_work" "_law_work" (top 47) "law_hastebook_k93_whole_works_changed" 581 341)::
 (nat_lit 348,oc "_law_lot_free" "_law_lot_free" 637 638 639 232 3 3 343 181 344 345 346 347 652 232 653)::
 (nat_lit 349,of "_law_lot_free" "_law_lot_free" (top 48) "law_hastebook_k93_whole_works_changed" 581 348)::
 (nat_lit 353,ob (vt "code") none (Data.fields #[vs "_law_lot" 655,vs "_law_lot" 656,vs "/claim/cut.py" 657,vi 254,vi 3,vi 0,vi 0,vi 3,vr 350,vb,vi 181,vr 351,vn,vn,vn,vr 352,vi 658,vi 254,vs "/claim/cut.py" 659]) #[])::
 (nat_lit 354,of "_law_lot" "_law_lot" (top 49) "law_hastebook_k93_whole_works_changed" 581 353)::
 (nat_lit 358,ob (vt "code") none (Data.fields #[vs "_law_length" 661,vs "_law_length" 662,vs "/claim/cut.py" 663,vi 272,vi 2,vi 0,vi 0,vi 3,vr 355,vb,vi 181,vr 356,vn,vn,vn,vr 357,vi 664,vi 272,vs "/claim/cut.py" 665]) #[])::
 (nat_lit 359,of "_law_length" "_law_length" (top 50) "law_hastebook_k93_whole_works_changed" 581 358)::
 (nat_lit 363,ob (vt "code") none (Data.fields #[vs "_law_ends" 667,vs "_law_ends" 668,vs "/claim/cut.py" 669,vi 278,vi 2,vi 0,vi 0,vi 3,vr 360,vb,vi 181,vr 361,vn,vn,vn,vr 362,vi 670,vi 278,vs "/claim/cut.py" 671]) #[])::
 (nat_lit 364,of "_law_ends" "_law_ends" (top 51) "law_hastebook_k93_whole_works_changed" 581 363)::
 (nat_lit 368,ob (vt "code") none (Data.fields #[vs "_law_leads" 673,vs "_law_leads" 674,vs "/claim/cut.py" 675,vi 281,vi 4,vi 0,vi 0,vi 3,vr 365,vb,vi 181,vr 366,vn,vn,vn,vr 367,vi 676,vi 281,vs "/claim/cut.py" 677]) #[])::
 (nat_lit 369,of "_law_leads" "_law_leads" (top 52) "law_hastebook_k93_whole_works_changed" 581 368)::
 (nat_lit 375,oc "_law_amid" "_law_amid" 679 680 681 286 3 3 370 181 371 372 373 374 687 286 688)::
 (nat_lit 376,of "_law_amid" "_law_amid" (top 53) "law_hastebook_k93_whole_works_changed" 581 375)::
 (nat_lit 382,oc "_law_dearer" "_law_dearer" 690 691 692 289 5 3 377 181 378 379 380 381 701 289 702)::
 (nat_lit 383,of "_law_dearer" "_law_dearer" (top 54) "law_hastebook_k93_whole_works_changed" 581 382)::
 (nat_lit 389,oc "_law_more" "_law_more" 704 705 706 294 3 3 384 181 385 386 387 388 718 294 719)::
 (nat_lit 390,of "_law_more" "_law_more" (top 55) "law_hastebook_k93_whole_works_changed" 581 389)::
 (nat_lit 394,ob (vt "code") none (Data.fields #[vs "law" 721,vs "law" 722,vs "/claim/cut.py" 723,vi 311,vi 1,vi 0,vi 0,vi 3,vr 391,vb,vi 181,vr 392,vn,vn,vn,vr 393,vi 724,vi 311,vs "/claim/cut.py" 725]) #[])::
 (nat_lit 395,of "law" "law" (top 56) "law_hastebook_k93_whole_works_changed" 581 394)::[]
def KA:List Addr:=[2,3,22,29,30,31,32,35,42,43,44,52,53,59,60,64,65,69,70,74,75,81,82,86,87,100,101,102,103,104,105,106,116,120,121,127,128,134,135,146,147,158,159,170,171,172,173,174,175,176,184,185,191,192,198,199,205,206,210,211,217,218,222,223,229,230,236,237,241,242,246,247,251,252,258,259,265,266,270,271,277,278,282,283,287,288,294,295,301,302,308,309,315,316,322,323,329,330,334,335,341,342,348,349,353,354,358,359,363,364,368,369,375,376,382,383,389,390,394,395]
noncomputable def insAll:Nat->List Obj->BT->BT
 |_,[],t=>t
 |i,o::os,t=>insAll (i+1) os (t.ins i o)
noncomputable def iW(p:Program)(w:World)(m:Nat)(an:Option Value):Nat->SharedT->Thread->Option SharedT
 |0,_,_=>none
 |n+1,s,t=>match through t with
  |true=>some s
  |false=>match stepOk m an t with
   |false=>none
   |true=>match stepT (denote treeTable) p w s t with
    |some r=>iW p w m an n r.1 r.2
    |none=>none
theorem aG2{p:Program}{w:World}{m:Nat}{an:Option Value}:∀{n:Nat}{s s':SharedT}{t:Thread},iW p w m an n s t=some s'->topRun treeTable p w m an n s.abs t=some s'.abs
 |0,_,_,_,h=>by cases h
 |n+1,s,s',t,h=>by
  unfold iW at h;unfold topRun;cases h1:through t with
  |true=>rw[h1]at h;cases h;rfl
  |false=>
   rw[h1]at h;cases h2:stepOk m an t with
   |false=>rw[h2]at h;cases h
   |true=>
    rw[h2]at h;cases h3:stepT (denote treeTable) p w s t with
    |none=>rw[h3]at h;cases h
    |some r=>
     rw[h3]at h;rw[show step (denote treeTable) p w s.abs t=.go r.1.abs r.2 from stepT_spec h3]
     exact aG2 h
theorem leftOf{p q:Program}{Xt:Shared->Bool}{α:Type}{Yf:Shared->α}{Ya:World->α}{N:Nat}{s0:World->OsState->SharedT}{ran:World->OsState->Option SharedT}{fin:World->OsState->Shared}
 (hf:∀w os,fin w os=((ran w os).getD (s0 w os)).abs)
 (hr:∀w os,ran w os=iW p w (boot_heap w.params).objs.size ((boot_heap w.params).nsMap mainGlobals "__annotations__") N (s0 w os) (topStub p))
 (c0:(fun(w:World) (os:OsState)=>(s0 w os).abs)=fun w os=>⟨boot_heap w.params,aPx [],boot_drawn,boot_toks,os⟩)
 (c1:(fun w:World=>(boot_heap w.params).isNs mainGlobals)=fun _=>true)
 (c2:(fun(w:World) (os:OsState)=>(ran w os).isSome)=fun _ _=>true)
 (c3:(fun(w:World) (os:OsState)=>(staticsOk (importedModules p.main.body) (boot_heap w.params) (fin w os).heap&&namesBound p (fin w os).heap&&gensDone (fin w os))&&laidKept (boot_heap w.params) (fin w os).heap)=fun _ _=>true)
 (c4:(fun(w:World) (os:OsState)=>openSeen q [] (importedModules p.main.body) Xt true (fin w os))=fun _ _=>openGood q [])
 (c5:(fun(w:World) (os:OsState)=>Yf (fin w os))=fun w _=>Ya w)
 (c6:opening p=plainProg p.main.scope.names)(hN:Nat.ble 600 N=true)(hm:∀s,fenceModules? p s=some s):LeftO p q [] Xt Yf Ya N:=fun w=>by
 obtain⟨⟨h,gs,d,k,os⟩,e,e'⟩:=aL.mp (boot_open (p:=p) (N:=N) c6 hN hm w);obtain⟨rfl,rfl,rfl,rfl⟩:h=boot_heap w.params/\gs=aPx []/\d=boot_drawn/\k=boot_toks:=by simpa using e'
 have r:topRun treeTable p w (boot_heap w.params).objs.size ((boot_heap w.params).nsMap mainGlobals "__annotations__") N ⟨boot_heap w.params,aPx [],boot_drawn,boot_toks,os⟩ (topStub p)=some (fin w os):=by
  have q0:(s0 w os).abs=⟨boot_heap w.params,aPx [],boot_drawn,boot_toks,os⟩:=congrFun (congrFun c0 w) os;have q2:(ran w os).isSome=true:=congrFun (congrFun c2 w) os;rw[<-q0];obtain⟨x,hx⟩:=cU.mp q2;have:fin w os=x.abs:=by rw[hf,hx];rfl
  rw[this];rw[hr]at hx
  exact aG2 hx
 have t:topFrom treeTable p w N ⟨boot_heap w.params,aPx [],boot_drawn,boot_toks,os⟩=some (fin w os):=by
  unfold topFrom;dsimp only;rw[show(boot_heap w.params).isNs mainGlobals=true from congrFun c1 w,r];have q3:((staticsOk (importedModules p.main.body) (boot_heap w.params) (fin w os).heap&&namesBound p (fin w os).heap&&gensDone (fin w os))&&laidKept (boot_heap w.params) (fin w os).heap)=true:=congrFun (congrFun c3 w) os;show(match((staticsOk (importedModules p.main.body) (boot_heap w.params) (fin w os).heap&&namesBound p (fin w os).heap&&gensDone (fin w os))&&laidKept (boot_heap w.params) (fin w os).heap)with|true=>some (fin w os)|false=>none)=_;rw[q3]
 unfold openEnds;rw[e];show(topFrom treeTable p w N _).map _=_;rw[t]
 exact congrArg some (aQr (congrFun (congrFun c4 w) os) (congrFun (congrFun c5 w) os))
noncomputable def s0(w:World)(os:OsState):SharedT:=⟨insAll 0 (boot_heap w.params).objs.toList .nil,(boot_heap w.params).objs.size,(boot_heap w.params).life,#[],boot_drawn,boot_toks,os⟩
noncomputable def ran(w:World)(os:OsState):Option SharedT:=iW PR w (boot_heap w.params).objs.size ((boot_heap w.params).nsMap mainGlobals "__annotations__") 4080 (s0 w os) (topStub PR)
noncomputable def fin(w:World)(os:OsState):Shared:=((ran w os).getD (s0 w os)).abs
def vw:Program:=view PR [0,2,3,5,6,7,8,10,11,12,14,15,16,17,18,19,20,21,22,23,24,25,26,27,28,29,31,32,33,34,36,37,38,40,42,43,44,45,46,47,48,49,50,51,52,53,54,55,56]
noncomputable def xt(s:Shared):Bool:=xlAt vw [] s&&recOk (RowW.records (OpenRow.toRowW (OpenLaw.row PySem.Challenge.rw_hastebook_k93_whole_works_changed))) s
set_option maxHeartbeats 0 in
theorem c0:(fun(w:World) (os:OsState)=>(s0 w os).abs)=fun w os=>⟨boot_heap w.params,aPx [],boot_drawn,boot_toks,os⟩:=by kernel_rfl
theorem c1:(fun w:World=>(boot_heap w.params).isNs mainGlobals)=fun _=>true:=by kernel_rfl
set_option maxHeartbeats 0 in
theorem c2:(fun(w:World) (os:OsState)=>(ran w os).isSome)=fun _ _=>true:=by kernel_rfl
set_option maxHeartbeats 0 in
theorem c3:(fun(w:World) (os:OsState)=>(staticsOk (importedModules PR.main.body) (boot_heap w.params) (fin w os).heap&&namesBound PR (fin w os).heap&&gensDone (fin w os))&&laidKept (boot_heap w.params) (fin w os).heap)=fun _ _=>true:=by kernel_rfl
set_option maxHeartbeats 0 in
theorem c4:(fun(w:World) (os:OsState)=>openSeen vw [] (importedModules PR.main.body) xt true (fin w os))=fun _ _=>openGood vw []:=by kernel_rfl
set_option maxHeartbeats 0 in
theorem c5:(fun(w:World) (os:OsState)=>KA.map (fin w os).heap.get?)=fun w _=>(KH w.params).map fun p=>some p.2:=by kernel_rfl
theorem c6:opening PR=plainProg PR.main.scope.names:=by kernel_rfl
theorem left:LeftO PR vw [] xt (fun s=>KA.map s.heap.get?) (fun w=>(KH w.params).map fun p=>some p.2) 4080:=
 leftOf (s0:=s0) (ran:=ran) (fin:=fin) (fun _ _=>rfl) (fun _ _=>rfl) c0 c1 c2 c3 c4 c5 c6 rfl (fun _=>rfl)
theorem ka(P:Params):KA=(KH P).map (·.1):=by kernel_rfl
theorem xs:∀s,xt s=true->XL vw [] (s.heap.nsMap mainGlobals) s.heap:=fun s e=>xl_of s (aOC.mp e).1
theorem rs:∀s,xt s=true->RecFacts (RowW.records (OpenRow.toRowW (OpenLaw.row PySem.Challenge.rw_hastebook_k93_whole_works_changed))) s.heap:=fun s e=>recFacts_of (aOC.mp e).2
end HT
noncomputable section
set_option maxRecDepth 100000
namespace L2
open PySem PySem.Spec PyProof.Rows
variable{H:Hp}{a b:Addr}{o:HO}
noncomputable abbrev Key:=Sum Int Str
noncomputable def yX:Key->Value->Bool
 | .inl k,v=>Value.isInt k v
 | .inr x,v=>Value.isStrOf x v
noncomputable def keyH(w:World):Key->Int
 | .inl k=>hashInt k
 | .inr x=>hashStr w x
theorem jH:∀{k:Key}{v:Value},yX k v=true->(∃i t,k=Sum.inl i/\v=Value.int i t)\/(∃x t,k=Sum.inr x/\v=Value.str x t)
 | .inl i,v,h=>by
   obtain⟨t,e⟩:=Value.isInt_shape (k:=i) (v:=v) h
   exact .inl ⟨i,t,rfl,e⟩
 | .inr x,v,h=>by
   obtain⟨t,e⟩:=Value.isStrOf_shape (x:=x) (v:=v) h
   exact .inr ⟨x,t,rfl,e⟩
theorem aEO(i:Int)(t:Tok):yX (.inl i) (.int i t)=true:=by simp[yX,Value.isInt]
theorem aFo(x:Str)(t:Tok):yX (.inr x) (.str x t)=true:=by simp[yX,Value.isStrOf]
theorem aNl(a b:Int):decide ((Sum.inl a:Key)=Sum.inl b)=(a==b):=by
 by_cases e:a=b
 ·subst e;simp
 ·have h:¬(Sum.inl a:Key)=Sum.inl b:=fun q=>e (Sum.inl.inj q)
  rw[decide_eq_false h]
  exact(beq_eq_false_iff_ne.mpr e).symm
theorem aNj(a b:Str):decide ((Sum.inr a:Key)=Sum.inr b)=decide (a=b):=by
 by_cases e:a=b
 ·subst e;simp
 ·have h:¬(Sum.inr a:Key)=Sum.inr b:=fun q=>e (Sum.inr.inj q)
  rw[decide_eq_false h,decide_eq_false e]
theorem aL8(a:Int)(b:Str):decide ((Sum.inl a:Key)=Sum.inr b)=false:=decide_eq_false (fun q=>nomatch q)
theorem aLA(a:Str)(b:Int):decide ((Sum.inr a:Key)=Sum.inl b)=false:=decide_eq_false (fun q=>nomatch q)
def iS(prog:Program)(w:World):PySem.KeyKind prog w Key where
 is:=yX
 hash:=keyH w
 inj:=fun v a b ha hb=>by
  rcases jH ha with⟨i,t,rfl,rfl⟩| ⟨x,t,rfl,rfl⟩
  ·rcases jH hb with⟨j,u,rfl,e⟩| ⟨y,u,rfl,e⟩
   ·injection e with e1 _;rw[e1]
   ·exact nomatch e
  ·rcases jH hb with⟨j,u,rfl,e⟩| ⟨y,u,rfl,e⟩
   ·exact nomatch e
   ·injection e with e1 _;rw[e1]
 byValue:=fun k v h=>by
  rcases jH h with⟨i,t,rfl,rfl⟩| ⟨x,t,rfl,rfl⟩<;>rfl
 pyHash:=fun hv h=>by
  rcases jH hv with⟨i,t,rfl,rfl⟩| ⟨x,t,rfl,rfl⟩
  ·exact wpAny_pyHash_int h
  ·exact wpAny_pyHash_str h
 eqBool:=fun hu hv h=>by
  rcases jH hu with⟨i,t,rfl,rfl⟩| ⟨x,t,rfl,rfl⟩
  ·rcases jH hv with⟨j,u,rfl,rfl⟩| ⟨y,u,rfl,rfl⟩
   ·rw[aNl]at h;exact wpAny_eqBool_int h
   ·rw[aL8]at h;exact SeqAt.EqAt.int_str i t y u _ _ _ _ h
  ·rcases jH hv with⟨j,u,rfl,rfl⟩| ⟨y,u,rfl,rfl⟩
   ·rw[aLA]at h;exact SeqAt.EqAt.str_int x t j u _ _ _ _ h
   ·rw[aNj]at h;exact wpAny_eqBool_str h
 «strs»:=fun k x t v h=>by
  rcases jH h with⟨i,u,rfl,e⟩| ⟨y,u,rfl,e⟩
  ·exact nomatch e
  ·injection e with e1 _
   subst e1;cases v<;>rfl
theorem aBo(prog:Program)(w:World)(i:Int)(t:Tok):(iS prog w).is (.inl i) (.int i t)=true:=aEO i t
theorem aCu(prog:Program)(w:World)(x:Str)(t:Tok):(iS prog w).is (.inr x) (.str x t)=true:=aFo x t
inductive V where
 |non|bl (b:Bool)|int (i:Int)|str (x:Str)|byt (b:Array UInt8)|flt (b:UInt64)|ref (a:Addr)|ty (n:String)
 deriving DecidableEq
def RelV:V->Value->Prop
 | .non,u=>u=Value.none
 | .bl b,u=>u=Value.bool b
 | .int i,u=>∃t,u=Value.int i t
 | .str x,u=>∃t,u=Value.str x t
 | .byt b,u=>∃t,u=Value.bytes b t
 | .flt b,u=>∃t,u=Value.float b t
 | .ref a,u=>u=Value.ref a
 | .ty n,u=>u=Value.type n
abbrev Vals:List V->List Value->Prop:=Paired RelV
theorem Vals.length{xs:List V}{us:List Value}(r:Vals xs us):xs.length=us.length:=Paired.length r
theorem Vals.get:∀{xs:List V}{us:List Value}{i:Nat}{x:V},Vals xs us->xs[i]?=some x->∃u,us[i]?=some u/\RelV x u
 |_,_,_,_,.nil,e=>by simp at e
 |_,_,0,_,.cons r _,e=>by simp at e;subst e;exact⟨_,rfl,r⟩
 |_,_,i+1,x,.cons _ t,e=>by
  obtain⟨u,h1,h2⟩:=Vals.get (i:=i) (x:=x) t (by simpa using e)
  exact⟨u,by simpa using h1,h2⟩
theorem Vals.set{x:V}{u:Value}(r:RelV x u):∀{xs:List V}{us:List Value}(i:Nat),Vals xs us->Vals (xs.set i x) (us.set i u)
 |_,_,_,.nil=>.nil
 |_,_,0,.cons _ t=>.cons r t
 |_,_,i+1,.cons q t=>.cons q (Vals.set r i t)
theorem Vals.append:∀{xs ys:List V}{us ws:List Value},Vals xs us->Vals ys ws->Vals (xs++ys) (us++ws)
 |_,_,_,_,.nil,s=>s
 |_,_,_,_,.cons r t,s=>.cons r (Vals.append t s)
theorem Vals.take:∀{xs:List V}{us:List Value}(n:Nat),Vals xs us->Vals (xs.take n) (us.take n)
 |_,_,0,_=>.nil
 |_,_,_+1,.nil=>.nil
 |_,_,n+1,.cons r t=>.cons r (Vals.take n t)
theorem Vals.drop:∀{xs:List V}{us:List Value}(n:Nat),Vals xs us->Vals (xs.drop n) (us.drop n)
 |_,_,0,r=>r
 |_,_,_+1,.nil=>.nil
 |_,_,n+1,.cons _ t=>Vals.drop n t
def oW:Option V->Option Value->Prop
 |some v,some u=>RelV v u
 |none,none=>True
 |_,_=>False
def KV{κ:Type}:List (κ×V)->List (κ×Value)->Prop:=Paired fun(p:κ×V) (q:κ×Value)=>p.1=q.1/\RelV p.2 q.2
noncomputable def kV:Key->V
 | .inl i=>.int i
 | .inr x=>.str x
inductive HO where
 |lst (xs:List V)
 |tup (xs:List V)
 |dK (kvs:List (Key×V))|dT (kvs:List (List Key×V))
 |set (S:Int->Bool) (n:Nat)
 |ins (C dx:Addr) (fs:List (Str×V))
 |own (x:Addr)
 |xd (fs:List (Str×V))
 |met (f x:Addr)
 |rng (lo hi:Int)
 |frz (o:Obj) (u:HO)
 |tbl (ps:Array Value)
 |ext (φ:Heap->Prop)
noncomputable abbrev Hp:=Addr->Option HO
noncomputable def upd(H:Hp)(a:Addr)(o:HO):Hp:=fun b=>if b=a then some o else H b
theorem iY:upd H a o a=some o:=by unfold upd;rw[if_pos rfl]
theorem fK(h:b≠a):upd H a o b=H b:=by unfold upd;rw[if_neg h]
theorem m8{u:HO}(h:H a=some o)(h':H b=some u)(d:o≠u):a≠b:=by
 intro e;subst e;rw[h]at h';exact d (cH.inj h')
theorem mN(h:H a=some o)(h':H b=none):a≠b:=by
 intro e;subst e;rw[h]at h';cases h'
section
variable (P:Program)(w:World)
def jK(H:Hp)(h:Heap)(a:Addr):HO->Prop
 | .lst xs=>xs.length<=sizeLine/\∃(its:List Value)(n:Nat),Vals xs its/\h.get? a=some {cls:=.type "list",data:=.seq its.toArray n}
 | .tup xs=>xs.length<=sizeLine/\∃its:List Value,Vals xs its/\IsTup h a its.toArray
 | .dK kvs=>kvs.length<=sizeLine/\(a==sysModules)=false/\∃vs,KV kvs vs/\h.DictOf (iS P w) a vs
 | .dT kvs=>kvs.length<=sizeLine/\(a==sysModules)=false/\∃xs:List (List Key×Addr×Value),
  Paired (fun(p:List Key×V) (q:List Key×Addr×Value)=>p.1=q.1/\H q.2.1=some (.tup (p.1.map kV))/\RelV p.2 q.2.2) kvs xs/\
  ∃o es ep,h.get? a=some o/\o.ExactDict/\o.data=.dict es ep/\es.toList=xs.map (entryOfKey (tupleKind (iS P w)))/\(xs.map (·.1)).Nodup
 | .set S n=>h.SetOf (intKind P w) a S n
 | .ins C dx fs=>H dx=some (.own a)/\fs.length<=1000/\dx≠a/\h.get? a=some (dW C dx)/\
  ∃mA,h.Ns1 dx mA/\(∀f,oW (fs.lookup f) (mA f))/\PySem.Within mA (fs.map (·.1))
 | .own _=>∃o,h.get? a=some o
 | .xd fs=>∃mA,h.Ns1 a mA/\∀f,oW (fs.lookup f) (mA f)
 | .rng lo hi=>∃t u v,h.get? a=some {cls:=.type "range",data:=.fields #[.int lo t,.int hi u,.int 1 v]}
 | .frz o u=>h.get? a=some o/\jK H h a u
 | .tbl ps=>h.get? a=some {cls:=.none,data:=.fields ps}
 | .met f x=>h.get? a=some (aPf (.ref f) (.ref x))
 | .ext φ=>φ h/\(∃o,h.get? a=some o)/\∀h1 h2:Heap,φ h1->(∀o,h1.get? a=some o->h2.get? a=some o)->φ h2
def HOk(H:Hp)(h:Heap):Prop:=∀a o,H a=some o->jK P w H h a o
end
section
variable {P:Program}{w:World}{H H':Hp}{h h':Heap}{a:Addr}{o:HO}
theorem jK.lt(x:jK P w H h a o):a<h.objs.size:=by
 cases o with
 |lst xs=>obtain⟨_,_,_,_,e⟩:=x;exact Heap.lt_size e
 |tup xs=>obtain⟨_,_,_,p⟩:=x;exact p.lt
 |dK kvs=>obtain⟨_,_,_,_,o,_,_,e,_⟩:=x;exact Heap.lt_size e
 |dT kvs=>obtain⟨_,_,_,_,o,_,_,e,_⟩:=x;exact Heap.lt_size e
 |set S n=>obtain⟨o,_,_,_,e,_⟩:=x;exact Heap.lt_size e
 |ins C dx fs=>obtain⟨_,_,_,e,_⟩:=x;exact Heap.lt_size e
 |own y=>obtain⟨_,e⟩:=x;exact Heap.lt_size e
 |xd fs=>obtain⟨_,⟨_,_,_,e,_⟩,_⟩:=x;exact Heap.lt_size e
 |rng lo hi=>obtain⟨_,_,_,e⟩:=x;exact Heap.lt_size e
 |frz ob u=>obtain⟨e,_⟩:=x;exact Heap.lt_size e
 |tbl ps=>exact Heap.lt_size (show h.get? a=some _ from x)
 |met f y=>exact Heap.lt_size (show h.get? a=some _ from x)
 |ext φ=>obtain⟨_,⟨_,e⟩,_⟩:=x;exact Heap.lt_size e
theorem Paired.mapP{α β:Type}{F G:α->β->Prop}:∀{gz:List α}{gy:List β},Paired F gz gy->(∀a b,F a b->G a b)->Paired G gz gy
 |_,_,.nil,_=>.nil
 |_,_,.cons r t,f=>.cons (f _ _ r) (Paired.mapP t f)
theorem jK.stay(x:jK P w H h a o)(k:∀b u,(b=a\/H b=some (.own a))->h.get? b=some u->h'.get? b=some u)
 (ho:∀b,H b=some (.own a)->H' b=some (.own a))(ht:∀b xs,H b=some (.tup xs)->H' b=some (.tup xs)):jK P w H' h' a o:=by
 induction o with
 |lst xs=>obtain⟨z,its,n,r,e⟩:=x;exact⟨z,its,n,r,k _ _ (.inl rfl) e⟩
 |tup xs=>obtain⟨z,its,r,ob,e,c⟩:=x;exact⟨z,its,r,ob,k _ _ (.inl rfl) e,c⟩
 |dK kvs=>obtain⟨z,y,vs,r,ob,es,ep,e,c⟩:=x;exact⟨z,y,vs,r,ob,es,ep,k _ _ (.inl rfl) e,c⟩
 |dT kvs=>
  obtain⟨z,y,xs,r,ob,es,ep,e,c⟩:=x
  exact⟨z,y,xs,Paired.mapP r fun p q z=>⟨z.1,ht _ _ z.2.1,z.2.2⟩,ob,es,ep,k _ _ (.inl rfl) e,c⟩
 |set S n=>obtain⟨ob,es,ep,t,e,c⟩:=x;exact⟨ob,es,ep,t,k _ _ (.inl rfl) e,c⟩
 |ins C dx fs=>
  obtain⟨d,z,ne,e,mA,⟨od,es,ep,e2,c⟩,r⟩:=x
  exact⟨ho _ d,z,ne,k _ _ (.inl rfl) e,mA,⟨od,es,ep,k _ _ (.inr d) e2,c⟩,r⟩
 |own y=>obtain⟨ob,e⟩:=x;exact⟨ob,k _ _ (.inl rfl) e⟩
 |xd fs=>obtain⟨mA,⟨od,es,ep,e,c⟩,r⟩:=x;exact⟨mA,⟨od,es,ep,k _ _ (.inl rfl) e,c⟩,r⟩
 |rng lo hi=>obtain⟨t,u,v,e⟩:=x;exact⟨t,u,v,k _ _ (.inl rfl) e⟩
 |frz ob u ih=>obtain⟨e,q⟩:=x;exact⟨k _ _ (.inl rfl) e,ih q⟩
 |tbl ps=>
  have e:h.get? a=some {cls:=.none,data:=.fields ps}:=x;show h'.get? a=some {cls:=.none,data:=.fields ps}
  exact k a _ (.inl rfl) e
 |met f y=>
  have e:h.get? a=some (aPf (.ref f) (.ref y)):=x;show h'.get? a=some (aPf (.ref f) (.ref y))
  exact k a _ (.inl rfl) e
 |ext φ=>obtain⟨p,⟨o,e⟩,st⟩:=x;exact⟨st _ _ p fun o q=>k _ _ (.inl rfl) q,⟨o,k _ _ (.inl rfl) e⟩,st⟩
theorem HOk.lt(x:HOk P w H h)(e:H a=some o):a<h.objs.size:=(x a o e).lt
theorem HOk.fresh(x:HOk P w H h)(e:h.objs.size<=a):H a=none:=by
 cases q:H a with
 |none=>rfl
 |some u=>exact absurd (bS (x.lt q) e) (cV _)
theorem HOk.kept(x:HOk P w H h)(k:∀b u,h.get? b=some u->h'.get? b=some u):HOk P w H h':=fun a o e=>
 (x a o e).stay (fun b u _ q=>k b u q) (fun _ q=>q) fun _ _ q=>q
theorem HOk.laid(x:HOk P w H h)(k:∀b u,h.get? b=some u->h'.get? b=some u)(hp:h.objs.size<=a)(new:jK P w (upd H a o) h' a o):HOk P w (upd H a o) h':=fun b u e=>by
 have hn:=x.fresh hp;by_cases hb:b=a
 ·subst hb;rw[iY]at e;cases e;exact new
 ·rw[fK hb]at e
  exact(x b u e).stay (fun c v _ q=>k c v q) (fun c q=>by rw[fK (mN q hn)];exact q) fun c xs q=>by rw[fK (mN q hn)];exact q
end
def Rd(H:Hp)(a:Addr)(u:HO):Prop:=H a=some u\/∃o,H a=some (.frz o u)
theorem Rd.of{H:Hp}{a:Addr}{u:HO}(h:H a=some u):Rd H a u:=.inl h
theorem Rd.ok{P:Program}{w:World}{H:Hp}{h:Heap}{a:Addr}{u:HO}(r:Rd H a u)(x:HOk P w H h):jK P w H h a u:=by
 rcases r with r| ⟨o,r⟩
 ·exact x a u r
 ·obtain⟨_,q⟩:=x a _ r
  exact q
def Mut:Option HO->Prop
 |some (.lst _)=>True
 |some (.dK _)=>True
 |some (.dT _)=>True
 |some (.set _ _)=>True
 |some (.ins _ _ _)=>True
 |some (.ext _)=>True
 |_=>False
section
variable {P:Program}{w:World}{H:Hp}{h h':Heap}{x e:Addr}{o':HO}
theorem HOk.write(ok:HOk P w H h)(mu:Mut (H x))(he:e=x\/H e=some (.own x))(k:∀b u,b≠e->h.get? b=some u->h'.get? b=some u)(pi:∃u,h'.get? e=some u)
 (new:jK P w (upd H x o') h' x o'):HOk P w (upd H x o') h':=fun b u q=>by
 have re:∀c y,H c=some (.own y)->c≠x:=fun c y r z=>by subst z;rw[r]at mu;exact mu
 have xi:∀c xs,H c=some (.tup xs)->c≠x:=fun c xs r z=>by subst z;rw[r]at mu;exact mu
 by_cases hb:b=x
 ·subst hb;rw[iY]at q;cases q;exact new
 ·rw[fK hb]at q;by_cases ki:b=e
  ·have q':H b=some (.own x):=by
    rcases he with z|z
    ·exact absurd (ki.trans z) hb
    ·rw[ki];exact z
   rw[q]at q';cases q';obtain⟨v,hv⟩:=pi
   exact⟨v,by rw[ki];exact hv⟩
  ·refine(ok b u q).stay (fun c v hc r=>k c v ?_ r) (fun c r=>by rw[fK (re c b r)];exact r) fun c xs r=>by rw[fK (xi c xs r)];exact r
   rcases hc with rfl|hc
   ·exact ki
   ·rintro rfl;rcases he with z|z
    ·exact re c b hc z
    ·rw[hc]at z;cases z;exact hb rfl
end
structure Un(fs ex:List Addr)(H H':Hp)(h h':Heap):Prop where
 keep:∀b o,h.get? b=some o->H b=none->b∉fs->b∉ex->h'.get? b=some o
 slot:∀b o,h.get? b=some o->H b=none->b∈fs->b∉ex->∃sl,h'.get? b=some {o with slots:=sl}
 free:∀b o,h.get? b=some o->H b=none->b∉ex->H' b=none
 there:∀b o,h.get? b=some o->b∉ex->∃o',h'.get? b=some o'
 tups:∀b xs,H b=some (.tup xs)->H' b=some (.tup xs)
 frzs:∀b o u,H b=some (.frz o u)->H' b=some (.frz o u)
 tbls:∀b ps,H b=some (.tbl ps)->∃more,H' b=some (.tbl (ps++more))
section
variable {fs gw ex zi:List Addr}{H H1 H2:Hp}{h h1 h2 h':Heap}{a x e:Addr}{o:HO}
theorem Un.any(u:Un fs ex H H1 h h1){b:Addr}{ob:Obj}(q:h.get? b=some ob)(n:H b=none)(hx:b∉ex):∃sl,h1.get? b=some {ob with slots:=sl}:=by
 by_cases hb:b∈fs
 ·exact u.slot b ob q n hb hx
 ·exact⟨ob.slots,u.keep b ob q n hb hx⟩
theorem Un.trans(a:Un fs ex H H1 h h1)(b:Un fs ex H1 H2 h1 h2):Un fs ex H H2 h h2 where
 keep:=fun c ob q n hc hx=>b.keep c ob (a.keep c ob q n hc hx) (a.free c ob q n hx) hc hx
 slot:=fun c ob q n hc hx=>by
  obtain⟨sl,e1⟩:=a.slot c ob q n hc hx;obtain⟨wy,e2⟩:=b.slot c _ e1 (a.free c ob q n hx) hc hx
  exact⟨wy,e2⟩
 free:=fun c ob q n hx=>by
  obtain⟨o',e1⟩:=a.there c ob q hx
  exact b.free c o' e1 (a.free c ob q n hx) hx
 there:=fun c ob q hx=>by
  obtain⟨o',e1⟩:=a.there c ob q hx
  exact b.there c o' e1 hx
 tups:=fun c xs q=>b.tups c xs (a.tups c xs q)
 frzs:=fun c ob xs q=>b.frzs c ob xs (a.frzs c ob xs q)
 tbls:=fun c ps q=>by
  obtain⟨m1,e1⟩:=a.tbls c ps q;obtain⟨m2,e2⟩:=b.tbls c _ e1
  exact⟨m1++m2,by rw[e2,aPI]⟩
theorem Un.kept(k:∀b u,h.get? b=some u->h'.get? b=some u):Un fs ex H H h h':=
 ⟨fun b ob q _ _ _=>k b ob q,fun b ob q _ _ _=>⟨ob.slots,k b ob q⟩,fun _ _ _ n _=>n,fun b ob q _=>⟨ob,k b ob q⟩,fun _ _ q=>q,fun _ _ _ q=>q,fun _ ps q=>⟨#[],by rw[q];simp⟩⟩
theorem Un.refl:Un fs ex H H h h:=Un.kept fun _ _ q=>q
theorem Un.laid(k:∀b u,h.get? b=some u->h'.get? b=some u)(hp:h.objs.size<=a)(hn:H a=none):Un fs ex H (upd H a o) h h' where
 keep:=fun b u q _ _ _=>k b u q
 slot:=fun b u q _ _ _=>⟨u.slots,k b u q⟩
 free:=fun b u q n _=>by rw[fK (bX (bS (Heap.lt_size q) hp))];exact n
 there:=fun b u q _=>⟨u,k b u q⟩
 tups:=fun b xs q=>by rw[fK (mN q hn)];exact q
 frzs:=fun b u xs q=>by rw[fK (mN q hn)];exact q
 tbls:=fun b ps q=>⟨#[],by rw[fK (mN q hn),q];simp⟩
theorem Un.write(mu:Mut (H x))(he:e=x\/H e=some (.own x))(k:∀b u,b≠e->h.get? b=some u->h'.get? b=some u)(pi:∃u,h'.get? e=some u):Un fs ex H (upd H x o) h h':=by
 have hx:∀b,H b=none->b≠x:=fun b n z=>by subst z;rw[n]at mu;exact mu
 have hb:∀b,H b=none->b≠e:=fun b n z=>by
  subst z;rcases he with r|r
  ·exact hx b n r
  ·rw[n]at r;cases r
 have hm:∀b u,H b=some u->¬Mut (some u)->b≠x:=fun b u q nm z=>by subst z;rw[q]at mu;exact nm mu
 refine⟨fun b u q n _ _=>k b u (hb b n) q,fun b u q n _ _=>⟨u.slots,k b u (hb b n) q⟩,fun b u q n _=>by rw[fK (hx b n)];exact n,fun b u q _=>?_,
  fun b xs q=>by rw[fK (hm b _ q fun z=>z)];exact q,fun b u xs q=>by rw[fK (hm b _ q fun z=>z)];exact q,fun b ps q=>⟨#[],by rw[fK (hm b _ q fun z=>z),q];simp⟩⟩
 by_cases ki:b=e
 ·subst ki;exact pi
 ·exact⟨u,k b u ki q⟩
end
noncomputable def trk(h:Heap)(H:Hp):List Addr:=(bL h.objs.size).filter fun a=>(H a).isSome
def aAN(h:Heap)(H:Hp):Heap:=PySem.W.hideAll h (trk h H)
theorem aFO(h:Heap)(H:Hp):(aAN h H).objs.size=h.objs.size:=PySem.W.hideAll_size _ _
theorem aFU{h:Heap}{H:Hp}{b:Addr}{o:Obj}(e:h.get? b=some o)(n:H b=none):(aAN h H).get? b=some o:=
 PySem.W.hideAll_get _ e fun hm=>by
  have q:(H b).isSome=true:=(cQ.mp hm).2;rw[n]at q;simp at q
theorem aJ9{h:Heap}{H:Hp}{b:Addr}{o:Obj}(e:(aAN h H).get? b=some o):h.get? b=some o/\H b=none:=by
 have e':h.get? b=some o:=PySem.W.of_hideAll (trk h H) e
 refine⟨e',?_⟩
 cases q:H b with
 |none=>rfl
 |some x=>
  have hm:b∈trk h H:=cQ.mpr ⟨c7.mpr (Heap.lt_size e'),by simp[q]⟩;have z:(aAN h H).get? b=none:=PySem.W.hideAll_none (trk h H) hm;rw[z]at e;cases e
noncomputable def allNews(g h:Heap)(L:Addr):List (Addr×Obj):=(bL h.objs.size).filterMap fun a=>if a=L\/(g.get? a).isSome=true then none else(h.get? a).map fun o=>(a,o)
def rest(g h:Heap)(L d:Addr):List (Addr×Obj):=(allNews g h L).filter fun p=>decide (p.1≠d)
structure Mod(K:aO)(mg:Str->Option Value)(base:Heap):Prop where
 kin:K.In base
 glob:base.Ns mainGlobals mg
 blt:∃mb,base.Ns builtinsNs mb/\∀x:Str,x≠"__name__"->mb x=bootBuiltins x
 nolimit:base.NoLimit
structure Cx where
 prog:Program
 w:World
 K:aO
 mg:Str->Option Value
 base:Heap
 A:Around
 N:List Str
 s₀:Shared
 H₀:Hp
 env:Env
 outer:List Env
 stack:List Env
 ex:List Addr
 fn:Str->Bool
 calm:Bool
 pn:List (Addr×Obj)
 xe:Value->Shared->Prop
noncomputable def frs(l:List Env):List Addr:=l.filterMap (·.frame)
abbrev Cx.fs(X:Cx):List Addr:=frs X.outer
def Vis(sc:Scope)(x:Str):Prop:=sc.names.lookup x=some .local\/sc.names.lookup x=some .cell\/sc.names.lookup x=some .free
def Loc(sc:Scope)(x:Str):Prop:=sc.names.lookup x=some .local\/sc.names.lookup x=some .cell
def Look(env:Env)(h:Heap)(m:Str->Option Value)(x:Str)(u:Value):Prop:=
 (env.kindOf x=some .local/\m x=some u)\/((env.kindOf x=some .cell\/env.kindOf x=some .free)/\∃c,env.cells.lookup x=some c/\h.IsCell c (some u))
structure Cx.Ok(X:Cx):Prop where
 mod:Mod X.K X.mg X.base
 kind:X.env.scope.kind=.function
 glob:X.env.globals=mainGlobals
 blt:X.env.builtins=builtinsNs
 above:X.s₀.heap.objs.size<=X.env.locals
 inj:∀x y c,X.env.cells.lookup x=some c->X.env.cells.lookup y=some c->x=y
 has:∀x,(X.env.kindOf x=some .cell\/X.env.kindOf x=some .free)->∃c,X.env.cells.lookup x=some c
 cab:∀x c,X.fn x=true->X.env.cells.lookup x=some c->X.s₀.heap.objs.size<=c
 hd:X.calm=true->X.A.handled=none
 frames:X.A.frames=some X.stack
 stk:X.stack=X.outer\/(X.stack=X.env::X.outer/\X.env.frame=some X.env.locals)
 exf:∀b∈X.ex,b≠X.env.locals/\∀x c,X.env.cells.lookup x=some c->c≠b
 bs:∀b o,X.base.get? b=some o->X.s₀.heap.get? b=some o/\X.H₀ b=none
 bsz:X.base.objs.size<=X.s₀.heap.objs.size
 noex:∀b o,X.base.get? b=some o->b∉X.ex
 exfs:∀b∈X.ex,b∉X.fs
 funs:X.s₀.heap.FunFrames X.base X.outer
 frf:∀b∈X.fs,X.H₀ b=none
structure Inv(X:Cx)(aa:List (Addr×Obj))(σ:List (Option V))(H:Hp)(s:Shared):Prop where
 ok:X.Ok
 os:s.os=X.s₀.os
 bare:AllBare s.gens
 base:Un X.fs X.ex X.H₀ H X.s₀.heap s.heap
 loc:∃m,s.heap.Ns X.env.locals m/\∀(i:Nat)(x:Str)(v:V),X.N[i]?=some x->σ[i]?=some (some v)->Vis X.env.scope x->∃u,RelV v u/\Look X.env s.heap m x u
 cell:∀x c,X.env.cells.lookup x=some c->∃v,s.heap.IsCell c v
 free:H X.env.locals=none
 freeC:∀x c,X.env.cells.lookup x=some c->H c=none
 pin:∀p∈X.pn++aa,s.heap.get? p.1=some p.2/\H p.1=none/\p.1≠X.env.locals/\p.1∉X.fs/\∀v,p.2.data≠ .cell v
 hok:HOk X.prog X.w H s.heap
 len:σ.length=X.N.length
section
variable {X:Cx}{aa:List (Addr×Obj)}{σ:List (Option V)}{H H':Hp}{s:Shared}{h':Heap}
variable{g':Array GenState}{t' i:Nat}{d':Drawn}{ch:List Addr}{x:Str}{M:Model}{A:Around}{E:Value->Shared->Prop}{v:V}{u:Value}{Q:Unit->Shared->Prop}
theorem Cx.Ok.nofr(ok:X.Ok){b:Addr}{o:Obj}(e:X.base.get? b=some o):b∉X.fs:=fun hb=>by
 have:=(ok.funs.mem hb).1;rw[e]at this;cases this
theorem Inv.bs(I:Inv X aa σ H s):∀b o,X.base.get? b=some o->s.heap.get? b=some o/\H b=none:=fun b o e=>
 ⟨I.base.keep b o (I.ok.bs b o e).1 (I.ok.bs b o e).2 (I.ok.nofr e) (I.ok.noex b o e),I.base.free b o (I.ok.bs b o e).1 (I.ok.bs b o e).2 (I.ok.noex b o e)⟩
theorem Inv.bk(I:Inv X aa σ H s):∀b o,X.base.get? b=some o->s.heap.get? b=some o:=fun b o e=>(I.bs b o e).1
theorem Inv.mod(I:Inv X aa σ H s):Mod X.K X.mg X.base:=I.ok.mod
theorem Inv.kIn(I:Inv X aa σ H s):X.K.In s.heap:=I.ok.mod.kin.keeps I.bk
theorem Inv.lt(I:Inv X aa σ H s):X.env.locals<s.heap.objs.size:=let ⟨_,hn,_⟩:=I.loc;hn.lt
theorem Inv.sz(I:Inv X aa σ H s):X.s₀.heap.objs.size<=s.heap.objs.size:=cA I.ok.above (aPP I.lt)
theorem Inv.nofs(I:Inv X aa σ H s){a:Addr}(h:s.heap.objs.size<=a):a∉X.fs:=fun hb=>by
 obtain⟨_,o,ho,_⟩:=I.ok.funs.mem hb
 exact absurd (bS (Heap.lt_size ho) (cA I.sz h)) (cV _)
theorem Inv.cne(I:Inv X aa σ H s):∀x c,X.env.cells.lookup x=some c->c≠X.env.locals:=fun x c e z=>by
 obtain⟨v,o,ho,hd⟩:=I.cell x c e;obtain⟨m,⟨o',es,ep,iw,jm,_⟩,_⟩:=I.loc;rw[z,iw]at ho;cases ho;rw[jm]at hd;cases hd
theorem Inv.funs(I:Inv X aa σ H s):s.heap.FunFrames X.base X.outer:=by
 have all:∀(l:List Env),(∀b∈frs l,b∈X.fs)->X.s₀.heap.FunFrames X.base l->s.heap.FunFrames X.base l:=by
  intro l;induction l with
  |nil=>intro _ _;trivial
  |cons env r ih=>
   intro hs hl;obtain⟨hk,⟨L,o,hf,hn,ho,hd⟩,hr⟩:=hl;have hL:L∈X.fs:=hs L (by unfold frs;rw[aOK,hf];exact bJ);obtain⟨sl,e⟩:=I.base.slot L o ho (I.ok.frf L hL) hL fun z=>I.ok.exfs L z hL
   exact⟨hk,⟨L,_,hf,hn,e,hd⟩,ih (fun b hb=>hs b (by unfold frs;rw[aOK,hf];exact aZ _ hb)) hr⟩
 exact all X.outer (fun _ hb=>hb) I.ok.funs
theorem Inv.stack(I:Inv X aa σ H s):s.heap.FunFrames X.base X.stack:=by
 rcases I.ok.stk with e| ⟨e,hf⟩
 ·rw[e];exact I.funs
 ·rw[e];obtain⟨m,hn,_⟩:=I.loc
  refine .cons (by rw[I.ok.kind];decide) hf hn ?_ I.funs
  exact Heap.get?_none_of_le (cA I.ok.bsz I.ok.above)
theorem Inv.stkSub(I:Inv X aa σ H s):∀b∈frs X.stack,b∈X.env.locals::X.fs:=fun b hb=>by
 rcases I.ok.stk with e| ⟨e,hf⟩
 ·rw[e]at hb;exact aZ _ hb
 ·rw[e]at hb;unfold frs at hb;rw[aOK,hf]at hb
  exact hb
theorem Inv.stkFree(I:Inv X aa σ H s):∀b∈frs X.stack,H b=none:=fun b hb=>by
 rcases bE.mp (I.stkSub b hb)with e|hb
 ·rw[e];exact I.free
 ·obtain⟨_,o,ho,_⟩:=I.ok.funs.mem hb
  exact I.base.free b o ho (I.ok.frf b hb) fun z=>I.ok.exfs b z hb
theorem Inv.step(I:Inv X aa σ H s)
 (bv:∀b∈ch,(b∈X.ex\/X.s₀.heap.objs.size<=b)/\b≠X.env.locals/\(∀x c,X.env.cells.lookup x=some c->c≠b)/\∀p∈X.pn++aa,p.1≠b)
 (keep:∀b o,b≠X.env.locals->b∉X.fs->b∉ch->s.heap.get? b=some o->H b=none->h'.get? b=some o)
 (slot:∀b o,b≠X.env.locals->b∈X.fs->b∉ch->s.heap.get? b=some o->H b=none->∃sl,h'.get? b=some {o with slots:=sl})(free:∀b o,b∉ch->s.heap.get? b=some o->H b=none->H' b=none)
 (there:∀b o,b∉ch->s.heap.get? b=some o->∃o',h'.get? b=some o')
 (tups:∀b xs,H b=some (.tup xs)->H' b=some (.tup xs))(frzs:∀b o u,H b=some (.frz o u)->H' b=some (.frz o u))(tbls:∀b ps,H b=some (.tbl ps)->∃more,H' b=some (.tbl (ps++more)))
 (ns:∀m,s.heap.Ns X.env.locals m->h'.Ns X.env.locals m)(hok:HOk X.prog X.w H' h')(hg:AllBare g'):
 Inv X aa σ H' {s with heap:=h',gens:=g',drawn:=d',toks:=t'}:=by
 have neL:∀b o,X.s₀.heap.get? b=some o->b≠X.env.locals:=fun b o e=>bX (bS (Heap.lt_size e) I.ok.above)
 have vg:∀b o,X.s₀.heap.get? b=some o->b∉X.ex->b∉ch:=fun b o e hx hb=>by
  rcases(bv b hb).1 with z|z
  ·exact hx z
  ·exact absurd (bS (Heap.lt_size e) z) (cV _)
 have cellK:∀x c,X.env.cells.lookup x=some c->∀v,s.heap.IsCell c v->h'.IsCell c v:=fun x c e v ⟨o,ho,hd⟩=>by
  have io:c∉ch:=fun z=>(bv c z).2.2.1 x c e rfl
  by_cases hc:c∈X.fs
  ·obtain⟨sl,q⟩:=slot c o (I.cne x c e) hc io ho (I.freeC x c e)
   exact⟨_,q,hd⟩
  ·exact⟨o,keep c o (I.cne x c e) hc io ho (I.freeC x c e),hd⟩
 refine⟨I.ok,I.os,hg,⟨fun b o e n hb hx=>?_,fun b o e n hb hx=>?_,fun b o e n hx=>?_,fun b o e hx=>?_,fun b xs e=>tups b xs (I.base.tups b xs e),fun b o xs e=>frzs b o xs (I.base.frzs b o xs e),fun b ps e=>?_⟩,?_,fun x c e=>?_,?_,fun x c e=>?_,fun p hp=>?_,hok,I.len⟩
 ·exact keep b o (neL b o e) hb (vg b o e hx) (I.base.keep b o e n hb hx) (I.base.free b o e n hx)
 ·obtain⟨sl,e1⟩:=I.base.slot b o e n hb hx;obtain⟨wy,e2⟩:=slot b _ (neL b o e) hb (vg b o e hx) e1 (I.base.free b o e n hx)
  exact⟨wy,e2⟩
 ·obtain⟨o',e1⟩:=I.base.there b o e hx
  exact free b o' (vg b o e hx) e1 (I.base.free b o e n hx)
 ·obtain⟨o',e1⟩:=I.base.there b o e hx
  exact there b o' (vg b o e hx) e1
 ·obtain⟨m1,e1⟩:=I.base.tbls b ps e;obtain⟨m2,e2⟩:=tbls b _ e1
  exact⟨m1++m2,by rw[e2,aPI]⟩
 ·obtain⟨m,hn,hl⟩:=I.loc
  refine⟨m,ns m hn,fun i x v e1 e2 e3=>?_⟩
  obtain⟨u,r,l⟩:=hl i x v e1 e2 e3
  refine⟨u,r,?_⟩
  rcases l with l| ⟨k,c,e,z⟩
  ·exact .inl l
  ·exact .inr ⟨k,c,e,cellK x c e _ z⟩
 ·obtain⟨v,z⟩:=I.cell x c e
  exact⟨v,cellK x c e v z⟩
 ·obtain⟨m,⟨o,_,_,ho,_⟩,_⟩:=I.loc
  exact free _ o (fun z=>(bv _ z).2.1 rfl) ho I.free
 ·obtain⟨v,o,ho,hd⟩:=I.cell x c e
  exact free c o (fun z=>(bv c z).2.2.1 x c e rfl) ho (I.freeC x c e)
 ·obtain⟨e,n,ne,nf,d⟩:=I.pin p hp;have io:p.1∉ch:=fun z=>(bv p.1 z).2.2.2 p hp rfl
  exact⟨keep p.1 p.2 ne nf io e n,free p.1 p.2 io e n,ne,nf,d⟩
theorem Inv.un(I:Inv X aa σ H s)(u:Un X.fs [] H H' s.heap h')(hok:HOk X.prog X.w H' h'):Inv X aa σ H' {s with heap:=h',toks:=t'}:=by
 obtain⟨m,⟨o,es,ep,ho,r⟩,_⟩:=id I.loc;obtain⟨sl,hL⟩:=u.any ho I.free (by simp)
 exact I.step (g':=s.gens) (d':=s.drawn) (ch:=[]) (fun _ z=>nomatch z) (fun b o _ hb _ e n=>u.keep b o e n hb (by simp)) (fun b o _ hb _ e n=>u.slot b o e n hb (by simp)) (fun b o _ e n=>u.free b o e n (by simp)) (fun b o _ e=>u.there b o e (by simp)) u.tups u.frzs u.tbls (fun m' hm=>by
  obtain⟨o',zj,zk,iw,r'⟩:=hm;rw[ho]at iw;cases iw
  exact⟨_,zj,zk,hL,r'⟩) hok I.bare
theorem Inv.call(I:Inv X aa σ H s)(u:Un (frs X.stack) ch H H' s.heap h')(hok:HOk X.prog X.w H' h')(hg:AllBare g')
 (bv:∀b∈ch,(b∈X.ex\/X.s₀.heap.objs.size<=b)/\b≠X.env.locals/\(∀x c,X.env.cells.lookup x=some c->c≠b)/\∀p∈X.pn++aa,p.1≠b):
 Inv X aa σ H' {s with heap:=h',gens:=g',drawn:=d',toks:=t'}:=by
 obtain⟨m,⟨o,es,ep,ho,r⟩,_⟩:=id I.loc;obtain⟨sl,hL⟩:=u.any ho I.free fun z=>(bv _ z).2.1 rfl
 exact I.step (ch:=ch) bv (fun b o hL hb hc e n=>u.keep b o e n (fun z=>(bE.mp (I.stkSub b z)).elim hL hb) hc) (fun b o _ _ hc e n=>u.any e n hc) (fun b o hc e n=>u.free b o e n hc) (fun b o hc e=>u.there b o e hc) u.tups u.frzs u.tbls (fun m' hm=>by
  obtain⟨o',zj,zk,iw,r'⟩:=hm;rw[ho]at iw;cases iw
  exact⟨_,zj,zk,hL,r'⟩) hok hg
theorem Inv.turned{it:Addr}(I:Inv X aa σ H s)(k:∀b o,b≠it->s.heap.get? b=some o->h'.get? b=some o)(hn:H it=none)(hL:it≠X.env.locals)
 (h1:it∈X.ex\/X.s₀.heap.objs.size<=it)(h2:∀x c,X.env.cells.lookup x=some c->c≠it)(h3:∀p∈X.pn++aa,p.1≠it):Inv X aa σ H {s with heap:=h',toks:=t'}:=by
 have nit:∀b u,H b=some u->b≠it:=fun b u e z=>by rw[z,hn]at e;cases e
 refine I.step (g':=s.gens) (d':=s.drawn) (ch:=[it]) (fun b hb=>?_) (fun b o _ _ hc e _=>k b o (fun z=>hc (by simp[z])) e) (fun b o _ _ hc e _=>⟨o.slots,k b o (fun z=>hc (by simp[z])) e⟩) (fun _ _ _ _ n=>n)
  (fun b o hc e=>⟨o,k b o (fun z=>hc (by simp[z])) e⟩) (fun _ _ e=>e) (fun _ _ _ e=>e) (fun b ps e=>⟨#[],by rw[e];simp⟩) (fun m hm=>?_) (fun b u e=>?_) I.bare
 ·have e:b=it:=by simpa using hb
  subst e
  exact⟨h1,hL,h2,h3⟩
 ·obtain⟨o,es,ep,ho,r⟩:=hm
  exact⟨o,es,ep,k _ o (Ne.symm hL) ho,r⟩
 ·refine(I.hok b u e).stay (fun c v hc q=>k c v ?_ q) (fun _ q=>q) fun _ _ q=>q
  rcases hc with z|z
  ·rw[z];exact nit b u e
  ·exact nit c _ z
theorem Inv.tok(I:Inv X aa σ H s)(t:Nat):Inv X aa σ H {s with toks:=t}:=I.un (h':=s.heap) (t':=t) Un.refl I.hok
theorem Inv.kept(I:Inv X aa σ H s)(k:∀b u,s.heap.get? b=some u->h'.get? b=some u):Inv X aa σ H {s with heap:=h',toks:=t'}:=I.un (Un.kept k) (I.hok.kept k)
theorem Inv.laid{a:Addr}{o:HO}(I:Inv X aa σ H s)(k:∀b u,s.heap.get? b=some u->h'.get? b=some u)(hp:s.heap.objs.size<=a)(new:jK X.prog X.w (upd H a o) h' a o):
 Inv X aa σ (upd H a o) {s with heap:=h',toks:=t'}:=I.un (Un.laid k hp (I.hok.fresh hp)) (I.hok.laid k hp new)
theorem Inv.write{x e:Addr}{o:HO}(I:Inv X aa σ H s)(mu:Mut (H x))(he:e=x\/H e=some (.own x))(k:∀b u,b≠e->s.heap.get? b=some u->h'.get? b=some u)(pi:∃u,h'.get? e=some u)
 (new:jK X.prog X.w (upd H x o) h' x o):Inv X aa σ (upd H x o) {s with heap:=h',toks:=t'}:=I.un (Un.write mu he k pi) (I.hok.write mu he k pi new)
theorem Inv.pins_of{la:List (Addr×Obj)}(I:Inv X aa σ H s)(h:∀p∈la,s.heap.get? p.1=some p.2/\H p.1=none/\p.1≠X.env.locals/\p.1∉X.fs/\∀v,p.2.data≠ .cell v):Inv X la σ H s:=
 ⟨I.ok,I.os,I.bare,I.base,I.loc,I.cell,I.free,I.freeC,fun p hp=>(bK.mp hp).elim (fun z=>I.pin p (dR _ z)) (h p),I.hok,I.len⟩
theorem aBC{N:List Str}(hN:N.Nodup){j:Nat}(a:N[i]?=some x)(b:N[j]?=some x):i=j:=by
 obtain⟨h1,e1⟩:=aR.mp a;obtain⟨h2,e2⟩:=aR.mp b
 exact(aOU hN).mp (e1.trans e2.symm)
theorem z9(I:Inv X aa σ H s)(hN:X.N.Nodup)(hi:X.N[i]?=some x)(hx:Loc X.env.scope x)(r:RelV v u)
 (h:∀s',Inv X aa (σ.set i (some v)) H s'->(∃a,Heap.SameBut a s.heap s'.heap/\(a=X.env.locals\/X.env.cells.lookup x=some a))->Q () s')(hf:X.fn x=true\/X.env.scope.names.lookup x=some .local:=by first|exact .inl rfl|exact .inr rfl|assumption):wpAny M A (storeName X.env x u) Q E s:=by
 obtain⟨m,hn,hl⟩:=id I.loc;have yz:(X.env.scope.kind== .class||(X.env.scope.kind== .module&&X.env.locals !=X.env.globals))=false:=by rw[I.ok.kind];rfl
 have tz:i<σ.length:=by rw[I.len];exact(aR.mp hi).1
 have cne:=I.cne;have tracked:∀{a:Addr}{h':Heap},(∃o,s.heap.get? a=some o/\H a=none)->Heap.SameBut a s.heap h'->HOk X.prog X.w H h':=fun {a h'} ha hs b ob e=>by
  obtain⟨_,_,dn⟩:=ha
  refine(I.hok b ob e).stay (fun c w' hc q=>(hs.2 c ?_).trans q) (fun _ q=>q) fun _ _ q=>q
  rintro rfl;rcases hc with rfl|hc
  ·rw[dn]at e;cases e
  ·rw[dn]at hc;cases hc
 rcases hx with hk|hk
 ·refine wpAny_storeName_local hk hn (fun h' jl hs=>?_) yz
  obtain⟨oL,_,_,hoL,_⟩:=id hn
  refine h _ ⟨I.ok,I.os,I.bare,⟨fun b o e n hb hx=>?_,fun b o e n hb hx=>?_,I.base.free,fun b o e hx=>?_,I.base.tups,I.base.frzs,I.base.tbls⟩,⟨_,jl,fun j y v' e1 e2 e3=>?_⟩,fun y c e=>?_,I.free,I.freeC,fun p hp=>?_,tracked ⟨oL,hoL,I.free⟩ hs,by simpa using I.len⟩ ⟨_,hs,.inl rfl⟩
  ·exact(hs.2 b (bX (bS (Heap.lt_size e) I.ok.above))).trans (I.base.keep b o e n hb hx)
  ·obtain⟨sl,e1⟩:=I.base.slot b o e n hb hx
   exact⟨sl,(hs.2 b (bX (bS (Heap.lt_size e) I.ok.above))).trans e1⟩
  ·obtain⟨o',e1⟩:=I.base.there b o e hx
   exact⟨o',(hs.2 b (bX (bS (Heap.lt_size e) I.ok.above))).trans e1⟩
  ·by_cases hj:j=i
   ·subst hj;rw[hi]at e1;cases e1;rw[bQ tz]at e2;cases e2
    exact⟨u,r,.inl ⟨hk,by simp⟩⟩
   ·rw[aU (Ne.symm hj)]at e2;obtain⟨u',r',q⟩:=hl j y v' e1 e2 e3
    refine⟨u',r',?_⟩
    rcases q with⟨k,e⟩| ⟨k,c,e,z⟩
    ·refine .inl ⟨k,?_⟩
     have:y≠x:=fun e=>hj (aBC hN e1 (e ▸ hi))
     simp[this,e]
    ·exact .inr ⟨k,c,e,z.sameBut hs (cne y c e)⟩
  ·obtain⟨w',z⟩:=I.cell y c e
   exact⟨w',z.sameBut hs (cne y c e)⟩
  ·obtain⟨e,n,ne,nf,d⟩:=I.pin p hp
   exact⟨(hs.2 p.1 ne).trans e,n,ne,nf,d⟩
 ·have yt:X.fn x=true:=by
   rcases hf with z|z
   ·exact z
   ·rw[z]at hk;cases hk
  obtain⟨c,hc⟩:=I.ok.has x (.inl hk);obtain⟨w',z⟩:=I.cell x c hc
  refine wpAny_storeName_cell I.ok.kind hk hc z (fun h' pj hs=>?_)
  obtain⟨oc,hoc,yi⟩:=id z
  refine h {s with heap:=h'} ⟨I.ok,I.os,I.bare,⟨fun b o e n hb hx=>?_,fun b o e n hb hx=>?_,I.base.free,fun b o e hx=>?_,I.base.tups,I.base.frzs,I.base.tbls⟩,⟨m,hn.sameBut hs (Ne.symm (cne x c hc)),fun j y v' e1 e2 e3=>?_⟩,fun y c' e=>?_,I.free,I.freeC,fun p hp=>?_,tracked ⟨oc,hoc,I.freeC x c hc⟩ hs,by simpa using I.len⟩ ⟨c,hs,.inr hc⟩
  ·exact(hs.2 b (bX (bS (Heap.lt_size e) (I.ok.cab x c yt hc)))).trans (I.base.keep b o e n hb hx)
  ·obtain⟨sl,e1⟩:=I.base.slot b o e n hb hx
   exact⟨sl,(hs.2 b (bX (bS (Heap.lt_size e) (I.ok.cab x c yt hc)))).trans e1⟩
  ·obtain⟨o',e1⟩:=I.base.there b o e hx
   exact⟨o',(hs.2 b (bX (bS (Heap.lt_size e) (I.ok.cab x c yt hc)))).trans e1⟩
  ·by_cases hj:j=i
   ·subst hj;rw[hi]at e1;cases e1;rw[bQ tz]at e2;cases e2
    exact⟨u,r,.inr ⟨.inl hk,c,hc,pj⟩⟩
   ·rw[aU (Ne.symm hj)]at e2;obtain⟨u',r',q⟩:=hl j y v' e1 e2 e3
    refine⟨u',r',?_⟩
    rcases q with q| ⟨k,c',e,z'⟩
    ·exact .inl q
    ·refine .inr ⟨k,c',e,z'.sameBut hs ?_⟩
     rintro rfl
     exact hj (aBC hN e1 (I.ok.inj _ _ _ e hc ▸ hi))
  ·by_cases hcc:c'=c
   ·subst hcc;exact⟨_,pj⟩
   ·obtain⟨w2,z2⟩:=I.cell y c' e
    exact⟨w2,z2.sameBut hs hcc⟩
  ·obtain⟨e,n,ne,nf,d⟩:=I.pin p hp
   refine⟨(hs.2 p.1 ?_).trans e,n,ne,nf,d⟩
   intro q;rw[q,hoc]at e;have q':oc=p.2:=cH.inj e
   exact d w' (by rw[<-q'];exact yi)
theorem rX(I:Inv X aa σ H s)(hN:X.N.Nodup)(hi:X.N[i]?=some x)(hx:Loc X.env.scope x)(r:RelV v u)
 (h:∀s',Inv X aa (σ.set i (some v)) H s'->Q () s')(hf:X.fn x=true\/X.env.scope.names.lookup x=some .local:=by first|exact .inl rfl|exact .inr rfl|assumption):wpAny M A (storeName X.env x u) Q E s:=
 z9 I hN hi hx r (fun s' I' _=>h s' I') hf
theorem Inv.call'{s':Shared}(I:Inv X aa σ H s)(ho:s'.os=s.os)(u:Un (frs X.stack) ch H H' s.heap s'.heap)(hok:HOk X.prog X.w H' s'.heap)(hg:AllBare s'.gens)
 (bv:∀b∈ch,(b∈X.ex\/X.s₀.heap.objs.size<=b)/\b≠X.env.locals/\(∀x c,X.env.cells.lookup x=some c->c≠b)/\∀p∈X.pn++aa,p.1≠b):Inv X aa σ H' s':=by
 obtain⟨h',g',d',t',o'⟩:=s';have e:o'=s.os:=ho;subst e
 exact I.call (g':=g') (t':=t') (d':=d') u hok hg bv
end
abbrev XK:=Value->Option Addr->Hp->Prop
noncomputable abbrev St:=List (Option V)
abbrev VK:=V->Hp->Prop
abbrev TE:=St->Hp->VK->Prop
abbrev TT:=St->Hp->(Bool->Hp->Prop)->Prop
abbrev TA:=St->Hp->(List V->Hp->Prop)->Prop
structure Ends where
 nx:St->Hp->Prop
 rt:VK
 bk:St->Hp->Prop:=fun _ _=>False
 ct:St->Hp->Prop:=fun _ _=>False
abbrev TS:=Ends->St->Hp->Prop
def EP(X:Cx)(aa:List (Addr×Obj))(σ:St)(Q:VK)(u:Value)(s':Shared):Prop:=∃v H',Inv X aa σ H' s'/\RelV v u/\Q v H'
def TP(X:Cx)(aa:List (Addr×Obj))(σ:St)(Q:Bool->Hp->Prop)(b:Bool)(s':Shared):Prop:=∃H',Inv X aa σ H' s'/\Q b H'
def AP(X:Cx)(aa:List (Addr×Obj))(σ:St)(Q:List V->Hp->Prop)(us:List Value)(s':Shared):Prop:=∃vs H',Inv X aa σ H' s'/\Vals vs us/\Q vs H'
def SP(X:Cx)(aa:List (Addr×Obj))(D:Ends)(f:Flow)(s':Shared):Prop:=
 match f with
 | .next=>∃ai H',Inv X aa ai H' s'/\D.nx ai H'
 | .brk=>∃ai H',Inv X aa ai H' s'/\D.bk ai H'
 | .cont=>∃ai H',Inv X aa ai H' s'/\D.ct ai H'
 | .ret u=>∃v ai H',Inv X aa ai H' s'/\RelV v u/\D.rt v H'
def PE(X:Cx)(e:Expr)(t:TE):Prop:=
 ∀(aa:List (Addr×Obj))(s:Shared)(σ:St)(H:Hp)(Q:VK),Inv X aa σ H s->t σ H Q->wpAny (model X.prog X.w) X.A (eval e X.env) (EP X aa σ Q) X.xe s
def PT(X:Cx)(e:Expr)(t:TT):Prop:=
 ∀(aa:List (Addr×Obj))(s:Shared)(σ:St)(H:Hp)(Q:Bool->Hp->Prop),Inv X aa σ H s->t σ H Q->wpAny (model X.prog X.w) X.A (isTrue e X.env (eval e X.env)) (TP X aa σ Q) X.xe s
def PW(X:Cx)(e:Expr)(t:TT):Prop:=
 ∀(whole:Sem Value)(aa:List (Addr×Obj))(s:Shared)(σ:St)(H:Hp)(Q:Bool->Hp->Prop),Inv X aa σ H s->t σ H Q->wpAny (model X.prog X.w) X.A (isTrue e X.env whole) (TP X aa σ Q) X.xe s
theorem PW.pt{X:Cx}{e:Expr}{t:TT}(h:PW X e t):PT X e t:=h _
def PA(X:Cx)(es:List Expr)(t:TA):Prop:=
 ∀(pos:Pos)(aa:List (Addr×Obj))(s:Shared)(σ:St)(H:Hp)(Q:List V->Hp->Prop),Inv X aa σ H s->t σ H Q->wpAny (model X.prog X.w) X.A (spliced (backTo pos (starEach es X.env))) (AP X aa σ Q) X.xe s
def PS(X:Cx)(st:Stmt)(t:TS):Prop:=
 ∀(aa:List (Addr×Obj))(s:Shared)(σ:St)(H:Hp)(D:Ends),Inv X aa σ H s->t D σ H->wpAny (model X.prog X.w) X.A (exec st X.env) (SP X aa D) X.xe s
def PSs(X:Cx)(st:List Stmt)(t:TS):Prop:=
 ∀(aa:List (Addr×Obj))(s:Shared)(σ:St)(H:Hp)(D:Ends),Inv X aa σ H s->t D σ H->wpAny (model X.prog X.w) X.A (execs st X.env) (SP X aa D) X.xe s
theorem thn{α:Type}{t:Sem α}{Q Q':α->Shared->Prop}{M:Model}{A:Around}{E:Value->Shared->Prop}{s:Shared}(h:wpAny M A t Q E s)(hQ:∀a s,Q a s->Q' a s):wpAny M A t Q' E s:=wpAny_mono h hQ fun _ _ x=>x
section
variable {X:Cx}
variable{x:Str}{pos:Pos}{E Q:Value->Shared->Prop}{aa:List (Addr×Obj)}{s:Shared}{σ:St}{u:Value}{v:V}
noncomputable def tVar(i:Nat):TE:=fun σ H Q=>∃v,σ[i]?=some (some v)/\Q v H
noncomputable def tC(v:V):TE:=fun _ H Q=>Q v H
theorem aMJ{i:Nat}(hN:X.N[i]?=some x)(hv:Vis X.env.scope x)(hd:(x==("__debug__":Str))=false:=by decide)(jc:(x==("__classdict__":Str))=false:=by decide):PE X (.Name x pos) (tVar i):=by
 intro aa s σ H Q I h;obtain⟨v,e,h⟩:=h;obtain⟨m,hn,hl⟩:=I.loc;obtain⟨u,r,l⟩:=hl i x v hN e hv;have fin:EP X aa σ Q u s:=⟨v,H,I,r,h⟩;rcases l with⟨hk,hm⟩| ⟨hk,c,hc,lp⟩
 ·exact wpAny_Name (wpAny_loadName_local I.ok.kind hk hn hm fin) hd
 ·rcases hk with hk|hk
  ·exact wpAny_Name (wpAny_loadName_cell I.ok.kind hk hc lp fin) hd
  ·exact wpAny_Name (wpAny_loadName_free I.ok.kind hk hc lp fin jc) hd
theorem aCB{i j pos}:PE X (.Constant (.int i) j pos) (tC (.int i)):=fun _ _ _ H _ I h=>wpAny_Constant_int ⟨.int i,H,I.tok _,⟨_,rfl⟩,h⟩
theorem aNq{b j pos}:PE X (.Constant (.bool b) j pos) (tC (.bl b)):=fun _ _ _ H _ I h=>Constant_bool ⟨.bl b,H,I,rfl,h⟩
theorem aMu{j pos}:PE X (.Constant .none j pos) (tC .non):=fun _ _ _ H _ I h=>Constant_none ⟨.non,H,I,rfl,h⟩
def Gl(X:Cx)(x:Str):Prop:=X.env.kindOf x=some .globalImplicit
theorem aAY{H:Hp}(I:Inv X aa σ H s)(hg:Gl X x)(hm:X.mg x=some u)(h:Q u s)
 (hd:(x==("__debug__":Str))=false:=by decide):wpAny (model X.prog X.w) X.A (eval (.Name x pos) X.env) Q E s:=
 Calls.Name_function_global I.ok.kind hg (Calls.loadGlobal_global (by rw[I.ok.glob];exact I.mod.glob.keeps I.bk) hm h) hd
theorem o7{H:Hp}(I:Inv X aa σ H s)(hg:Gl X x)(hm:X.mg x=none)(hv:bootBuiltins x=some u)(h:Q u s)
 (hn:x≠"__name__":=by decide)(hd:(x==("__debug__":Str))=false:=by decide):wpAny (model X.prog X.w) X.A (eval (.Name x pos) X.env) Q E s:=by
 obtain⟨mb,h1,h2⟩:=I.mod.blt
 exact Calls.Name_function_global I.ok.kind hg (Calls.loadGlobal_builtin (by rw[I.ok.glob];exact I.mod.glob.keeps I.bk) hm (by rw[I.ok.blt];exact h1.keeps I.bk) ((h2 x hn).trans hv) h) hd
theorem aKc(hg:Gl X x)(hm:X.mg x=some u)(r:RelV v u)(hd:(x==("__debug__":Str))=false:=by decide):PE X (.Name x pos) (tC v):=
 fun _ _ _ H _ I h=>aAY I hg hm ⟨v,H,I,r,h⟩ hd
theorem aJT(hg:Gl X x)(hm:X.mg x=none)(hv:bootBuiltins x=some u)(r:RelV v u)(hn:x≠"__name__":=by decide)(hd:(x==("__debug__":Str))=false:=by decide):PE X (.Name x pos) (tC v):=
 fun _ _ _ H _ I h=>o7 I hg hm hv ⟨v,H,I,r,h⟩ hn hd
variable {a b:Expr}{ta tb:TE}{pos:Pos}
def PC(X:Cx)(op:CmpOp)(a b:Expr)(t:TE):Prop:=
 ∀(aa:List (Addr×Obj))(s:Shared)(σ:St)(H:Hp)(Q:VK),Inv X aa σ H s->t σ H Q->
  wpAny (model X.prog X.w) X.A (eval a X.env) (fun v ak=>wpAny (model X.prog X.w) X.A (eval b X.env) (fun u cb=>wpAny (model X.prog X.w) X.A (compareOp op v u) (EP X aa σ Q) X.xe cb) X.xe ak) X.xe s
noncomputable def tB(t:TE):TT:=fun σ H Q=>t σ H fun x H1=>∃c,x=.bl c/\Q c H1
theorem aHf{op:CmpOp}{t:TE}(h:PC X op a b t)(h1:behindInMarks op b=false:=by first|exact rf _ (by decide) (by decide)|rfl):PT X (.Compare a [op] [b] pos) (tB t):=by
 intro aa s σ H Q I hw
 refine wpAny_isTrue_Compare1 (thn (h aa s σ H _ I hw) fun v s1 h1=>thn h1 fun u s2 h2=>thn h2 fun c s3 ⟨x,H1,I1,r1,q1⟩=>?_) h1
 obtain⟨d,rfl,q⟩:=q1;cases r1
 exact wpAny_truthy_bool ⟨H1,I1,q⟩
variable {tA uz:TT}{rest:List Expr}
noncomputable def tAnd(t u:TT):TT:=fun σ H Q=>t σ H fun c H1=>if c=true then u σ H1 Q else Q false H1
noncomputable def tOr(t u:TT):TT:=fun σ H Q=>t σ H fun c H1=>if c=true then Q true H1 else u σ H1 Q
noncomputable def tNot(t:TT):TT:=fun σ H Q=>t σ H fun c H1=>Q (!c) H1
theorem aJ0(ha:PT X a tA):PW X (.BoolOp .And [a] pos) tA:=by
 intro wh aa s σ H Q I h
 refine isTrue_and (thn (ha aa s σ H Q I h) fun c s1 e=>?_)
 cases c with
 |true=>exact isTrue_and_nil e
 |false=>exact e
theorem aM4(ha:PT X a tA):PW X (.BoolOp .Or [a] pos) tA:=by
 intro wh aa s σ H Q I h
 refine isTrue_or (thn (ha aa s σ H Q I h) fun c s1 e=>?_)
 cases c with
 |false=>exact isTrue_or_nil e
 |true=>exact e
theorem aLp(ha:PT X a tA)(hb:PW X (.BoolOp .And (b::rest) pos) uz):PW X (.BoolOp .And (a::b::rest) pos) (tAnd tA uz):=by
 intro wh aa s σ H Q I h
 refine isTrue_and (thn (ha aa s σ H _ I h) fun c s1 ⟨H1,I1,q1⟩=>?_)
 cases c with
 |true=>exact hb wh aa s1 σ H1 Q I1 q1
 |false=>exact⟨H1,I1,q1⟩
theorem aN5(ha:PT X a tA)(hb:PW X (.BoolOp .Or (b::rest) pos) uz):PW X (.BoolOp .Or (a::b::rest) pos) (tOr tA uz):=by
 intro wh aa s σ H Q I h
 refine isTrue_or (thn (ha aa s σ H _ I h) fun c s1 ⟨H1,I1,q1⟩=>?_)
 cases c with
 |true=>exact⟨H1,I1,q1⟩
 |false=>exact hb wh aa s1 σ H1 Q I1 q1
theorem aLi(ha:PT X a tA):PT X (.UnaryOp .Not a pos) (tNot tA):=by
 intro aa s σ H Q I h
 exact isTrue_not (ha aa s σ H (fun c H1=>Q (!c) H1) I h)
noncomputable def tAndV(ta tb:TE):TE:=fun σ H Q=>ta σ H fun x H1=>∃c,x=.bl c/\if c=true then tb σ H1 Q else Q (.bl false) H1
noncomputable def tNotV(ta:TE):TE:=fun σ H Q=>ta σ H fun x H1=>∃c,x=.bl c/\Q (.bl (!c)) H1
theorem aM1{op}{t:TE}(h:PE X a t):PE X (.BoolOp op [a] pos) t:=fun aa s σ H Q I hw=>BoolOp_one (h aa s σ H Q I hw)
theorem aLj(ha:PE X a ta)(hb:PE X (.BoolOp .And (b::rest) pos) tb):PE X (.BoolOp .And (a::b::rest) pos) (tAndV ta tb):=by
 intro aa s σ H Q I h
 refine BoolOp_and (thn (ha aa s σ H _ I h) fun v s1 zz=>?_)
 obtain⟨x,H1,I1,r1,q1⟩:=zz;obtain⟨c,rfl,q1⟩:=q1;cases r1
 refine wpAny_truthy_bool ?_
 cases c with
 |true=>exact hb aa s1 σ H1 Q I1 q1
 |false=>exact⟨.bl false,H1,I1,rfl,q1⟩
theorem aMX(ha:PE X a ta):PE X (.UnaryOp .Not a pos) (tNotV ta):=by
 intro aa s σ H Q I h
 refine UnaryOp_ (thn (ha aa s σ H _ I h) fun v s1 zz=>?_)
 obtain⟨x,H1,I1,r1,q1⟩:=zz;obtain⟨c,rfl,q1⟩:=q1;cases r1
 exact not_of (wpAny_truthy_bool ⟨.bl (!c),H1,I1,rfl,q1⟩)
end
variable{x:V}{u:Value}
def SqL(K:aO)(H:Hp)(a:Addr)(xs:List V):Prop:=
 Rd H a (.lst xs)\/
  ∃(o:Obj)(its:Array Value)(n:Nat),K.lookup a=some o/\o.cls=.type "list"/\o.dict=none/\o.data=.seq its n/\its.size<=sizeLine/\Vals xs its.toList
def SqT(K:aO)(H:Hp)(a:Addr)(xs:List V):Prop:=
 Rd H a (.tup xs)\/
  ∃(o:Obj)(its:Array Value)(n:Nat),K.lookup a=some o/\o.cls=.type "tuple"/\o.data=.seq its n/\its.size<=sizeLine/\Vals xs its.toList
noncomputable def absV:Value->Option V
 | .none=>some .non
 | .bool b=>some (.bl b)
 | .int i _=>some (.int i)
 | .str x _=>some (.str x)
 | .bytes b _=>some (.byt b)
 | .float b _=>some (.flt b)
 | .ref a=>some (.ref a)
 | .type n=>some (.ty n)
 |_=>none
theorem RelV.abs(r:RelV x u):absV u=some x:=by
 cases x with
 |non=>cases r;rfl
 |bl _=>cases r;rfl
 |int _=>obtain⟨t,rfl⟩:=r;rfl
 |str _=>obtain⟨t,rfl⟩:=r;rfl
 |byt _=>obtain⟨t,rfl⟩:=r;rfl
 |flt _=>obtain⟨t,rfl⟩:=r;rfl
 |ref _=>cases r;rfl
 |ty _=>cases r;rfl
theorem RelV.inj{y:V}(r:RelV x u)(q:RelV y u):x=y:=cH.inj (r.abs.symm.trans q.abs)
theorem Vals.inj:∀{xs ys:List V}{us:List Value},Vals xs us->Vals ys us->xs=ys
 |_,_,_,.nil,.nil=>rfl
 |_,_,_,.cons r t,.cons r' t'=>by rw[r.inj r',Vals.inj t t']
section
variable {X:Cx}{aa:List (Addr×Obj)}{σ:St}{H:Hp}{s:Shared}{a:Addr}{xs ys:List V}
variable{K:aO}
theorem SqL.of(h:H a=some (.lst xs)):SqL K H a xs:=.inl (.inl h)
theorem SqT.of(h:H a=some (.tup xs)):SqT K H a xs:=.inl (.inl h)
theorem Inv.list(I:Inv X aa σ H s)(h:SqL X.K H a xs):∃its:List Value,Vals xs its/\PlainL s.heap a its.toArray/\xs.length<=sizeLine:=by
 rcases h with h| ⟨o,its,n,hk,hc,hd,hs,hz,r⟩
 ·obtain⟨z,its,n,r,e⟩:=h.ok I.hok
  exact⟨its,r,⟨_,n,e,rfl,rfl,rfl⟩,z⟩
 ·refine⟨its.toList,r,⟨o,n,I.kIn a o hk,hc,hd,by simpa using hs⟩,?_⟩
  have e:=r.length;simp only[b9]at e
  lia
theorem Inv.tuple(I:Inv X aa σ H s)(h:SqT X.K H a xs):∃its:List Value,Vals xs its/\IsTup s.heap a its.toArray/\xs.length<=sizeLine:=by
 rcases h with h| ⟨o,its,n,hk,hc,hs,hz,r⟩
 ·obtain⟨z,its,r,p⟩:=h.ok I.hok
  exact⟨its,r,p,z⟩
 ·refine⟨its.toList,r,⟨o,I.kIn a o hk,hc,n,by simpa using hs⟩,?_⟩
  have e:=r.length;simp only[b9]at e
  lia
theorem Inv.list_inj(I:Inv X aa σ H s)(h:SqL X.K H a xs)(h':SqL X.K H a ys):xs=ys:=by
 obtain⟨its,r,⟨o,n,e,_,_,d⟩,_⟩:=I.list h;obtain⟨its',r',⟨o',n',e',_,_,d'⟩,_⟩:=I.list h';rw[e]at e';cases e';rw[d]at d';injection d' with d1 _
 have:its=its':=by simpa using congrArg Array.toList d1
 subst this
 exact r.inj r'
end
noncomputable abbrev Cx.wish(X:Cx)(E:Value->Shared->Prop):Cx:={X with xe:=E}
abbrev Cx.nox(X:Cx):Cx:=X.wish fun _ _=>False
theorem Cx.Ok.wish{X:Cx}(ok:X.Ok)(E:Value->Shared->Prop):(X.wish E).Ok:=
 ⟨ok.mod,ok.kind,ok.glob,ok.blt,ok.above,ok.inj,ok.has,ok.cab,ok.hd,ok.frames,ok.stk,ok.exf,ok.bs,ok.bsz,ok.noex,ok.exfs,ok.funs,ok.frf⟩
theorem Cx.Ok.unwish{X:Cx}{E:Value->Shared->Prop}(ok:(X.wish E).Ok):X.Ok:=
 ⟨ok.mod,ok.kind,ok.glob,ok.blt,ok.above,ok.inj,ok.has,ok.cab,ok.hd,ok.frames,ok.stk,ok.exf,ok.bs,ok.bsz,ok.noex,ok.exfs,ok.funs,ok.frf⟩
section
variable {X:Cx}{aa:List (Addr×Obj)}{σ:St}{H:Hp}{s:Shared}{E:Value->Shared->Prop}
theorem Inv.wish(I:Inv X aa σ H s)(E:Value->Shared->Prop):Inv (X.wish E) aa σ H s:=⟨I.ok.wish E,I.os,I.bare,I.base,I.loc,I.cell,I.free,I.freeC,I.pin,I.hok,I.len⟩
theorem Inv.unwish(I:Inv (X.wish E) aa σ H s):Inv X aa σ H s:=⟨I.ok.unwish,I.os,I.bare,I.base,I.loc,I.cell,I.free,I.freeC,I.pin,I.hok,I.len⟩
theorem SP.unwish{D:Ends}{f:Flow}{s':Shared}(h:SP (X.wish E) aa D f s'):SP X aa D f s':=by
 cases f with
 |next=>obtain⟨ai,H',I,q⟩:=h;exact⟨ai,H',I.unwish,q⟩
 |brk=>obtain⟨ai,H',I,q⟩:=h;exact⟨ai,H',I.unwish,q⟩
 |cont=>obtain⟨ai,H',I,q⟩:=h;exact⟨ai,H',I.unwish,q⟩
 |ret u=>obtain⟨v,ai,H',I,r,q⟩:=h;exact⟨v,ai,H',I.unwish,r,q⟩
theorem PSs.nox{st:List Stmt}{t:TS}(h:PSs X.nox st t):PSs X st t:=fun aa s σ H D I hw=>
 wpAny_mono (h aa s σ H D (I.wish _) hw) (fun _ _ q=>q.unwish) fun _ _ z=>False.elim z
end
section
variable {X:Cx}{st:Stmt}{rest:List Stmt}{t u:TS}{e:Expr}{te:TE}{pos:Pos}
noncomputable def aHc:TS:=fun D σ H=>D.nx σ H
noncomputable def tSeq(t u:TS):TS:=fun D σ H=>t {D with nx:=u D} σ H
theorem aI9:PSs X [] aHc:=fun _ _ σ H _ I h=>wpAny_execs_nil ⟨σ,H,I,h⟩
theorem aF9(h1:PS X st t)(h2:PSs X rest u):PSs X (st::rest) (tSeq t u):=by
 intro aa s σ H D I h
 refine wpAny_execs_cons (thn (h1 aa s σ H {D with nx:=u D} I h) fun f s1 q=>?_)
 cases f with
 |next=>
  obtain⟨ai,H',I',q⟩:=q
  exact h2 aa s1 ai H' D I' q
 |ret v=>exact q
 |brk=>exact q
 |cont=>exact q
theorem aIM(h1:PS X st t):PSs X [st] t:=by
 intro aa s σ H D I h
 refine wpAny_execs_cons (thn (h1 aa s σ H D I h) fun f s1 q=>?_)
 cases f with
 |next=>exact wpAny_execs_nil q
 |ret v=>exact q
 |brk=>exact q
 |cont=>exact q
theorem aKv:PS X (.Pass pos) aHc:=fun _ _ σ H _ I h=>wpAny_Pass ⟨σ,H,I,h⟩
theorem Inv.quiet{aa:List (Addr×Obj)}{σ:St}{H:Hp}{s:Shared}(I:Inv X aa σ H s):interactive X.env=false:=by simp[interactive,I.ok.kind]
noncomputable def aHa(te:TE):TS:=fun D σ H=>te σ H fun _ H1=>D.nx σ H1
theorem aAU(he:PE X e te)(hs:swapsWith e none pos.line X.env=pure false:=by rfl):PS X (.Expr e pos) (aHa te):=by
 intro aa s σ H D I h
 exact wpAny_Expr_any (thn (he aa s σ H _ I h) fun v s1 ⟨x,H1,I1,r1,q1⟩=>⟨σ,H1,I1,q1⟩) I.quiet hs
def tRet(te:TE):TS:=fun D σ H=>te σ H D.rt
theorem aM9(he:PE X e te):PS X (.Return (some e) pos) (tRet te):=by
 intro aa s σ H D I h
 exact wpAny_Return_some (thn (he aa s σ H _ I h) fun v s1 ⟨x,H1,I1,r1,q1⟩=>⟨x,σ,H1,I1,r1,q1⟩)
noncomputable def tIfS(c:TT)(t u:TS):TS:=fun D σ H=>c σ H fun b H1=>if b=true then t D σ H1 else u D σ H1
theorem aNV{c:Expr}{a b:List Stmt}{tc:TT}(hc:PT X c tc)(ha:PSs X a t)(hb:PSs X b u):PS X (.If c a b pos) (tIfS tc t u):=by
 intro aa s σ H D I h
 refine wpAny_If (thn (hc aa s σ H _ I h) fun d s1 ⟨H1,I1,q1⟩=>?_)
 cases d with
 |true=>exact ha aa s1 σ H1 D I1 q1
 |false=>exact hb aa s1 σ H1 D I1 q1
end
abbrev TG:=V->St->Hp->(St->Hp->Prop)->Prop
abbrev TGs:=List V->St->Hp->(St->Hp->Prop)->Prop
def PG(X:Cx)(target:Expr)(t:TG):Prop:=
 ∀(aa:List (Addr×Obj))(s:Shared)(σ:St)(H:Hp)(v:V)(u:Value)(Q:St->Hp->Prop),Inv X aa σ H s->RelV v u->t v σ H Q->
  wpAny (model X.prog X.w) X.A (assign target X.env u) (fun _ s'=>∃ai H',Inv X aa ai H' s'/\Q ai H') X.xe s
def PGs(X:Cx)(ts:List Expr)(t:TGs):Prop:=
 ∀(aa:List (Addr×Obj))(s:Shared)(σ:St)(H:Hp)(vs:List V)(us:List Value)(Q:St->Hp->Prop),Inv X aa σ H s->Vals vs us->t vs σ H Q->
  wpAny (model X.prog X.w) X.A (assignInOrder ((assignEach ts X.env).map (·.2)) us) (fun _ s'=>∃ai H',Inv X aa ai H' s'/\Q ai H') X.xe s
abbrev aHX:=V->V->V->Hp->(Hp->Prop)->Prop
def aLL(X:Cx)(t:aHX):Prop:=
 ∀(aa:List (Addr×Obj))(s:Shared)(σ:St)(H:Hp)(o i v:V)(ov iv u:Value)(Q:Hp->Prop),Inv X aa σ H s->RelV o ov->RelV i iv->RelV v u->t o i v H Q->
  wpAny (model X.prog X.w) X.A (setItem ov iv u) (fun _ s'=>∃H',Inv X aa σ H' s'/\Q H') X.xe s
abbrev TIp:=V->V->Hp->VK->Prop
def PIp(X:Cx)(op:Operator)(t:TIp):Prop:=
 ∀(aa:List (Addr×Obj))(s:Shared)(σ:St)(H:Hp)(x y:V)(v u:Value)(Q:VK),Inv X aa σ H s->RelV x v->RelV y u->t x y H Q->
  wpAny (model X.prog X.w) X.A (inplaceOp op v u) (EP X aa σ Q) X.xe s
section
variable {X:Cx}{pos:Pos}
variable{i:Nat}{e:Expr}{es:List Expr}{to ti te:TE}
noncomputable def sL(i:Nat):TG:=fun v σ H Q=>Q (σ.set i (some v)) H
theorem aDD{x:Str}(hN:X.N.Nodup)(hi:X.N[i]?=some x)(hx:Loc X.env.scope x)(hf:X.fn x=true\/X.env.scope.names.lookup x=some .local:=by first|exact .inl rfl|exact .inr rfl|assumption):PG X (.Name x pos) (sL i):=by
 intro aa s σ H v u Q I r h
 exact wpAny_assign_Name (rX I hN hi hx r (fun s' I'=>⟨_,H,I',h⟩) hf)
noncomputable def aJz:TGs:=fun vs σ H Q=>vs=[]/\Q σ H
noncomputable def aEv(t:TG)(u:TGs):TGs:=fun vs σ H Q=>∃v r,vs=v::r/\t v σ H fun ai H'=>u r ai H' Q
theorem aJd:PGs X [] aJz:=by
 intro aa s σ H vs us Q I r h;obtain⟨e,h⟩:=h;subst e;cases r
 exact assignInOrder_nil ⟨σ,H,I,h⟩
theorem aGa{t:TG}{u:TGs}(h1:PG X e t)(h2:PGs X es u)
 (hs:(assignEach (e::es) X.env).map (·.2)=assign e X.env::(assignEach es X.env).map (·.2):=by rfl):PGs X (e::es) (aEv t u):=by
 intro aa s σ H vs us Q I r h;obtain⟨v,vr,e1,h⟩:=h;subst e1;cases r with
 |cons r rr=>
  rw[hs]
  refine assignInOrder_cons (thn (h1 aa s σ H _ _ _ I r h) fun _ s1 zz=>?_)
  obtain⟨cz,H1,I1,q1⟩:=zz
  exact h2 aa s1 cz H1 _ _ Q I1 rr q1
noncomputable def gTup(K:aO)(n:Nat)(t:TGs):TG:=fun v σ H Q=>∃a xs,v=.ref a/\SqT K H a xs/\xs.length=n/\t xs σ H Q
theorem aLx{k:Nat}{t:TGs}{n:Nat}(hc:X.calm=true)(h:PGs X es t)
 (hn:(assignEach es X.env).length=n:=by rfl)(bj:(assignEach es X.env).findIdx? (·.1)=none:=by rfl):PG X (.Tuple es k pos) (gTup X.K n t):=by
 intro aa s σ H v u Q I r hw;obtain⟨a,xs,e1,hq,hl,hw⟩:=hw;subst e1;cases r;obtain⟨its,rv,ht,hz⟩:=I.tuple hq
 refine assign_Tuple_tuple (I.ok.hd hc) ht (by simp[hn,<-hl,rv.length]) bj fun h' hx=>?_
 have I1:Inv X aa σ H {s with heap:=h'}:=I.kept (t':=s.toks) fun b o e=>hx b o (bX (Heap.lt_size e)) e
 exact h aa _ σ H xs _ Q I1 (by simpa using rv) hw
noncomputable def gSub(to ti:TE)(t:aHX):TG:=fun v σ H Q=>to σ H fun o H1=>ti σ H1 fun i H2=>t o i v H2 fun H3=>Q σ H3
theorem aLF{o i:Expr}{t:aHX}(ho:PE X o to)(hi:PE X i ti)(hs:aLL X t)
 (ha:∀v,assign (.Subscript o i pos) X.env v=(do
  let ov<-holding [v] (eval o X.env)
  let iv<-holding [v,ov] (eval i X.env)
  standAt pos
  holding [v,ov,iv] (setItem ov iv v)
  release [v,ov,iv] []):=by intro _;rfl):PG X (.Subscript o i pos) (gSub to ti t):=by
 intro aa s σ H v u Q I r h;rw[ha]
 refine wpAny_bind (wpAny_holding (thn (ho aa s σ H _ I h) fun ov s1 zz=>?_))
 obtain⟨x,H1,I1,r1,q1⟩:=zz
 refine wpAny_bind (wpAny_holding (thn (hi aa s1 σ H1 _ I1 q1) fun iv s2 zz=>?_))
 obtain⟨y,H2,I2,r2,q2⟩:=zz
 refine wpAny_bind (wpAny_standAt (wpAny_bind (wpAny_holding (thn (hs aa s2 σ H2 x y v ov iv u _ I2 r1 r2 r q2) fun _ s3 ⟨H3,I3,q3⟩=>?_))))
 exact wpAny_release ⟨σ,H3,I3,q3⟩
noncomputable def aC8(te:TE)(g:TG):TS:=fun D σ H=>te σ H fun x H1=>g x σ H1 D.nx
theorem aIe{tg:Expr}{g:TG}(he:PE X e te)(hg:PG X tg g)(hs:swapsWithSole [tg] e pos.line X.env=pure false:=by rfl)(hw:swappedStores [tg] e X.env=pure none:=by rfl)
 (h1:(assignEach [tg] X.env).map (·.2)=[assign tg X.env]:=by rfl):PS X (.Assign [tg] e pos) (aC8 te g):=by
 intro aa s σ H D I h
 refine wpAny_Assign_stores (thn (he aa s σ H _ I h) fun v s1 ⟨x,H1,I1,r1,q1⟩=>?_) hs hw
 rw[h1]
 exact thn (hg aa s1 σ H1 x v _ I1 r1 q1) fun _ s2 q=>q
theorem aMI{x:Str}{ar:Pos}(hN:X.N.Nodup)(hi:X.N[i]?=some x)(hx:Loc X.env.scope x)(he:PE X e te)(hs:swapsWith e (some (.Name x ar)) pos.line X.env=pure false:=by rfl)(hf:X.fn x=true\/X.env.scope.names.lookup x=some .local:=by first|exact .inl rfl|exact .inr rfl|assumption):
 PS X (.Assign [.Name x ar] e pos) (aC8 te (sL i)):=by
 intro aa s σ H D I h
 refine wpAny_Assign_Name (thn (he aa s σ H _ I h) fun v s1 ⟨y,H1,I1,r1,q1⟩=>?_) hs
 exact rX I1 hN hi hx r1 (fun s2 I2=>⟨_,H1,I2,q1⟩) hf
noncomputable def tPar(i j:Nat)(ta:TA):TS:=fun D σ H=>ta σ H fun vs H1=>∃v w,vs=[v,w]/\D.nx ((σ.set i (some v)).set j (some w)) H1
theorem aMy{j:Nat}{x y:Str}{a b:Expr}{ta:TA}{px py pt:Pos}{kt k2 me}(hc:X.calm=true)(hN:X.N.Nodup)(hi:X.N[i]?=some x)(hj:X.N[j]?=some y)(i':i≠j)
 (hx:X.env.scope.names.lookup x=some .local)(hy:X.env.scope.names.lookup y=some .local)(ha:PA X [a,b] ta)
 (hw:swappedStores [.Tuple [.Name x px,.Name y py] kt pt] (.Tuple [a,b] k2 me) X.env=pure (some [x,y]))
 (hs:swapsWithSole [.Tuple [.Name x px,.Name y py] kt pt] (.Tuple [a,b] k2 me) pos.line X.env=pure false:=by rfl):
 PS X (.Assign [.Tuple [.Name x px,.Name y py] kt pt] (.Tuple [a,b] k2 me) pos) (tPar i j ta):=by
 intro aa s σ H D I h;rw[exec_Assign_arm]
 refine wpAny_bind (wpAny_standAt ?_)
 rw[hs]
 refine wpAny_bind (wpAny_pure ?_)
 rw[if_neg (by decide)]
 refine wpAny_bind (Tuple_ (thn (ha _ aa s σ H _ I h) fun us s1 zz=>?_))
 obtain⟨vs,H1,I1,r1,q1⟩:=zz;obtain⟨v,w,e1,q1⟩:=q1;subst e1;obtain⟨u1,u2,rfl,rv,dh⟩:∃u1 u2,us=[u1,u2]/\RelV v u1/\RelV w u2:=by
  cases r1 with
  |cons p q=>
   cases q with
   |cons p' q'=>
    cases q'
    exact⟨_,_,rfl,p,p'⟩
 refine wpAny_newObj_type ?_ (by show 2<=sizeLine;decide)
 have I2:Inv X aa σ H1 {s1 with heap:=s1.heap.push {cls:=.type "tuple",data:=.seq [u1,u2].toArray}}:=I1.kept (t':=s1.toks) fun b o e=>Heap.get?_push_of_some _ e
 rw[hw]
 refine wpAny_bind (wpAny_pure ?_)
 show wpAny (model X.prog X.w) X.A (do rule "assign.swapped-stores";let items<-unpackItems (.ref s1.heap.objs.size) 2 none;assignInOrder [fun v=>bindName X.env y v,fun v=>bindName X.env x v] items.reverse;pure Flow.next) _ _ _
 refine wpAny_bind (wpAny_rule (wpAny_bind (unpackItems_tuple (items:=#[u1,u2]) (I.ok.hd hc) (IsTup.new s1.heap _) fun h' lf=>?_)))
 have I3:=I2.kept (h':=h') (t':=s1.toks) fun b o e=>lf b o (bX (Heap.lt_size e)) e
 show wpAny _ _ (assignInOrder [fun v=>bindName X.env y v,fun v=>bindName X.env x v] [u2,u1]>>=fun _=>pure Flow.next) _ _ _
 refine wpAny_bind (assignInOrder_cons (wpAny_bindName (rX I3 hN hj (.inl hy) dh (fun s2 I4=>?_) (.inr hy))))
 refine assignInOrder_cons (wpAny_bindName (rX I4 hN hi (.inl hx) rv (fun s3 I5=>assignInOrder_nil (wpAny_pure ?_)) (.inr hx)))
 rw[List.set_comm _ _ (Ne.symm i')]at I5
 exact⟨_,H1,I5,q1⟩
noncomputable def tAugS(to ti te:TE)(jv:V->V->Hp->VK->Prop)(uy:TIp)(ju:aHX):TS:=fun D σ H=>to σ H fun o H1=>ti σ H1 fun i H2=>jv o i H2 fun x H3=>te σ H3 fun y H4=>uy x y H4 fun z H5=>ju o i z H5 fun H6=>D.nx σ H6
def PGet(X:Cx)(t:V->V->Hp->VK->Prop):Prop:=
 ∀(aa:List (Addr×Obj))(s:Shared)(σ:St)(H:Hp)(o i:V)(ov iv:Value)(Q:VK),Inv X aa σ H s->RelV o ov->RelV i iv->t o i H Q->
  wpAny (model X.prog X.w) X.A (getItem ov iv) (EP X aa σ Q) X.xe s
theorem aKH{o i:Expr}{jv:V->V->Hp->VK->Prop}{uy:TIp}{ju:aHX}{op:Operator}{az:Pos}(ho:PE X o to)(hi:PE X i ti)(hg:PGet X jv)(he:PE X e te)(hp:PIp X op uy)(hs:aLL X ju)
 (ha:∀ov iv new,augStore i ov iv new=(do holding [new,ov,iv] (setItem ov iv new);release [new,ov,iv] [];pure .next):=by intros;rfl):PS X (.AugAssign (.Subscript o i az) op e pos) (tAugS to ti te jv uy ju):=by
 intro aa s σ H D I h
 refine wpAny_AugAssign_SubscriptAny (thn (ho aa s σ H _ I h) fun ov s1 ⟨x1,H1,I1,r1,q1⟩=>?_) ha
 refine thn (hi aa s1 σ H1 _ I1 q1) fun iv s2 zz=>?_
 obtain⟨x2,H2,I2,r2,q2⟩:=zz
 refine thn (hg aa s2 σ H2 x1 x2 ov iv _ I2 r1 r2 q2) fun old s3 zz=>?_
 obtain⟨x3,H3,I3,r3,q3⟩:=zz
 refine thn (he aa s3 σ H3 _ I3 q3) fun v s4 zz=>?_
 obtain⟨x4,H4,I4,r4,q4⟩:=zz
 refine thn (hp aa s4 σ H4 x3 x4 old v _ I4 r3 r4 q4) fun new s5 zz=>?_
 obtain⟨x5,H5,I5,r5,q5⟩:=zz
 exact thn (hs aa s5 σ H5 x1 x2 x5 ov iv new _ I5 r1 r2 r5 q5) fun _ s6 ⟨H6,I6,q6⟩=>⟨σ,H6,I6,q6⟩
noncomputable def ipI(f:Int->Int->Int):TIp:=fun x y H Q=>∃i j,x=.int i/\y=.int j/\Q (.int (f i j)) H
theorem aMB:PIp X .Add (ipI fun i j=>i+j):=by
 intro aa s σ H x y v u Q I r1 r2 h;obtain⟨i,j,e1,e2,q⟩:=h;subst e1;subst e2;obtain⟨t,rfl⟩:=r1;obtain⟨t',rfl⟩:=r2
 exact iadd_int ⟨.int _,H,I.tok _,⟨_,rfl⟩,q⟩
end
section
variable {X:Cx}{pos:Pos}
def tWhile(c:TT)(tb:TS):TS:=fun D σ H=>∃W:Nat->St->Hp->Prop,(∃m,W m σ H)/\∀m σ H,W m σ H->
 c σ H fun b H1=>if b=true then∃N:St->Hp->Prop,(∀ai H',N ai H'->∃m',m'<m/\W m' ai H')/\tb {D with nx:=N,ct:=N,bk:=D.nx} σ H1 else D.nx σ H1
theorem aG5{c:Expr}{body:List Stmt}{tc:TT}{tb:TS}(hp:PassesOwn (model X.prog X.w) X.A X.env X.xe)(hc:PT X c tc)(hb:PSs X body tb):PS X (.While c body [] pos) (tWhile tc tb):=by
 intro aa s σ H D I h;obtain⟨W,⟨m0,w0⟩,turn⟩:=h
 refine wpAny_While (codeAny_whileLoop (fun n s'=>∃ai H',Inv X aa ai H' s'/\W n ai H') ?_ m0 ⟨σ,H,I,w0⟩)
 rintro n s1 ⟨cz,H1,I1,w1⟩
 refine wpAny_passesOwn hp (thn (hc aa s1 cz H1 _ I1 (turn n cz H1 w1)) fun b s2 ⟨H2,I2,q2⟩=>?_)
 cases b with
 |true=>
  obtain⟨N,hN,q2⟩:=q2;rw[if_pos rfl]
  refine wpAny_passesOwn hp (thn (hb aa s2 cz H2 _ I2 q2) fun f s3 q3=>?_)
  cases f with
  |next=>
   obtain⟨cq,H3,I3,n3⟩:=q3;obtain⟨m',hm,w3⟩:=hN cq H3 n3
   exact⟨m',hm,cq,H3,I3,w3⟩
  |cont=>
   obtain⟨cq,H3,I3,n3⟩:=q3;obtain⟨m',hm,w3⟩:=hN cq H3 n3
   exact⟨m',hm,cq,H3,I3,w3⟩
  |brk=>exact q3
  |ret v=>exact q3
 |false=>
  rw[if_neg b5]
  exact wpAny_execs_nil ⟨cz,H2,I2,q2⟩
end
variable{s:Shared}{tg:Expr}{P:Program}{w:World}{K:aO}
structure It where
 go:Nat->Hp->Prop
 yld:Nat->Hp->V->Hp->Prop
 stop:Nat->Hp->Prop
def tO(X:Cx)(aa:List (Addr×Obj))(H:Hp)(b:Addr):Prop:=
 H b=none/\b≠X.env.locals/\b∉X.fs/\(b∈X.ex\/X.s₀.heap.objs.size<=b)/\(∀x c,X.env.cells.lookup x=some c->c≠b)/\∀p∈X.pn++aa,p.1≠b
theorem Inv.fpOk{X:Cx}{aa:List (Addr×Obj)}{σ:St}{H H':Hp}{b:Addr}(I:Inv X aa σ H s)(hb:s.heap.objs.size<=b)(hn:H' b=none):tO X aa H' b:=by
 refine⟨hn,Nat.ne_of_gt (bS I.lt hb),I.nofs hb,.inr (cA I.sz hb),fun x c e z=>?_,fun p hp z=>?_⟩
 ·obtain⟨v,q⟩:=I.cell x c e
  exact absurd (bS q.lt (by rw[z];exact hb)) (cV _)
 ·exact absurd (bS (Heap.lt_size (I.pin p hp).1) (by rw[z];exact hb)) (cV _)
structure Turn(P:Program)(w:World)(K:aO)(tg:Expr)(J:It)(fp:List Addr)(it:Addr)(tn:Nat->Heap->Prop):Prop where
 mem:it∈fp
 obj:∀i h,tn i h->∀b∈fp,∃o,h.get? b=some o/\∀v,o.data≠ .cell v
 keep:∀i h h',tn i h->(∀b∈fp,∀o,h.get? b=some o->h'.get? b=some o)->tn i h'
 item:∀(X:Cx),X.prog=P->X.w=w->X.K=K->X.calm=true->∀(i:Nat)(aa:List (Addr×Obj))(s:Shared)(σ:St)(H:Hp)(E:Value->Shared->Prop),Inv X aa σ H s->(∀b∈fp,tO X aa H b)->tn i s.heap->J.go i H->
  wpAny (model P w) X.A (pyNext (.ref it)) (fun r s1=>∃u,r=some u/\
   wpAny (model P w) X.A (letOwnedTupleGo tg (.ref it) u) (fun _ s2=>∃x H',Inv X aa σ H' s2/\RelV x u/\J.yld i H x H'/\tn (i+1) s2.heap/\∀b∈fp,H' b=none) E s1) E s
 done:∀(X:Cx),X.prog=P->X.w=w->X.K=K->X.calm=true->∀(i:Nat)(aa:List (Addr×Obj))(s:Shared)(σ:St)(H:Hp)(E:Value->Shared->Prop),Inv X aa σ H s->(∀b∈fp,tO X aa H b)->tn i s.heap->J.stop i H->
  wpAny (model P w) X.A (pyNext (.ref it)) (fun r s1=>r=none/\Inv X aa σ H s1) E s
 self:∀(A:Around)(i:Nat)(s:Shared)(Q:Value->Shared->Prop)(E:Value->Shared->Prop),tn i s.heap->Q (.ref it) s->wpAny (model P w) A (pyIter (.ref it)) Q E s
abbrev TI:=St->Hp->(It->Hp->Prop)->Prop
def PIE(X:Cx)(aa:List (Addr×Obj))(σ:St)(tg:Expr)(R:It->Hp->Prop)(vm:Value)(s2:Shared):Prop:=
 ∃(it:Addr)(fp:List Addr)(tn:Nat->Heap->Prop)(J:It)(H':Hp),vm=.ref it/\Inv X aa σ H' s2/\Turn X.prog X.w X.K tg J fp it tn/\tn 0 s2.heap/\(∀b∈fp,tO X aa H' b)/\R J H'
def PI(X:Cx)(tg iter:Expr)(wi:TI):Prop:=
 ∀(aa:List (Addr×Obj))(s:Shared)(σ:St)(H:Hp)(R:It->Hp->Prop),Inv X aa σ H s->wi σ H R->
  wpAny (model X.prog X.w) X.A (eval iter X.env) (fun v s1=>wpAny (model X.prog X.w) X.A (pyIter v) (PIE X aa σ tg R) X.xe s1) X.xe s
theorem aFS{M:Model}{A:Around}{E:Value->Shared->Prop}{it:Addr}{u:Value}{o:Obj}{n:String}{vs:Array Value}{Q:Unit->Shared->Prop}(ho:s.heap.get? it=some o)(hc:o.cls=.type n)(hd:o.data=.fields vs)
 (hn:["enumerate","zip","dict_itemiterator","dict_reverseitemiterator","odict_iterator","itertools.zip_longest","itertools.pairwise"].contains n=false)(hQ:Q () s):wpAny M A (letOwnedTupleGo tg (.ref it) u) Q E s:=by
 unfold letOwnedTupleGo;cases tg<;>first
  |exact wpAny_pure hQ
  | (cases u<;>first
   |exact wpAny_pure hQ
   | (refine wpAny_bind (wpAny_load ho ?_)
      rw[hc,hd];show wpAny M A (if(["enumerate","zip","dict_itemiterator","dict_reverseitemiterator","odict_iterator","itertools.zip_longest","itertools.pairwise"].contains n&&vs[0]?==some (rawInt _))=true then _ else _) Q E s;rw[if_neg (by intro h;rw[hn,aPy]at h;cases h)]
      exact wpAny_pure hQ))
noncomputable def Itl(K:aO)(a:Addr):It:=
 ⟨fun i H=>∃xs x,SqL K H a xs/\xs[i]?=some x,fun i H x H'=>H'=H/\∀xs,SqL K H a xs->xs[i]?=some x,fun i H=>∃xs,SqL K H a xs/\xs.length<=i⟩
noncomputable def Itr(lo:Int)(n:Nat):It:=⟨fun i _=>i<n,fun i H x H'=>H'=H/\x=.int (lo+i),fun i _=>n<=i⟩
theorem aE0(a it:Addr):Turn P w K tg (Itl K a) [it] it (fun i h=>h.IsListIter it a i) where
 mem:=by simp
 obj:=fun i h st b hb=>by
  have e:b=it:=by simpa using hb
  subst e;obtain⟨o,e,c,d⟩:=st
  exact⟨o,e,fun v z=>by rw[d]at z;cases z⟩
 keep:=fun i h h' st k=>st.at fun o e=>k it (by simp) o e
 item:=by
  intro X hP hw hK hc i aa s σ H E I hf st hg;subst hP hw hK;obtain⟨xs,x,hq,hx⟩:=hg;obtain⟨its,rv,p,hz⟩:=I.list hq;obtain⟨u,hu,ru⟩:=rv.get hx;obtain⟨f0,f1,f2,f3,f4,f5⟩:=hf it (by simp)
  refine wpAny_pyNext_list_item st p.isList (x:=u) (by simpa using hu) fun h' ba sb=>?_
  have I1:Inv X aa σ H {s with heap:=h'}:=I.turned (t':=s.toks) (fun b o hb e=>(sb.2 b hb).trans e) f0 f1 f3 f4 f5;obtain⟨o,e,c,d⟩:=id ba
  exact⟨u,rfl,aFS (s:={s with heap:=h'}) e c d (by decide) ⟨x,H,I1,ru,⟨rfl,fun ys hy=>by rw[I.list_inj hy hq];exact hx⟩,ba,fun b hb=>(hf b hb).1⟩⟩
 done:=by
  intro X hP hw hK hc i aa s σ H E I hf st hg;subst hP hw hK;obtain⟨xs,hq,hx⟩:=hg;obtain⟨its,rv,p,hz⟩:=I.list hq;obtain⟨f0,f1,f2,f3,f4,f5⟩:=hf it (by simp);have hl:=rv.length
  exact wpAny_pyNext_list_end (I.ok.hd hc) st p.isList (by simp;lia) fun h' eb=>⟨rfl,I.turned (t':=s.toks) (fun b o hb e=>eb b o hb e) f0 f1 f3 f4 f5⟩
 self:=fun _ _ _ _ _ st h=>wpAny_pyIter_listiter st h
theorem aDs(it:Addr)(lo:Int)(n:Nat):Turn P w K tg (Itr lo n) [it] it (fun i h=>IsRangeIter h it (lo+(i:Nat)*1) ((n:Int) - (i:Nat)) 1) where
 mem:=by simp
 obj:=fun i h st b hb=>by
  have e:b=it:=by simpa using hb
  subst e
  exact⟨_,st,fun v z=>by
   have z':Data.fields _=Data.cell v:=z;cases z'⟩
 keep:=fun i h h' st k=>k it (by simp) _ st
 item:=by
  intro X hP hw hK hc i aa s σ H E I hf st hg;subst hP hw hK;obtain⟨f0,f1,f2,f3,f4,f5⟩:=hf it (by simp);have W:=Walks.range (prog:=X.prog) (w:=X.w) (I.ok.hd hc) it lo 1 n
  refine W.item i s _ _ hg st fun v h' tk hv ba kk=>?_
  obtain⟨t,rfl⟩:=hv;have I1:Inv X aa σ H {s with heap:=h',toks:=tk}:=I.turned (fun b o hb e=>kk b o (by simpa using hb) e) f0 f1 f3 f4 f5
  refine⟨_,rfl,aFS (s:={s with heap:=h',toks:=tk}) (n:="range_iterator") ba rfl rfl (by decide) ⟨.int (lo+i),H,I1,⟨t,?_⟩,⟨rfl,rfl⟩,ba,fun b hb=>(hf b hb).1⟩⟩
  rw[aQs]
 done:=by
  intro X hP hw hK hc i aa s σ H E I hf st hg;subst hP hw hK;obtain⟨f0,f1,f2,f3,f4,f5⟩:=hf it (by simp)
  exact wpAny_pyNext_range_end (I.ok.hd hc) st (by have:n<=i:=hg;lia) fun h' eb=>⟨rfl,I.turned (t':=s.toks) (fun b o hb e=>eb b o hb e) f0 f1 f3 f4 f5⟩
 self:=fun _ _ _ _ _ st h=>wpAny_pyIter_rangeiter st h
section
variable {X:Cx}{tg:Expr}
variable{aa:List (Addr×Obj)}{σ:St}{ta:TA}{pos:Pos}{fp:List Addr}{h:Heap}
def aGv(K:aO)(tl:TE):TI:=fun σ H R=>tl σ H fun x H1=>∃a,x=.ref a/\(∃xs,SqL K H1 a xs)/\R (Itl K a) H1
theorem aAI{l:Expr}{tl:TE}(hl:PE X l tl):PI X tg l (aGv X.K tl):=by
 intro aa s σ H R I h
 refine thn (hl aa s σ H _ I h) fun v s1 zz=>?_
 obtain⟨x,H1,I1,r1,q1⟩:=zz;obtain⟨a,e,⟨xs,hq⟩,q⟩:=q1;subst e;cases r1;obtain⟨its,rv,p,hz⟩:=I1.list hq
 refine wpAny_pyIter_list p.isList ?_
 refine⟨s1.heap.objs.size,[s1.heap.objs.size],_,_,H1,rfl,I1.kept (t':=s1.toks) fun b o e=>Heap.get?_push_of_some _ e,aE0 a _,⟨_,Heap.get?_push_size _ rfl,rfl,rfl⟩,fun b hb=>?_,q⟩
 have e:b=s1.heap.objs.size:=by simpa using hb
 subst e
 exact I1.fpOk (bG _) (I1.hok.fresh (bG _))
theorem aB1{H:Hp}{s:Shared}{R:It->Hp->Prop}{E:Value->Shared->Prop}{lo hi:Int}{t u v:Tok}{tk:Nat}(I:Inv X aa σ H s)(h1: -(2^62)<=lo)(h2:lo<2^62)(h3: -(2^62)<=hi)(h4:hi<2^62)
 (q:R (Itr lo (hi - lo).toNat) H):wpAny (model X.prog X.w) X.A (pyIter (.ref s.heap.objs.size)) (PIE X aa σ tg R) E {s with heap:=s.heap.push {cls:=.type "range",data:=.fields #[.int lo t,.int hi u,.int 1 v]},toks:=tk}:=by
 refine wpAny_pyIter_range (IsRange.new ..) (small_one h1 h2 h3 h4) ?_
 have I1:Inv X aa σ H {s with heap:=s.heap.push {cls:=.type "range",data:=.fields #[.int lo t,.int hi u,.int 1 v]},toks:=tk}:=I.kept fun b o e=>Heap.get?_push_of_some _ e
 refine⟨(s.heap.push {cls:=.type "range",data:=.fields #[.int lo t,.int hi u,.int 1 v]}).objs.size,[(s.heap.push {cls:=.type "range",data:=.fields #[.int lo t,.int hi u,.int 1 v]}).objs.size],_,_,H,rfl,
  I1.kept (t':=tk) fun b o e=>Heap.get?_push_of_some _ e,aDs _ lo (hi - lo).toNat,?_,fun b hb=>?_,q⟩
 ·have e1:lo+((0:Nat):Int)*1=lo:=by simp
  have e2:(((hi - lo).toNat:Nat):Int) - ((0:Nat):Int)=Builtin.Range.rangeSize lo hi 1:=by rw[rangeSize_one];split<;>lia
  show IsRangeIter _ _ (lo+((0:Nat):Int)*1) ((((hi - lo).toNat:Nat):Int) - ((0:Nat):Int)) 1;rw[e1,e2]
  exact Heap.get?_push_size _ rfl
 ·have e:b=(s.heap.push {cls:=.type "range",data:=.fields #[.int lo t,.int hi u,.int 1 v]}).objs.size:=by simpa using hb
  subst e
  exact I1.fpOk (bG _) (I1.hok.fresh (bG _))
def aG0(ta:TA):TI:=fun σ H R=>ta σ H fun vs H1=>∃j:Int,vs=[.int j]/\ -(2^62)<=j/\j<2^62/\R (Itr 0 j.toNat) H1
def iRng2(ta:TA):TI:=fun σ H R=>ta σ H fun vs H1=>∃i j:Int,vs=[.int i,.int j]/\(-(2^62)<=i/\i<2^62/\ -(2^62)<=j/\j<2^62)/\R (Itr i (j - i).toNat) H1
theorem pV{a:Expr}{p:Pos}(hg:Gl X "range")(hm:X.mg "range"=none)(ha:PA X [a] ta)(hs:starEach [a] X.env=[(false,eval a X.env)]:=by rfl):PI X tg (.Call (.Name "range" p) [a] [] pos) (aG0 ta):=by
 intro aa s σ H R I h
 refine Call_ (o7 I hg hm boot_range (dI (thn (ha pos aa s σ H _ I h) fun us s1 ⟨vs,H1,I1,r1,q1⟩=>?_) hs rfl))
 obtain⟨j,e,q1,q2,q⟩:=q1;subst e;cases r1 with
 |cons r rr=>
  cases rr;obtain⟨t,rfl⟩:=r
  exact call_range_1 (aB1 I1 (by lia) (by lia) q1 q2 (by simpa using q))
theorem aE4{a b:Expr}{p:Pos}(hg:Gl X "range")(hm:X.mg "range"=none)(ha:PA X [a,b] ta)(hs:starEach [a,b] X.env=[(false,eval a X.env),(false,eval b X.env)]:=by rfl)(lg:starEach [b] X.env=[(false,eval b X.env)]:=by rfl):
 PI X tg (.Call (.Name "range" p) [a,b] [] pos) (iRng2 ta):=by
 intro aa s σ H R I h
 refine Call_ (o7 I hg hm boot_range (dI (thn (ha pos aa s σ H _ I h) fun us s1 ⟨vs,H1,I1,r1,q1⟩=>?_) (by rw[hs,lg]) (by rw[lg];rfl)))
 obtain⟨i,j,e,⟨q1,q2,q3,q4⟩,q⟩:=q1;subst e;cases r1 with
 |cons r rr=>
  cases rr with
  |cons r' rr=>
   cases rr;obtain⟨t,rfl⟩:=r;obtain⟨t',rfl⟩:=r'
   exact call_range_2 (aB1 I1 q1 q2 q3 q4 q)
def aHz(wi:TI)(g:TG)(tb:TS):TS:=fun D σ H=>wi σ H fun J H1=>∃W:Nat->Nat->St->Hp->Prop,(∃m,W 0 m σ H1)/\∀i m σ H,W i m σ H->
 (J.stop i H/\D.nx σ H)\/(J.go i H/\∃N:St->Hp->Prop,(∀ai H',N ai H'->∃m',m'<m/\W (i+1) m' ai H')/\∀x H',J.yld i H x H'->g x σ H' fun br H2=>tb {D with nx:=N,ct:=N,bk:=D.nx} br H2)
noncomputable def xX(fp:List Addr)(h:Heap):List (Addr×Obj):=fp.filterMap fun b=>(h.get? b).map fun o=>(b,o)
theorem oJ{b:Addr}{o:Obj}(hb:b∈fp)(e:h.get? b=some o):(b,o)∈xX fp h:=aPJ.mpr ⟨b,hb,by rw[e];rfl⟩
theorem aFK{p:Addr×Obj}(hp:p∈xX fp h):p.1∈fp/\h.get? p.1=some p.2:=by
 obtain⟨b,hb,e⟩:=aPJ.mp hp;cases q:h.get? b with
 |none=>rw[q]at e;cases e
 |some o=>
  rw[q]at e;have e':(b,o)=p:=cH.inj e;subst e'
  exact⟨hb,q⟩
theorem Inv.pinned{H:Hp}{s:Shared}(I:Inv X aa σ H s)(hf:∀b∈fp,tO X aa H b)(ho:∀b∈fp,∃o,s.heap.get? b=some o/\∀v,o.data≠ .cell v):Inv X (aa++xX fp s.heap) σ H s:=
 I.pins_of fun p hp=>(bK.mp hp).elim (fun z=>I.pin p (cF _ z)) fun z=>by
  obtain⟨hb,e⟩:=aFK z;obtain⟨f0,f1,f2,_⟩:=hf p.1 hb;obtain⟨o,e',d⟩:=ho p.1 hb;rw[e]at e';cases e'
  exact⟨e,f0,f1,f2,d⟩
theorem Inv.unpinned{pl:List (Addr×Obj)}{H:Hp}{s:Shared}(I:Inv X (aa++pl) σ H s):Inv X aa σ H s:=I.pins_of fun p hp=>I.pin p (cF _ (dR _ hp))
theorem aAo{iter:Expr}{body:List Stmt}{wi:TI}{g:TG}{tb:TS}(hp:PassesOwn (model X.prog X.w) X.A X.env X.xe)(hc:X.calm=true)(hi:PI X tg iter wi)(hg:PG X tg g)(hb:PSs X body tb)
 (hs:∀x,foldedSetIterable iter X.env x=pure x:=by intro _;rfl):PS X (.For tg iter body [] pos) (aHz wi g tb):=by
 intro aa s σ H D I h
 refine wpAny_For (thn (hi aa s σ H _ I h) fun v s1 h1=>thn h1 fun vm s2 h2=>?_) hs
 obtain⟨it,fp,tn,J,H2,e,I2,T,kz,f2,W,⟨m0,w0⟩,turn⟩:=h2;subst e;have fq:∀{H':Hp},(∀b∈fp,H' b=none)->∀b∈fp,tO X aa H' b:=fun hn b hb=>⟨hn b hb,(f2 b hb).2⟩
 refine codeAny_forLoop_any (fun n s'=>∃i ai H',Inv X aa ai H' s'/\tn i s'.heap/\(∀b∈fp,H' b=none)/\W i n ai H') ?_ m0 ⟨0,σ,H2,I2,kz,fun b hb=>(f2 b hb).1,w0⟩
 rintro n s3 ⟨i,cq,H3,I3,qt,uo,w3⟩;rcases turn i n cq H3 w3 with⟨stop,qn⟩| ⟨go,N,hN,step⟩
 ·refine wpAny_passesOwn hp (thn (T.done X rfl rfl rfl hc i aa s3 cq H3 X.xe I3 (fq uo) qt stop) fun r s4 ⟨hr,I4⟩=>?_)
  subst hr
  exact wpAny_execs_nil ⟨cq,H3,I4,qn⟩
 ·refine wpAny_passesOwn hp (thn (T.item X rfl rfl rfl hc i aa s3 cq H3 X.xe I3 (fq uo) qt go) fun r s4 ⟨u,hr,h4⟩=>?_)
  subst hr
  refine wpAny_passesOwn hp (thn h4 fun _ s5 zz=>?_)
  obtain⟨x,H5,I5,r5,y5,ly,zf⟩:=zz;have I5':=I5.pinned (fq zf) (T.obj _ _ ly)
  refine wpAny_passesOwn hp (thn (hg _ s5 cq H5 x u _ I5' r5 (step x H5 y5)) fun _ s6 zz=>?_)
  obtain⟨nu,H6,I6,q6⟩:=zz
  refine wpAny_passesOwn hp (thn (hb _ s6 nu H6 _ I6 q6) fun f s7 q7=>?_)
  have again:∀{ed:St}{H7:Hp},Inv X (aa++xX fp s5.heap) ed H7 s7->N ed H7->∃m,m<n/\∃i ai H',Inv X aa ai H' s7/\tn i s7.heap/\(∀b∈fp,H' b=none)/\W i m ai H':=fun {ed H7} I7 n7=>by
   obtain⟨m',hm,w7⟩:=hN ed H7 n7
   refine⟨m',hm,i+1,ed,H7,I7.unpinned,T.keep _ _ _ ly fun b hb o e=>(I7.pin (b,o) (cF _ (cF _ (oJ hb e)))).1,fun b hb=>?_,w7⟩
   obtain⟨o,e,d⟩:=T.obj _ _ ly b hb
   exact(I7.pin (b,o) (cF _ (cF _ (oJ hb e)))).2.1
  cases f with
  |next=>obtain⟨ed,H7,I7,n7⟩:=q7;exact again I7 n7
  |cont=>obtain⟨ed,H7,I7,n7⟩:=q7;exact again I7 n7
  |brk=>obtain⟨ed,H7,I7,q7⟩:=q7;exact⟨ed,H7,I7.unpinned,q7⟩
  |ret v=>obtain⟨x7,ed,H7,I7,r7,q7⟩:=q7;exact⟨x7,ed,H7,I7.unpinned,r7,q7⟩
end
abbrev R2:=V->V->Hp->VK->Prop
def OpR(X:Cx)(f:Value->Value->Sem Value)(r:R2):Prop:=
 ∀(aa:List (Addr×Obj))(s:Shared)(σ:St)(H:Hp)(x y:V)(v u:Value)(Q:VK),Inv X aa σ H s->RelV x v->RelV y u->r x y H Q->
  wpAny (model X.prog X.w) X.A (f v u) (EP X aa σ Q) X.xe s
def UnR(X:Cx)(f:Value->Sem Value)(r:V->Hp->VK->Prop):Prop:=
 ∀(aa:List (Addr×Obj))(s:Shared)(σ:St)(H:Hp)(x:V)(v:Value)(Q:VK),Inv X aa σ H s->RelV x v->r x H Q->
  wpAny (model X.prog X.w) X.A (f v) (EP X aa σ Q) X.xe s
def m6(X:Cx)(f:Value)(r:List V->Hp->VK->Prop):Prop:=
 ∀(aa:List (Addr×Obj))(s:Shared)(σ:St)(H:Hp)(xs:List V)(us:List Value)(Q:VK),Inv X aa σ H s->Vals xs us->r xs H Q->
  wpAny (model X.prog X.w) X.A (call f us) (EP X aa σ Q) X.xe s
def TruR(X:Cx)(r:V->Hp->(Bool->Hp->Prop)->Prop):Prop:=
 ∀(aa:List (Addr×Obj))(s:Shared)(σ:St)(H:Hp)(x:V)(v:Value)(Q:Bool->Hp->Prop),Inv X aa σ H s->RelV x v->r x H Q->
  wpAny (model X.prog X.w) X.A (truthy v) (TP X aa σ Q) X.xe s
noncomputable def tOp(r:R2)(ta tb:TE):TE:=fun σ H Q=>ta σ H fun x H1=>tb σ H1 fun y H2=>r x y H2 Q
noncomputable def tUn(r:V->Hp->VK->Prop)(ta:TE):TE:=fun σ H Q=>ta σ H fun x H1=>r x H1 Q
noncomputable def rI(C:Int->Int->Prop)(g:Int->Int->V):R2:=fun x y H Q=>∃i j,x=.int i/\y=.int j/\C i j/\Q (g i j) H
noncomputable def rI0(g:Int->Int->V):R2:=fun x y H Q=>∃i j,x=.int i/\y=.int j/\Q (g i j) H
def rU(g:Int->V):V->Hp->VK->Prop:=fun x H Q=>∃i,x=.int i/\Q (g i) H
section
variable {X:Cx}{a b c:Expr}{ta tb tc:TE}{pos:Pos}
variable{f:Value->Value->Sem Value}{g:Int->Int->Int}
theorem aME(ha:PE X a ta)(hb:PE X b tb){aa:List (Addr×Obj)}{s:Shared}{σ:St}{H:Hp}{R:V->V->Hp->Prop}(I:Inv X aa σ H s)
 (h:ta σ H fun x H1=>tb σ H1 fun y H2=>R x y H2){Q:Value->Shared->Prop}
 (hf:∀v u s2 x y H2,Inv X aa σ H2 s2->RelV x v->RelV y u->R x y H2->wpAny (model X.prog X.w) X.A (f v u) Q X.xe s2):
 wpAny (model X.prog X.w) X.A (eval a X.env) (fun v ak=>wpAny (model X.prog X.w) X.A (eval b X.env) (fun u cb=>wpAny (model X.prog X.w) X.A (f v u) Q X.xe cb) X.xe ak) X.xe s:=by
 refine thn (ha aa s σ H _ I h) fun v s1 zz=>?_
 obtain⟨x,H1,I1,r1,q1⟩:=zz
 refine thn (hb aa s1 σ H1 _ I1 q1) fun u s2 zz=>?_
 obtain⟨y,H2,I2,r2,q2⟩:=zz
 exact hf v u s2 x y H2 I2 r1 r2 q2
theorem t6{op:Operator}{r:R2}(ho:OpR X (binaryOp op) r)(ha:PE X a ta)(hb:PE X b tb):PE X (.BinOp a op b pos) (tOp r ta tb):=by
 intro aa s σ H Q I h
 exact wpAny_BinOp (aME ha hb I h fun v u s2 x y H2 I2 rx ry q=>ho aa s2 σ H2 x y v u Q I2 rx ry q)
theorem aNp{op:UnaryOp}{r:V->Hp->VK->Prop}(ho:UnR X (unaryOp op) r)(ha:PE X a ta):PE X (.UnaryOp op a pos) (tUn r ta):=by
 intro aa s σ H Q I h
 exact UnaryOp_ (thn (ha aa s σ H _ I h) fun v s1 ⟨x,H1,I1,r1,q1⟩=>ho aa s1 σ H1 x v Q I1 r1 q1)
theorem opI{C:Int->Int->Prop}
 (rule:∀(i j:Int)(t u:Tok)(s:Shared)(Q:Value->Shared->Prop)(E:Value->Shared->Prop),C i j->Q (.int (g i j) s.toks) {s with toks:=s.toks+1}->wpAny (model X.prog X.w) X.A (f (.int i t) (.int j u)) Q E s):
 OpR X f (rI C fun i j=>.int (g i j)):=by
 intro aa s σ H x y v u Q I rx ry h;obtain⟨i,j,rfl,rfl,hc,q⟩:=h;obtain⟨t,rfl⟩:=rx;obtain⟨t',rfl⟩:=ry
 exact rule i j t t' s _ _ hc ⟨.int (g i j),H,I.tok _,⟨_,rfl⟩,q⟩
theorem opI0
 (rule:∀(i j:Int)(t u:Tok)(s:Shared)(Q:Value->Shared->Prop)(E:Value->Shared->Prop),Q (.int (g i j) s.toks) {s with toks:=s.toks+1}->wpAny (model X.prog X.w) X.A (f (.int i t) (.int j u)) Q E s):
 OpR X f (rI0 fun i j=>.int (g i j)):=by
 intro aa s σ H x y v u Q I rx ry h;obtain⟨i,j,rfl,rfl,q⟩:=h;obtain⟨t,rfl⟩:=rx;obtain⟨t',rfl⟩:=ry
 exact rule i j t t' s _ _ ⟨.int (g i j),H,I.tok _,⟨_,rfl⟩,q⟩
theorem aJ8{g:Int->Int->Bool}
 (rule:∀(i j:Int)(t u:Tok)(s:Shared)(Q:Value->Shared->Prop)(E:Value->Shared->Prop),Q (.bool (g i j)) s->wpAny (model X.prog X.w) X.A (f (.int i t) (.int j u)) Q E s):
 OpR X f (rI0 fun i j=>.bl (g i j)):=by
 intro aa s σ H x y v u Q I rx ry h;obtain⟨i,j,rfl,rfl,q⟩:=h;obtain⟨t,rfl⟩:=rx;obtain⟨t',rfl⟩:=ry
 exact rule i j t t' s _ _ ⟨.bl (g i j),H,I,rfl,q⟩
def CDiv(i j:Int):Prop:=0<j/\j<1073741824
def CPow(i j:Int):Prop:=0<=j/\j<=1000000/\i.natAbs<2^64
theorem aLl:OpR X (binaryOp .Add) (rI0 fun i j=>.int (i+j)):=opI0 fun _ _ _ _ _ _ _ q=>add_int q
theorem aMo:OpR X (binaryOp .Sub) (rI0 fun i j=>.int (i - j)):=opI0 fun _ _ _ _ _ _ _ q=>sub_int q
theorem aKx:OpR X (binaryOp .FloorDiv) (rI CDiv fun i j=>.int (i/j)):=opI fun i j _ _ _ _ _ hc q=>by
 have h1:(0:Int)<j:=hc.1;have h2:j<1073741824:=hc.2
 exact floordiv_int (by lia) (by rw[aO9 i (by lia)];exact q) (.inl (PyProof.noPylong_small (by lia)))
theorem aMb:OpR X (binaryOp .Mod) (rI (fun _ j=>0<j) fun i j=>.int (i%j)):=opI fun i j _ _ _ _ _ hc q=>by
 have h1:(0:Int)<j:=hc
 exact mod_int' (by lia) (by rw[Int.fmod_eq_emod_of_nonneg i (by lia)];exact q)
theorem aLt:OpR X (binaryOp .Pow) (rI CPow fun i j=>.int (i^j.toNat)):=opI fun _ _ _ _ _ _ _ hc q=>pow_int_small hc.1 hc.2.1 hc.2.2 q
theorem unI{f:Value->Sem Value}{g:Int->Int}
 (rule:∀(i:Int)(t:Tok)(s:Shared)(Q:Value->Shared->Prop)(E:Value->Shared->Prop),Q (.int (g i) s.toks) {s with toks:=s.toks+1}->wpAny (model X.prog X.w) X.A (f (.int i t)) Q E s):
 UnR X f (rU fun i=>.int (g i)):=by
 intro aa s σ H x v Q I rx h;obtain⟨i,rfl,q⟩:=h;obtain⟨t,rfl⟩:=rx
 exact rule i t s _ _ ⟨.int (g i),H,I.tok _,⟨_,rfl⟩,q⟩
theorem aMF:UnR X (unaryOp .USub) (rU fun i=>.int (-i)):=unI fun _ _ _ _ _ q=>neg_int q
end
noncomputable def scal:V->V->Bool
 | .non,.non=>true| .non,.int _=>true| .int _,.non=>true| .non,.bl _=>true| .bl _,.non=>true| .non,.str _=>true| .str _,.non=>true
 | .int _,.int _=>true| .bl _,.bl _=>true| .str _,.str _=>true| .byt _,.byt _=>true
 | .int _,.str _=>true| .str _,.int _=>true| .bl _,.str _=>true| .str _,.bl _=>true
 |_,_=>false
def rNe:R2:=fun x y H Q=>scal x y=true/\Q (.bl (!decide (x=y))) H
theorem aEq{i j:Int}:decide (V.int i=V.int j)=(i==j):=by
 rw[aOw];simp
theorem aGD{i j:Bool}:decide (V.bl i=V.bl j)=(i==j):=by
 rw[aOw];simp
theorem aEr{i j:Str}:decide (V.str i=V.str j)=(i==j):=by
 rw[aOw];simp
theorem aIR{i j:Array UInt8}:decide (V.byt i=V.byt j)=(i.toList==j.toList):=by
 rw[aOw];cases i;cases j;simp
section
variable {X:Cx}{a b c:Expr}{ta tb tc:TE}{pos:Pos}
variable{op:CmpOp}{r:R2}{us:List Value}
theorem kW{aa:List (Addr×Obj)}{σ:St}{H:Hp}{s:Shared}{Q:VK}{k k':Bool}(I:Inv X aa σ H s)(q:Q (.bl k) H)(e:k=k'):EP X aa σ Q (.bool k') s:=by
 subst e
 exact⟨.bl k,H,I,rfl,q⟩
theorem aG3:OpR X (compareOp .NotEq) rNe:=by
 intro aa s σ H x y v u Q I rx ry h;obtain⟨hs,q⟩:=h;cases x with
 |non=>
  cases rx;cases y with
  |non=>cases ry;exact PySem.EqNone.ne_none_none (kW I q (by simp))
  |bl j=>cases ry;exact PySem.EqNone.ne_none_bool (kW I q (by simp))
  |int j=>obtain⟨t',rfl⟩:=ry;exact PySem.EqNone.ne_none_int (kW I q (by simp))
  |str j=>obtain⟨t',rfl⟩:=ry;exact PySem.EqNone.ne_none_str (kW I q (by simp))
  |_=>exact absurd (show false=true from hs) b5
 |bl i=>
  cases rx;cases y with
  |non=>cases ry;exact PySem.EqNone.ne_bool_none (kW I q (by simp))
  |bl j=>cases ry;exact ne_bool (kW I q (congrArg not aGD))
  |str j=>obtain⟨t',rfl⟩:=ry;exact PySem.EqMixed.ne_bool_str (kW I q (by simp))
  |_=>exact absurd (show false=true from hs) b5
 |int i=>
  obtain⟨t,rfl⟩:=rx;cases y with
  |non=>cases ry;exact PySem.EqNone.ne_int_none (kW I q (by simp))
  |int j=>obtain⟨t',rfl⟩:=ry;exact ne_int (kW I q (congrArg not aEq))
  |str j=>obtain⟨t',rfl⟩:=ry;exact PySem.EqMixed.ne_int_str (kW I q (by simp))
  |_=>exact absurd (show false=true from hs) b5
 |str i=>
  obtain⟨t,rfl⟩:=rx;cases y with
  |non=>cases ry;exact PySem.EqNone.ne_str_none (kW I q (by simp))
  |bl j=>cases ry;exact PySem.EqMixed.ne_str_bool (kW I q (by simp))
  |int j=>obtain⟨t',rfl⟩:=ry;exact PySem.EqMixed.ne_str_int (kW I q (by simp))
  |str j=>obtain⟨t',rfl⟩:=ry;exact ne_str (kW I q (congrArg not aEr))
  |_=>exact absurd (show false=true from hs) b5
 |byt i=>
  obtain⟨t,rfl⟩:=rx;cases y with
  |byt j=>obtain⟨t',rfl⟩:=ry;exact PySem.W.ne_bytes (kW I q (congrArg not aIR))
  |_=>exact absurd (show false=true from hs) b5
 |_=>cases y<;>exact absurd (show false=true from hs) b5
theorem aH4:OpR X (compareOp .Lt) (rI0 fun i j=>.bl (decide (i<j))):=aJ8 fun _ _ _ _ _ _ _ q=>lt_int q
theorem aKV:OpR X (compareOp .LtE) (rI0 fun i j=>.bl (decide (i<=j))):=aJ8 fun _ _ _ _ _ _ _ q=>le_int q
theorem aK9:OpR X (compareOp .Gt) (rI0 fun i j=>.bl (decide (j<i))):=aJ8 fun _ _ _ _ _ _ _ q=>gt_int q
theorem aNK:OpR X (compareOp .GtE) (rI0 fun i j=>.bl (decide (j<=i))):=aJ8 fun _ _ _ _ _ _ _ q=>ge_int q
theorem nomark(b:Expr)(h:op≠ .In:=by decide)(h2:op≠ .NotIn:=by decide):behindInMarks op b=false:=by
 have e1:(op==CmpOp.In)=false:=by cases op<;>first|rfl|exact absurd rfl h
 have e2:(op==CmpOp.NotIn)=false:=by cases op<;>first|rfl|exact absurd rfl h2
 cases b<;>simp[behindInMarks,e1,e2]
theorem aJr(ho:OpR X (compareOp op) r)(ha:PE X a ta)(hb:PE X b tb)(hm:behindInMarks op b=false):PE X (.Compare a [op] [b] pos) (tOp r ta tb):=by
 intro aa s σ H Q I h
 exact wpAny_Compare1 (aME ha hb I h fun v u s2 x y H2 I2 rx ry q=>ho aa s2 σ H2 x y v u Q I2 rx ry q) hm
noncomputable def tTest(t:TE):TT:=fun σ H Q=>t σ H fun x H'=>∃k,x=.bl k/\Q k H'
theorem aKh(ho:OpR X (compareOp op) r)(ha:PE X a ta)(hb:PE X b tb)(hm:behindInMarks op b=false):PT X (.Compare a [op] [b] pos) (tTest (tOp r ta tb)):=by
 intro aa s σ H Q I h
 refine wpAny_isTrue_Compare1 (thn (ha aa s σ H _ I h) fun v s1 ⟨x,H1,I1,r1,q1⟩=>thn (hb aa s1 σ H1 _ I1 q1) fun u s2 ⟨y,H2,I2,r2,q2⟩=>
  thn (ho aa s2 σ H2 x y v u _ I2 r1 r2 q2) fun c s3 ⟨z,H3,I3,r3,k,e,q3⟩=>?_) hm
 subst e;cases r3
 exact wpAny_truthy_bool ⟨H3,I3,q3⟩
noncomputable def tChain(r r':R2)(ta tb tc:TE):TE:=fun σ H Q=>ta σ H fun x H1=>tb σ H1 fun y H2=>r x y H2 fun z H3=>∃k,z=.bl k/\
 (if k=true then tc σ H3 fun w' H4=>r' y w' H4 Q else Q (.bl false) H3)
theorem aGt{xb:CmpOp}{r':R2}(ho:OpR X (compareOp op) r)(iw:OpR X (compareOp xb) r')(ha:PE X a ta)(hb:PE X b tb)(hc:PE X c tc)
 (hm:lastMarks [op,xb] [b,c]=false:=by with_unfolding_all rfl):PE X (.Compare a [op,xb] [b,c] pos) (tChain r r' ta tb tc):=by
 intro aa s σ H Q I h
 refine Compare_chain (thn (ha aa s σ H _ I h) fun v s1 ⟨x,H1,I1,r1,q1⟩=>chain_link (thn (hb aa s1 σ H1 _ I1 q1) fun u s2 ⟨y,H2,I2,r2,q2⟩=>
  thn (ho aa s2 σ H2 x y v u _ I2 r1 r2 q2) fun d s3 ⟨z,H3,I3,r3,k,e,q3⟩=>?_)) hm
 subst e;cases r3
 refine wpAny_truthy_bool ?_
 cases k with
 |false=>exact ite_ff ⟨.bl false,H3,I3,rfl,q3⟩
 |true=>exact ite_tt (chain_last (thn (hc aa s3 σ H3 _ I3 q3) fun w' s4 ⟨z',H4,I4,r4,q4⟩=>iw aa s4 σ H4 y z' u w' Q I4 r2 r4 q4))
def aMi(K:aO)(x:V)(H:Hp)(k:Bool):Prop:=
 match x with
 | .non=>k=false
 | .bl b=>k=b
 | .int i=>k=(i !=0)
 | .str y=>y.length<=sizeLine/\k=((y.length:Int)!=0)
 | .byt y=>y.size<=sizeLine/\k=((y.size:Int)!=0)
 | .ref p=>(∃xs,SqL K H p xs/\k= !xs.isEmpty)\/(∃xs,SqT K H p xs/\k= !xs.isEmpty)\/∃kvs,H p=some (.dK kvs)/\k= !kvs.isEmpty
 |_=>False
theorem aCM{κ:Type}{kvs:List (κ×V)}{vs:List (κ×Value)}(r:KV kvs vs):(!vs.isEmpty)= !kvs.isEmpty:=by
 cases r<;>rfl
theorem wY{xs:List V}{its:List Value}(r:Vals xs its):(!its.toArray.isEmpty)= !xs.isEmpty:=by
 cases r<;>simp
theorem line63:(sizeLine:Nat)<2^63:=by rw[sizeLine_eq];decide
theorem aNd:TruR X (fun x H Q=>∃k,aMi X.K x H k/\Q k H):=by
 intro aa s σ H x v Q I rx h;obtain⟨k,e,q⟩:=h;have hl:=line63;have hs:sizeLine=16777216:=sizeLine_eq;cases x with
 |non=>
  cases rx;have e':k=false:=e;subst e'
  exact truthy_none ⟨H,I,q⟩
 |bl b=>
  cases rx;have e':k=b:=e;subst e'
  exact wpAny_truthy_bool ⟨H,I,q⟩
 |int i=>
  obtain⟨t,rfl⟩:=rx;have e':k=(i !=0):=e;subst e'
  exact PySem.P.truthy_int ⟨H,I,q⟩
 |str y=>
  obtain⟨t,rfl⟩:=rx;obtain⟨hy,e'⟩:y.length<=sizeLine/\k=((y.length:Int)!=0):=e;subst e'
  exact PySem.P.truthy_str (by lia) ⟨H,I.tok _,q⟩
 |byt y=>
  obtain⟨t,rfl⟩:=rx;obtain⟨hy,e'⟩:y.size<=sizeLine/\k=((y.size:Int)!=0):=e;subst e'
  exact PySem.W.truthy_bytes (by lia) ⟨H,I.tok _,q⟩
 |ref p=>
  cases rx;have e':(∃xs,SqL X.K H p xs/\k= !xs.isEmpty)\/(∃xs,SqT X.K H p xs/\k= !xs.isEmpty)\/∃kvs,H p=some (.dK kvs)/\k= !kvs.isEmpty:=e;rcases e' with⟨xs,hx,e'⟩| ⟨xs,hx,e'⟩| ⟨kvs,hx,e'⟩
  ·subst e';obtain⟨its,r,pl,hz⟩:=I.list hx;have aj:=r.length
   exact wpAny_truthy_list pl.isList (by simp only[bF];lia) ⟨H,I.tok _,by rw[wY r];exact q⟩
  ·subst e';obtain⟨its,r,pl,hz⟩:=I.tuple hx;have aj:=r.length
   exact truthy_tuple pl (by simp only[bF];lia) ⟨H,I.tok _,by rw[wY r];exact q⟩
  ·subst e';obtain⟨hz,hS,vs,r,m⟩:kvs.length<=sizeLine/\(p==sysModules)=false/\∃vs,KV kvs vs/\s.heap.DictOf (iS X.prog X.w) p vs:=I.hok p _ hx;have aj:kvs.length=vs.length:=Paired.length r
   exact wpAny_truthy_dict hS m (by lia) ⟨H,I.tok _,by rw[aCM r];exact q⟩
 |_=>exact(show False from e).elim
theorem aGV(ha:PE X a ta)(he:∀whole,isTrue a X.env whole=(do let v<-whole;standAt a.pos;holding [v] (truthy v))):
 PT X a (fun σ H Q=>ta σ H fun x H'=>∃k,aMi X.K x H' k/\Q k H'):=by
 intro aa s σ H Q I h
 exact isTrue_plain (thn (ha aa s σ H _ I h) fun v s1 ⟨x,H1,I1,r1,q1⟩=>aNd aa s1 σ H1 x v Q I1 r1 q1) (he _)
theorem vals1{x:V}(r:Vals [x] us):∃u,us=[u]/\RelV x u:=by
 cases r with
 |cons r1 r2=>cases r2;exact⟨_,rfl,r1⟩
theorem vals2{x y:V}(r:Vals [x,y] us):∃u w',us=[u,w']/\RelV x u/\RelV y w':=by
 cases r with
 |cons r1 r2=>
  cases r2 with
  |cons r3 r4=>cases r4;exact⟨_,_,rfl,r1,r3⟩
theorem aFE(hc:X.calm=true):m6 X (.builtin "max") (fun xs H Q=>∃i j,xs=[.int i,.int j]/\Q (.int (if j>i then j else i)) H):=by
 intro aa s σ H xs us Q I r h;obtain⟨i,j,rfl,q⟩:=h;obtain⟨u,w',rfl,⟨t,rfl⟩,⟨t',rfl⟩⟩:=vals2 r
 refine max_two_ints (I.ok.hd hc) fun h' tk k=>⟨_,H,I.kept k,?_,q⟩
 by_cases hj:j>i
 ·rw[if_pos hj,if_pos hj];exact⟨_,rfl⟩
 ·rw[if_neg hj,if_neg hj];exact⟨_,rfl⟩
theorem aEV(hc:X.calm=true):m6 X (.builtin "min") (fun xs H Q=>∃i j,xs=[.int i,.int j]/\Q (.int (if j<i then j else i)) H):=by
 intro aa s σ H xs us Q I r h;obtain⟨i,j,rfl,q⟩:=h;obtain⟨u,w',rfl,⟨t,rfl⟩,⟨t',rfl⟩⟩:=vals2 r
 refine min_two_ints (I.ok.hd hc) fun h' tk k=>⟨_,H,I.kept k,?_,q⟩
 by_cases hj:j<i
 ·rw[if_pos hj,if_pos hj];exact⟨_,rfl⟩
 ·rw[if_neg hj,if_neg hj];exact⟨_,rfl⟩
theorem aE6:m6 X (.type "int") (fun xs H Q=>(∃i,xs=[.int i]/\Q (.int i) H)\/∃k,xs=[.bl k]/\Q (.int (if k then 1 else 0)) H):=by
 intro aa s σ H xs us Q I r h;rcases h with⟨i,rfl,q⟩| ⟨k,rfl,q⟩
 ·obtain⟨u,rfl,t,rfl⟩:=vals1 r
  exact call_int_int ⟨.int i,H,I,⟨_,rfl⟩,q⟩
 ·obtain⟨u,rfl,r1⟩:=vals1 r;cases r1
  exact call_int_bool ⟨.int (if k then 1 else 0),H,I.tok _,⟨_,rfl⟩,q⟩
end
variable{h:Heap}{dx:Addr}{mA:Str->Option Value}
structure aCU(h:Heap)(x dx C:Addr)(mA:Str->Option Value):Prop where
 obj:h.get? x=some (dW C dx)
 ns:h.Ns1 dx mA
 ne:dx≠x
theorem aEE(n:h.Ns1 dx mA):∃od,h.get? dx=some od/\∀name,aPa name od=some (mA name):=by
 obtain⟨o,es,ep,ho,hd,hk,_,hm⟩:=n
 refine⟨o,ho,fun name=>?_⟩
 have e:=hm name;unfold nsFind findBy at e;rw[<-Array.find?_toList]at e;unfold aPa;rw[hd];dsimp only;split
 ·rename_i y q;rw[q]at e
  exact congrArg some e
 ·rename_i q;rw[q]at e;have a:es.toList.any (·.refKey)=false:=by
   rw[List.any_eq_false];intro y hy;obtain⟨z,t,yn⟩:=hk y (Array.mem_toList_iff.mp hy);simp[DictEntry.refKey,yn]
  have a':¬es.toList.any (·.refKey)=true:=by rw[a];exact b5
  rw[if_neg a']
  exact congrArg some e
theorem aCU.look{x C:Addr}(I:aCU h x dx C mA):∃od,PySem.W.InstAt h x (dW C dx) C (some od)/\∀name,aPa name od=some (mA name):=
 let ⟨od,ho,hl⟩:=aEE I.ns
 ⟨od,⟨I.obj,rfl,rfl,ho⟩,hl⟩
section
variable {prog:Program}{w:World}{A:Around}{E:Value->Shared->Prop}{s:Shared}{K:aO}{x dx C f:Addr}{mA:Str->Option Value}{name:Str}{v:Value}
theorem aI8{expr:Bool}{Q:Value->Shared->Prop}(X:K.In s.heap)(I:aCU s.heap x dx C mA)(hg:aOV K C name=true)(hh:aPg K C=true)
 (ha:bU K (.ref C) name=some none)(hv:mA name=some v)(hv':aPY v=true)(h:Q v {s with toks:=s.toks+1}):
 wpAny (model prog w) A (getAttr (.ref x) name expr) Q E s:=by
 obtain⟨od,J,hl⟩:=I.look
 exact PySem.W.get_value X J (aO6 hg).1 (PySem.W.findObj_own hh ha rfl (by rw[hl,hv])) hv' h
theorem aF5{pl:Sem Bool}{Q:Value×List Value->Shared->Prop}(X:K.In s.heap)(I:aCU s.heap x dx C mA)(hg:aOV K C name=true)
 (hf:bU K (.ref C) name=some (some (.ref f)))(ht:aOR K (.ref f)=true)(hv:mA name=none)(h:Q (.ref f,[.ref x]) s):
 wpAny (model prog w) A (getMethod (.ref x) name pl) Q E s:=by
 obtain⟨od,J,hl⟩:=I.look
 exact PySem.W.method_fn X J (aO6 hg).1 (aO6 hg).2 hf (beq_iff_eq.mp ht) (by show(aPa name od).map (·.isSome)=some false;rw[hl,hv];rfl) h
theorem aJq{ns:List Str}{Q:Unit->Shared->Prop}(X:K.In s.heap)(I:aCU s.heap x dx C mA)
 (hs:bU K (.ref C) "__setattr__"=some (some (.builtin "object.__setattr__")))(hp:aPQ K C=true)(ht:aPr K C name=some none)(hh:aPg K C=true)
 (hw:PySem.Within mA ns)(hsz:ns.length<=sizeLine)
 (h:∀h',aCU h' x dx C (fun y=>if y=name then some v else mA y)->Heap.SameBut dx s.heap h'->Q () {s with heap:=h',toks:=s.toks+2}):
 wpAny (model prog w) A (setAttr (.ref x) name v) Q E s:=by
 obtain⟨od,J,hl⟩:=I.look
 refine PySem.W.set_plain X J hs (PySem.W.osa_open (s:={s with toks:=s.toks+1}) (r:=none) X J hp ht fun b=>?_)
 obtain⟨cd,hc,jm⟩:=PySem.W.any_some hh;have hx:s.heap.get? x=some ⟨.ref C,some dx,.plain,#[]⟩:=I.obj
 refine wpAny_bind (wpAny_pure (wpAny_bind (wpAny_bind (wpAny_loadPart hx (wpAny_bind (PySem.W.Looks.here (s:={s with toks:=s.toks+1}) (PySem.W.looks_clsIn X hc) ?_))))))
 rw[jm]
 refine wpAny_pure (a:=some dx) (wpAny_bind (wpAny_pure (wpAny_bind ?_)))
 refine wpAny_nsSet1 (s:={s with toks:=s.toks+1}) I.ns fun h' yk lg=>?_
 obtain⟨oD,esD,epD,hoD,hdD,hcD⟩:=yk.count (PySem.Within.cons name v hw)
 refine wpAny_bind (wpAny_lookBehind hoD (by rw[hdD];exact pastItsLine_dict (cA hcD (by rw[aN];lia))) ?_)
 exact wpAny_pure (h _ ⟨(lg.2 _ (Ne.symm I.ne)).trans I.obj,yk,I.ne⟩ lg)
theorem aHh{R:Result->Shared->Prop}{vs:List Value}{kw:List (Str×Value)}(X:K.In s.heap)(hm:aPs K C=true)
 (hi:bU K (.ref C) "__init__"=some (some (.ref f)))(hf:aPz K (.ref f)=some (.type "function"))
 (h:codeAny (model prog w) (A.under (.builtin "type.__call__" ⟨.ref C::vs,kw⟩)) (.call (.ref f) ⟨.ref (s.heap.objs.size+1)::vs,kw⟩) (PySem.W.InitBack (s.heap.objs.size+1) R)
  {s with heap:=(s.heap.push dD).push (dW C s.heap.objs.size)}):
 codeAny (model prog w) A (.call (.ref C) ⟨vs,kw⟩) R s:=by
 obtain⟨hh,g,d,t,os⟩:=s
 exact PySem.W.make_core (PySem.W.makes_of X hm) (PySem.W.looks_findIn X hi) (fun self=>PySem.W.bind_fn X self hf) (.inl rfl) h
end
noncomputable def oH(f:Str)(v:V):List (Str×V)->List (Str×V)
 | []=>[(f,v)]
 | (g,x)::r=>if g=f then(g,v)::r else(g,x)::oH f v r
theorem uL(f g:Str)(v:V):∀fs:List (Str×V),(oH f v fs).lookup g=if g=f then some v else fs.lookup g
 | []=>by
   show dS g [(f,v)]=_;by_cases h:g=f
   ·have hb:(g==f)=true:=beq_iff_eq.mpr h;simp only[dS,hb,if_pos h]
   ·have hb:(g==f)=false:=beq_eq_false_iff_ne.mpr h;simp only[dS,hb,if_neg h]
 | (k,x)::r=>by
   have ih:=uL f g v r;rw[show oH f v ((k,x)::r)=(if k=f then(k,v)::r else(k,x)::oH f v r)from rfl];by_cases hk:k=f
   ·rw[if_pos hk];by_cases h:g=k
    ·have hb:(g==k)=true:=beq_iff_eq.mpr h;simp only[dS,hb,if_pos (h.trans hk)]
    ·have hb:(g==k)=false:=beq_eq_false_iff_ne.mpr h;simp only[dS,hb,if_neg (fun e:g=f=>h (e.trans hk.symm))]
   ·rw[if_neg hk];by_cases h:g=k
    ·have hb:(g==k)=true:=beq_iff_eq.mpr h;simp only[dS,hb,if_neg (fun e:g=f=>hk (h.symm.trans e))]
    ·have hb:(g==k)=false:=beq_eq_false_iff_ne.mpr h;simp only[dS,hb]
     exact ih
theorem sW(f:Str)(v:V):∀fs:List (Str×V),f∈(oH f v fs).map (·.1)/\∀g,g∈fs.map (·.1)->g∈(oH f v fs).map (·.1)
 | []=>⟨by simp[oH],fun g h=>by simp at h⟩
 | (k,x)::r=>by
   obtain⟨i1,i2⟩:=sW f v r;rw[show oH f v ((k,x)::r)=(if k=f then(k,v)::r else(k,x)::oH f v r)from rfl];by_cases hk:k=f
   ·rw[if_pos hk];subst hk
    exact⟨by simp,fun g h=>by simpa using h⟩
   ·rw[if_neg hk]
    refine⟨?_,fun g h=>?_⟩
    ·rw[aM]
     exact aZ _ i1
    ·rw[aM]at h|-;rcases bE.mp h with e|e
     ·exact bE.mpr (.inl e)
     ·exact aZ _ (i2 g e)
theorem uJ(f:Str)(v:V):∀fs:List (Str×V),(oH f v fs).length<=fs.length+1
 | []=>by simp[oH]
 | (k,x)::r=>by
   have ih:=uJ f v r;rw[show oH f v ((k,x)::r)=(if k=f then(k,v)::r else(k,x)::oH f v r)from rfl];by_cases hk:k=f
   ·rw[if_pos hk,aN,aN];lia
   ·rw[if_neg hk,aN,aN];lia
theorem oW.some_of{v:V}{o:Option Value}(r:oW (some v) o):∃u,o=some u/\RelV v u:=by
 cases o with
 |none=>exact(show False from r).elim
 |some u=>exact⟨u,rfl,r⟩
theorem oW.none_of{o:Option Value}(r:oW none o):o=none:=by
 cases o with
 |none=>rfl
 |some u=>exact(show False from r).elim
theorem aFb{v:V}{u:Value}(r:RelV v u):aPY u=true:=by
 cases v with
 |non=>cases (show u=Value.none from r);rfl
 |bl b=>cases (show u=Value.bool b from r);rfl
 |int i=>obtain⟨t,e⟩:=(show∃t,u=Value.int i t from r);cases e;rfl
 |str x=>obtain⟨t,e⟩:=(show∃t,u=Value.str x t from r);cases e;rfl
 |byt b=>obtain⟨t,e⟩:=(show∃t,u=Value.bytes b t from r);cases e;rfl
 |flt b=>obtain⟨t,e⟩:=(show∃t,u=Value.float b t from r);cases e;rfl
 |ref a=>cases (show u=Value.ref a from r);rfl
 |ty n=>cases (show u=Value.type n from r);rfl
section
variable {P:Program}{w:World}{H H':Hp}{h h':Heap}{a C dx:Addr}{fs gw:List (Str×V)}
theorem aAE(hok:HOk P w H h)(e:H a=some (.ins C dx fs)):∃mA,aCU h a dx C mA/\(∀f,oW (fs.lookup f) (mA f))/\PySem.Within mA (fs.map (·.1))/\fs.length<=1000/\H dx=some (.own a):=by
 obtain⟨d,z,ne,ob,mA,n,r,q⟩:=(show jK P w H h a (.ins C dx fs)from hok a _ e)
 exact⟨mA,⟨ob,n,ne⟩,r,q,z,d⟩
end
structure Cls(K:aO)(C:Addr):Prop where
 pg:aOV K C Str.empty=true
 hd:aPg K C=true
 po:aPQ K C=true
 sa:bU K (.ref C) "__setattr__"=some (some (.builtin "object.__setattr__"))
theorem Cls.get{K:aO}{C:Addr}(c:Cls K C)(f:Str):aOV K C f=true:=c.pg
def nZ(K:aO)(C:Addr)(f:Str):Prop:=bU K (.ref C) f=some none
theorem nZ.taker{K:aO}{C:Addr}{f:Str}(n:nZ K C f):aPr K C f=some none:=by
 unfold aPr;rw[show bU K (.ref C) f=some none from n];rfl
structure Con(K:aO)(C:Addr)(f:Str)(v:V)(u:Value):Prop where
 at_:bU K (.ref C) f=some (some u)
 rel:RelV v u
 get:PySem.W.specialIn K u "__get__"=some none
 cp:PySem.W.copiedNames.contains f=false
structure Meth(K:aO)(C:Addr)(m:Str)(f:Addr):Prop where
 at_:bU K (.ref C) m=some (some (.ref f))
 fn:aOR K (.ref f)=true
 kp:cR K (.ref f)=true
section
variable {X:Cx}{aa:List (Addr×Obj)}{σ:St}{H:Hp}{s:Shared}{a C dx:Addr}{fs:List (Str×V)}{f:Str}{v:V}{A:Around}{E:Value->Shared->Prop}
variable{Q:Value->Shared->Prop}
theorem xG{b:Bool}(I:Inv X aa σ H s)(e:H a=some (.ins C dx fs))(c:Cls X.K C)(n:nZ X.K C f)(l:fs.lookup f=some v)
 (h:∀u s',Inv X aa σ H s'->RelV v u->Q u s'):wpAny (model X.prog X.w) A (getAttr (.ref a) f b) Q E s:=by
 obtain⟨mA,O,r,_,_,_⟩:=aAE I.hok e;obtain⟨u,hu,ru⟩:=oW.some_of (v:=v) (o:=mA f) (by rw[<-l];exact r f)
 exact aI8 I.kIn O (c.get f) c.hd n hu (aFb ru) (h u _ (I.tok _) ru)
theorem xO{m:Str}{g:Addr}{pl:Sem Bool}{Q:Value×List Value->Shared->Prop}(I:Inv X aa σ H s)(e:H a=some (.ins C dx fs))(c:Cls X.K C)(k:Meth X.K C m g)(l:fs.lookup m=none)
 (h:Q (.ref g,[.ref a]) s):wpAny (model X.prog X.w) A (getMethod (.ref a) m pl) Q E s:=by
 obtain⟨mA,O,r,_,_,_⟩:=aAE I.hok e;have hn:mA m=none:=oW.none_of (by rw[<-l];exact r m)
 exact aF5 I.kIn O (c.get m) k.at_ k.fn hn h
theorem yE{y:V}{u:Value}{Q:Unit->Shared->Prop}(I:Inv X aa σ H s)(e:H a=some (.ins C dx fs))(c:Cls X.K C)(n:nZ X.K C f)(hl:fs.length<1000)(ry:RelV y u)
 (h:∀s',Inv X aa σ (upd H a (.ins C dx (oH f y fs))) s'->Q () s'):wpAny (model X.prog X.w) A (setAttr (.ref a) f u) Q E s:=by
 obtain⟨mA,O,r,wi,_,ho⟩:=aAE I.hok e;have hz:(fs.map (·.1)).length<=sizeLine:=by rw[aP,sizeLine_eq];lia
 refine aJq I.kIn O c.sa c.po n.taker c.hd wi hz fun h' O' sb=>h _ ?_
 have hd:∃o,h'.get? dx=some o:=let ⟨o,_,_,e',_⟩:=O'.ns;⟨o,e'⟩
 refine I.write (x:=a) (e:=dx) (by rw[e];exact True.intro) (.inr ho) (fun b q hb z=>(sb.2 b hb).trans z) hd ?_
 refine⟨by rw[fK O.ne];exact ho,?_,O.ne,O'.obj,_,O'.ns,fun g=>?_,fun g hg=>?_⟩
 ·have:=uJ f y fs;lia
 ·show oW ((oH f y fs).lookup g) (if g=f then some u else mA g);rw[uL];by_cases q:g=f
  ·rw[if_pos q,if_pos q];exact ry
  ·rw[if_neg q,if_neg q];exact r g
 ·by_cases q:g=f
  ·rw[q];exact(sW f y fs).1
  ·refine(sW f y fs).2 g (wi g fun z=>hg ?_)
   show(if g=f then some u else mA g)=none;rw[if_neg q];exact z
theorem Inv.made(I:Inv X aa σ H s):Inv X aa σ (upd (upd H s.heap.objs.size (.own (s.heap.objs.size+1))) (s.heap.objs.size+1) (.ins C s.heap.objs.size []))
 {s with heap:=(s.heap.push dD).push (dW C s.heap.objs.size)}:=by
 have e1:(s.heap.push dD).get? s.heap.objs.size=some dD:=Heap.get?_push_size s.heap rfl;have e2:((s.heap.push dD).push (dW C s.heap.objs.size)).get? (s.heap.objs.size+1)=some (dW C s.heap.objs.size):=by
  have:=Heap.get?_push_size (s.heap.push dD) (o:=dW C s.heap.objs.size) rfl;rwa[Heap.size_push]at this
 have e3:(s.heap.push dD).Ns s.heap.objs.size (fun _=>none):=⟨dD,#[],_,e1,rfl,(fun e he=>absurd he (by simp)),fun _=>rfl⟩;have I1:=I.laid (a:=s.heap.objs.size) (o:=.own (s.heap.objs.size+1)) (h':=s.heap.push dD) (t':=s.toks) (fun b u q=>Heap.get?_push_of_some _ q) (bG _) ⟨_,e1⟩
 refine I1.laid (a:=s.heap.objs.size+1) (o:=.ins C s.heap.objs.size []) (t':=s.toks) (fun b u q=>Heap.get?_push_of_some _ q) (aQg (Heap.size_push _ _)) ?_
 have ne:s.heap.objs.size≠s.heap.objs.size+1:=bX (eK _)
 refine⟨by rw[fK ne,iY],d3 _,ne,e2,fun _=>none,(Heap.Ns1.of_empty e3).at fun o q=>Heap.get?_push_of_some _ q,fun _=>True.intro,fun y hy=>absurd rfl hy⟩
theorem aKs{prog:Program}{w:World}{env:Env}{e:Expr}{f:Str}{pos:Pos}{s:Shared}(hb:attributeBase e f env (eval e env)=eval e env)
 (h:wpAny (model prog w) A (eval e env) (fun o ak=>wpAny (model prog w) A (getAttr o f true) Q E ak) E s):wpAny (model prog w) A (eval (.Attribute e f pos) env) Q E s:=
 Attribute_any_ h (by rw[arm_eval_Attribute,hb])
end
def tFld(K:aO)(ta:TE)(f:Str):TE:=fun σ H Q=>ta σ H fun x H1=>∃a C dx fs v,x=.ref a/\H1 a=some (.ins C dx fs)/\Cls K C/\nZ K C f/\fs.lookup f=some v/\Q v H1
def sFld(K:aO)(ta tv:TE)(f:Str):TS:=fun D σ H=>tv σ H fun y H1=>ta σ H1 fun x H2=>∃a C dx fs,x=.ref a/\H2 a=some (.ins C dx fs)/\Cls K C/\nZ K C f/\fs.length<1000/\
 D.nx σ (upd H2 a (.ins C dx (oH f y fs)))
def aKu(X:Cx)(op:Operator)(rd:V->V->Hp->VK->Prop):Prop:=
 ∀(aa:List (Addr×Obj))(s:Shared)(σ:St)(H:Hp)(x y:V)(u v:Value)(Q:VK),Inv X aa σ H s->RelV x u->RelV y v->rd x y H Q->wpAny (model X.prog X.w) X.A (inplaceOp op u v) (EP X aa σ Q) X.xe s
def sFldAug(K:aO)(ta tv:TE)(rd:V->V->Hp->VK->Prop)(f:Str):TS:=fun D σ H=>ta σ H fun x H1=>∃a C dx fs v,x=.ref a/\H1 a=some (.ins C dx fs)/\Cls K C/\nZ K C f/\fs.lookup f=some v/\
 tv σ H1 fun y H2=>rd v y H2 fun z H3=>∃nc gw,H3 a=some (.ins C nc gw)/\gw.length<1000/\D.nx σ (upd H3 a (.ins C nc (oH f z gw)))
section
variable {X:Cx}{o e value:Expr}{f:Str}{pos ar az:Pos}{ta tv:TE}
theorem aMQ(he:PE X e ta)(hb:attributeBase e f X.env (eval e X.env)=eval e X.env):PE X (.Attribute e f pos) (tFld X.K ta f):=by
 intro aa s σ H Q I h
 refine aKs hb (thn (he aa s σ H _ I h) fun u s1 zz=>?_)
 obtain⟨x,H1,I1,rx,a,C,dx,fs,v,ex,ea,c,n,l,q⟩:=zz;subst ex;obtain rfl:u=Value.ref a:=rx
 exact xG I1 ea c n l fun u' s2 I2 ru=>⟨v,H1,I2,ru,q⟩
theorem aMS(ha:PE X o ta)(hv:PE X value tv)(hs:swapsWith value (some (.Attribute o f ar)) pos.line X.env=pure false):PS X (.Assign [.Attribute o f ar] value pos) (sFld X.K ta tv f):=by
 intro aa s σ H D I h
 refine plainObj_wpAny_Assign_Attribute (thn (hv aa s σ H _ I h) fun u s1 ⟨y,H1,I1,ry,q⟩=>thn (ha aa s1 σ H1 _ I1 q) fun ov s2 ⟨x,H2,I2,rx,a,C,dx,fs,ex,ea,c,n,l,q2⟩=>?_) hs
 subst ex;obtain rfl:ov=Value.ref a:=rx
 exact yE I2 ea c n l ry fun s3 I3=>⟨σ,_,I3,q2⟩
theorem z6{op:Operator}{rd:V->V->Hp->VK->Prop}(ha:PE X o ta)(hv:PE X value tv)(yg:aKu X op rd):PS X (.AugAssign (.Attribute o f az) op value pos) (sFldAug X.K ta tv rd f):=by
 intro aa s σ H D I h
 refine wpAny_AugAssign_AttributeAny (thn (ha aa s σ H _ I h) fun ov s1 zz=>?_)
 obtain⟨x,H1,I1,rx,a,C,dx,fs,v,ex,ea,c,n,l,q⟩:=zz;subst ex;obtain rfl:ov=Value.ref a:=rx
 refine xG I1 ea c n l fun u s2 I2 ru=>thn (hv aa s2 σ H1 _ I2 q) fun w3 s3 ⟨y,H2,I3,ry,q3⟩=>thn (yg aa s3 σ H2 v y u w3 _ I3 ru ry q3) fun w4 s4 zz=>?_
 obtain⟨z,H3,I4,rz,nc,gw,zl,l',q4⟩:=zz
 exact yE I4 zl c n l' rz fun s5 I5=>⟨σ,_,I5,q4⟩
def rAdd:V->V->Hp->VK->Prop:=fun x y H Q=>∃i j,x=.int i/\y=.int j/\Q (.int (i+j)) H
def rSub:V->V->Hp->VK->Prop:=fun x y H Q=>∃i j,x=.int i/\y=.int j/\Q (.int (i - j)) H
theorem aLy:aKu X .Add rAdd:=by
 rintro aa s σ H x y u v Q I rx ry ⟨i,j,rfl,rfl,q⟩;obtain⟨t,rfl⟩:=(show∃t,u=Value.int i t from rx);obtain⟨t',rfl⟩:=(show∃t',v=Value.int j t' from ry)
 exact aQp ⟨.int (i+j),H,I.tok _,⟨_,rfl⟩,q⟩
theorem aGG:aKu X .Sub rSub:=by
 rintro aa s σ H x y u v Q I rx ry ⟨i,j,rfl,rfl,q⟩;obtain⟨t,rfl⟩:=(show∃t,u=Value.int i t from rx);obtain⟨t',rfl⟩:=(show∃t',v=Value.int j t' from ry)
 exact aQq ⟨.int (i - j),H,I.tok _,⟨_,rfl⟩,q⟩
end
section
variable {X:Cx}{aa:List (Addr×Obj)}{σ:St}{H:Hp}{s:Shared}{A:Around}{E:Value->Shared->Prop}{Q:Value->Shared->Prop}{c:Value}{b:Bool}
end
variable{k:Nat}{A:Around}{C:Addr}{us:List Value}{kw:List (Str×Value)}
structure Room(k:Nat)(A:Around):Prop where
 hd:A.handled=none
 dp:A.depth+3*k+5<recursionLimit
 un:A.units+16*k+200<cLine
theorem Room.mono{j:Nat}(r:Room k A)(h:j<=k):Room j A:=⟨r.hd,by have:=r.dp;lia,by have:=r.un;lia⟩
theorem Room.deeper(r:Room (k+1) A)(env:Env):Room k (A.deeper env):=
 ⟨r.hd,by have:=r.dp;show A.depth+1+3*k+5<_;lia,by have:=r.un;show A.units+3+16*k+200<_;lia⟩
theorem aDc:(A.under (.builtin "type.__call__" ⟨.ref C::us,kw⟩)).depth=A.depth+1:=by
 first|rfl|simp[Around.under,Code.weight,Code.isCreation,Code.isGuard,Code.isCaller,Code.frames,Code.isFrame,guardIds]
theorem aDk:(A.under (.builtin "type.__call__" ⟨.ref C::us,kw⟩)).units=A.units+1:=by
 first|rfl|simp[Around.under,Code.cUnits,Code.frames,Code.isFrame]
theorem Room.make(r:Room (k+1) A)(C:Addr)(us:List Value)(kw:List (Str×Value)):Room k (A.under (.builtin "type.__call__" ⟨.ref C::us,kw⟩)):=
 ⟨r.hd,by have:=r.dp;rw[aDc];lia,by have:=r.un;rw[aDk];lia⟩
theorem Room.depth(r:Room k A):A.depth<recursionLimit:=by have:=r.dp;lia
noncomputable def aJ1:TA:=fun _ H Q=>Q [] H
noncomputable def aHR(ta:TE)(tr:TA):TA:=fun σ H Q=>ta σ H fun x H1=>tr σ H1 fun xs H2=>Q (x::xs) H2
section
variable {X:Cx}{e:Expr}{es:List Expr}{te:TE}{t:TA}{pos:Pos}
theorem aC4:PA X [] aJ1:=fun _ _ _ _ H Q I h=>Calls.spliced_nil ⟨[],H,I,.nil,h⟩
theorem vD(ha:PE X e te)(hr:PA X es t)(hs:starEach (e::es) X.env=(false,eval e X.env)::starEach es X.env:=by rfl):PA X (e::es) (aHR te t):=by
 intro pos aa s σ H Q I h;rw[hs];show wpAny _ _ (spliced ((false,eval e X.env)::backTo pos (starEach es X.env))) _ _ s
 refine Calls.spliced_cons (thn (ha aa s σ H _ I h) fun u s1 zz=>?_)
 obtain⟨x,H1,I1,r1,q1⟩:=zz
 exact thn (hr pos aa s1 σ H1 _ I1 q1) fun us s2 ⟨xs,H2,I2,r2,q2⟩=>⟨x::xs,H2,I2,.cons r1 r2,q2⟩
def tTup(t:TA):TE:=fun σ H Q=>t σ H fun xs H1=>xs.length<=sizeLine/\∀p,H1 p=none->Q (.ref p) (upd H1 p (.tup xs))
def tLst(t:TA):TE:=fun σ H Q=>t σ H fun xs H1=>xs.length<=sizeLine/\∀p,H1 p=none->Q (.ref p) (upd H1 p (.lst xs))
theorem aMk{x1}(h:PA X es t):PE X (.Tuple es x1 pos) (tTup t):=by
 intro aa s σ H Q I hq
 refine wpAny_Tuple_spliced (thn (h pos aa s σ H _ I hq) fun us s1 ⟨xs,H1,I1,r,z,q⟩=>⟨by rw[<-r.length];exact z,?_⟩)
 have hf:H1 s1.heap.objs.size=none:=I1.hok.fresh (bG _)
 refine⟨.ref s1.heap.objs.size,upd H1 s1.heap.objs.size (.tup xs),I1.laid (t':=s1.toks) (fun b u e=>Heap.get?_push_of_some _ e) (bG _) ?_,rfl,q _ hf⟩
 exact⟨z,us,r,⟨_,Heap.get?_push_size _ rfl,rfl,_,rfl⟩⟩
theorem aLQ(h:PA X es t):PE X (.List es pos) (tLst t):=by
 intro aa s σ H Q I hq
 refine wpAny_List_spliced (thn (h pos aa s σ H _ I hq) fun us s1 ⟨xs,H1,I1,r,z,q⟩=>⟨by rw[<-r.length];exact z,?_⟩)
 have hf:H1 s1.heap.objs.size=none:=I1.hok.fresh (bG _)
 refine⟨.ref s1.heap.objs.size,upd H1 s1.heap.objs.size (.lst xs),I1.laid (t':=s1.toks) (fun b u e=>Heap.get?_push_of_some _ e) (bG _) ?_,rfl,q _ hf⟩
 exact⟨z,us,0,r,Heap.get?_push_size _ rfl⟩
end
abbrev Sp:=List V->Hp->VK->XK->Prop
abbrev CXT:=List Env->Hp->Shared->XK->Value->Shared->Prop
structure Env0(P:Program)(w:World)(K:aO)(mg:Str->Option Value)(base:Heap)(A:Around)(outer:List Env)(s:Shared)(H:Hp):Prop where
 frames:A.frames=some outer
 mod:Mod K mg base
 bs:∀b o,base.get? b=some o->s.heap.get? b=some o/\H b=none
 bsz:base.objs.size<=s.heap.objs.size
 funs:s.heap.FunFrames base outer
 frf:∀b∈frs outer,H b=none
 hok:HOk P w H s.heap
 bare:AllBare s.gens
def CE(outer:List Env)(P:Program)(w:World)(H:Hp)(s:Shared)(Q:VK)(u:Value)(s':Shared):Prop:=
 ∃v H',s'.os=s.os/\AllBare s'.gens/\Un (frs outer) [] H H' s.heap s'.heap/\HOk P w H' s'.heap/\RelV v u/\Q v H'
def CR(CX:CXT)(outer:List Env)(P:Program)(w:World)(H:Hp)(s:Shared)(Q:VK)(E:XK)(r:Result)(s':Shared):Prop:=
 match r with
 | .ok (.ret u)=>CE outer P w H s Q u s'
 | .ok _=>False
 | .error e=>CX outer H s E e s'
structure mW(P:Program)(w:World)(K:aO)(mg:Str->Option Value)(base:Heap)(CX:CXT)(k:Nat)(f:Addr)(fd:FuncData)(ps:List Str)(sp:Sp):Prop where
 len:∀vs H Q E,sp vs H Q E->vs.length=ps.length
 run:∀(A:Around)(outer:List Env)(s:Shared)(H:Hp)(args:Args)(us:List Value)(vs:List V)(Q:VK)(E:XK),Room k A->Env0 P w K mg base A outer s H->BindsTo s fd args (ps.zip us)->Vals vs us->sp vs H Q E->
  codeAny (model P w) A (.call (.ref f) args) (CR CX outer P w H s Q E) s
theorem Env0.make{P:Program}{w:World}{K:aO}{mg:Str->Option Value}{base:Heap}{A:Around}{outer:List Env}{s:Shared}{H:Hp}(e:Env0 P w K mg base A outer s H)(C:Addr)(us:List Value)(kw:List (Str×Value)):
 Env0 P w K mg base (A.under (.builtin "type.__call__" ⟨.ref C::us,kw⟩)) outer s H:=⟨by first|exact e.frames| (simpa[Around.under,Code.envs,Code.isFrame,pushEnvs]using e.frames),e.mod,e.bs,e.bsz,e.funs,e.frf,e.hok,e.bare⟩
section
variable {X:Cx}{aa:List (Addr×Obj)}{σ:St}{H:Hp}{s s':Shared}
theorem Inv.env0(I:Inv X aa σ H s):Env0 X.prog X.w X.K X.mg X.base X.A X.stack s H:=
 ⟨I.ok.frames,I.ok.mod,I.bs,cA I.ok.bsz I.sz,I.stack,I.stkFree,I.hok,I.bare⟩
theorem Inv.after{Q:VK}{u:Value}(I:Inv X aa σ H s)(h:CE X.stack X.prog X.w H s Q u s'):EP X aa σ Q u s':=by
 obtain⟨v,H',os,bare,un,hok,r,q⟩:=h;obtain⟨hh,g,d,t,os'⟩:=s';obtain rfl:os'=s.os:=os
 exact⟨v,H',I.call (h':=hh) (g':=g) (d':=d) (t':=t) (ch:=[]) un hok bare (fun b z=>absurd z (by simp)),r,q⟩
end
noncomputable def aEu(sp:Sp)(bo:List V)(E:XK)(t:TA):TE:=fun σ H Q=>t σ H fun vs H1=>sp (vs++bo) H1 Q E
def aF7(C:Addr)(m:Str)(sp:Sp)(bo:List V)(E:XK)(ta:TE)(t:TA):TE:=fun σ H Q=>ta σ H fun x H1=>∃a dx fs,x=.ref a/\H1 a=some (.ins C dx fs)/\fs.lookup m=none/\
 t σ H1 fun vs H2=>sp (x::(vs++bo)) H2 Q E
def tMake(C:Addr)(sp:Sp)(bo:List V)(E:XK)(t:TA):TE:=fun σ H Q=>t σ H fun vs H1=>∀x dx,H1 x=none->H1 dx=none->dx≠x->
 sp (.ref x::(vs++bo)) (upd (upd H1 dx (.own x)) x (.ins C dx [])) (fun v H2=>v=.non/\Q (.ref x) H2) E
def Binds(K:aO)(fd:FuncData)(ps:List Str)(ds:List Value):Prop:=
 ∀(s:Shared)(us:List Value),K.In s.heap->(us++ds).length=ps.length->BindsTo s fd ⟨us,[]⟩ (ps.zip (us++ds))
theorem Binds.all{K:aO}{fd:FuncData}{ps:List Str}(h:∀us:List Value,us.length=ps.length->bindArgs fd ⟨us,[]⟩=pure (ps.zip us)):Binds K fd ps []:=fun s us _ hl=>by
 rw[aV]at hl|-
 exact .of_eq (h us hl)
def Passes(CX:CXT)(X:Cx)(E:XK):Prop:=∀(aa:List (Addr×Obj))(σ:St)(H:Hp)(s:Shared)(e:Value)(s':Shared),Inv X aa σ H s->CX X.stack H s E e s'->X.xe e s'
section
variable {X:Cx}{CX:CXT}{k:Nat}{f C:Addr}{fd:FuncData}{ps:List Str}{sp:Sp}{bo:List V}{ds:List Value}{E:XK}{x m:Str}{p pos ao:Pos}{e o:Expr}{es:List Expr}{ta:TE}{t:TA}
variable{aa:List (Addr×Obj)}{σ:St}{Q:VK}{vs:List V}{pl:Sem Bool}
theorem aDi{H:Hp}{s:Shared}{us:List Value}(F:mW X.prog X.w X.K X.mg X.base CX k f fd ps sp)(hr:Room k X.A)(hb:Binds X.K fd ps ds)(hd:Vals bo ds)(hx:Passes CX X E)
 (I:Inv X aa σ H s)(r:Vals vs us)(h:sp (vs++bo) H Q E):wpAny (model X.prog X.w) X.A (call (.ref f) us) (EP X aa σ Q) X.xe s:=by
 have r2:Vals (vs++bo) (us++ds):=r.append hd;have hl:(us++ds).length=ps.length:=by rw[<-r2.length];exact F.len _ _ _ _ h
 refine wpAny_call (codeAny_mono (F.run X.A X.stack s H ⟨us,[]⟩ (us++ds) (vs++bo) Q E hr I.env0 (hb s us I.kIn hl) r2 h) fun r s' hq=>?_)
 cases r with
 |error e=>exact hx aa σ H s e s' I hq
 |ok fl=>
  cases fl with
  |ret u=>exact I.after hq
  |next=>exact False.elim hq
  |brk=>exact False.elim hq
  |cont=>exact False.elim hq
theorem aAp(F:mW X.prog X.w X.K X.mg X.base CX k f fd ps sp)(hr:Room k X.A)(hg:Gl X x)(hm:X.mg x=some (.ref f))(hk:cR X.K (.ref f)=true)(hb:Binds X.K fd ps ds)(hd:Vals bo ds)(hx:Passes CX X E)
 (ha:PA X (e::es) t)(dq:(x==("__debug__":Str))=false:=by decide)(he:starEach (e::es) X.env=(false,eval e X.env)::starEach es X.env:=by rfl)(ay:(backTo pos (starEach es X.env)).any (·.1)=false:=by rfl):
 PE X (.Call (.Name x p) (e::es) [] pos) (aEu sp bo E t):=by
 intro aa s σ H Q I h
 refine wpAny_Call_Name_kw (aAY I hg hm ?_ dq)
 refine aPb (h₀:=X.base) I.ok.mod.kin hk (thn (ha pos aa s σ H _ I h) fun us s1 ⟨vs,H1,I1,r,q⟩=>⟨I1.kIn,?_⟩) he ay
 exact aDi F hr hb hd hx I1 r q
theorem aIS(he:PE X o ta)(c:Cls X.K C)(hm:Meth X.K C m f)(F:mW X.prog X.w X.K X.mg X.base CX k f fd ps sp)(hr:Room k X.A)(hb:Binds X.K fd ps ds)(hd:Vals bo ds)(hx:Passes CX X E)(ha:PA X (e::es) t)
 (bj:starEach (e::es) X.env=(false,eval e X.env)::starEach es X.env:=by rfl)(ay:(backTo pos (starEach es X.env)).any (·.1)=false:=by rfl)
 (ht:eval (.Call (.Attribute o m ao) (e::es) [] pos) X.env=(do
  let ov<-eval o X.env
  standAt ao.atName
  let (f,first)<-holding [ov] (getMethod ov m pl)
  callWith pos f first (backTo pos (starEach (e::es) X.env)) (backToKw pos (keywordEach [] X.env))):=by rfl):
 PE X (.Call (.Attribute o m ao) (e::es) [] pos) (aF7 C m sp bo E ta t):=by
 intro aa s σ H Q I h
 refine aPu (pl:=pl) (thn (he aa s σ H _ I h) fun u s1 ⟨x,H1,I1,rx,a,dx,fs,ex,ea,l,q⟩=>?_) ht
 subst ex;obtain rfl:u=Value.ref a:=rx
 refine xO I1 ea c hm l ?_
 refine aPb (first:=[.ref a]) (h₀:=X.base) I.ok.mod.kin hm.kp (thn (ha pos aa s1 σ H1 _ I1 q) fun us s2 ⟨vs,H2,I2,r,q2⟩=>⟨I2.kIn,?_⟩) bj ay
 exact aDi (us:=.ref a::us) (vs:=.ref a::vs) F hr hb hd hx I2 (.cons rfl r) q2
theorem aGF(he:PE X o ta)(c:Cls X.K C)(hm:Meth X.K C m f)(F:mW X.prog X.w X.K X.mg X.base CX k f fd ps sp)(hr:Room k X.A)(hb:Binds X.K fd ps ds)(hd:Vals bo ds)(hx:Passes CX X E)
 (ht:eval (.Call (.Attribute o m ao) [] [] pos) X.env=(do
  let ov<-eval o X.env
  standAt ao.atName
  let (f,first)<-holding [ov] (getMethod ov m pl)
  callWith pos f first (backTo pos (starEach [] X.env)) (backToKw pos (keywordEach [] X.env))):=by rfl):
 PE X (.Call (.Attribute o m ao) [] [] pos) (aF7 C m sp bo E ta aJ1):=by
 intro aa s σ H Q I h
 refine aPu (pl:=pl) (thn (he aa s σ H _ I h) fun u s1 ⟨x,H1,I1,rx,a,dx,fs,ex,ea,l,q⟩=>?_) ht
 subst ex;obtain rfl:u=Value.ref a:=rx
 refine xO I1 ea c hm l ?_
 exact PySem.W.callWith_K0 (first:=[.ref a]) I1.kIn hm.kp (aDi (us:=[.ref a]) (vs:=[.ref a]) F hr hb hd hx I1 (.cons rfl .nil) q)
structure Mk(K:aO)(C f:Addr):Prop where
 makes:aPs K C=true
 init:bU K (.ref C) "__init__"=some (some (.ref f))
 fn:aOR K (.ref f)=true
 kp:cR K (.ref C)=true
theorem aH8{H:Hp}{s:Shared}{us:List Value}(M:Mk X.K C f)(F:mW X.prog X.w X.K X.mg X.base CX k f fd ps sp)(hr:Room (k+1) X.A)(hb:Binds X.K fd ps ds)(hd:Vals bo ds)
 (hx:Passes CX X E)(I:Inv X aa σ H s)(r:Vals vs us)
 (h:∀x dx,H x=none->H dx=none->dx≠x->sp (.ref x::(vs++bo)) (upd (upd H dx (.own x)) x (.ins C dx [])) (fun v H2=>v=.non/\Q (.ref x) H2) E):
 wpAny (model X.prog X.w) X.A (call (.ref C) us) (EP X aa σ Q) X.xe s:=by
 have hq:=h (s.heap.objs.size+1) s.heap.objs.size (I.hok.fresh (aQt _)) (I.hok.fresh (bG _)) (bX (eK _));have I2:=Inv.made (C:=C) I;have r2:Vals (V.ref (s.heap.objs.size+1)::(vs++bo)) (Value.ref (s.heap.objs.size+1)::(us++ds)):=.cons rfl (r.append hd);have hl:(Value.ref (s.heap.objs.size+1)::us++ds).length=ps.length:=by
  have e:=r2.length;rw[F.len _ _ _ _ hq]at e
  exact e.symm
 refine wpAny_call (aHh (f:=f) I.kIn M.makes M.init (beq_iff_eq.mp M.fn) (codeAny_mono (F.run _ X.stack _ _ ⟨Value.ref (s.heap.objs.size+1)::us,[]⟩ (Value.ref (s.heap.objs.size+1)::(us++ds)) _ _ E (hr.make C us [])
  (I2.env0.make C us []) (hb _ (Value.ref (s.heap.objs.size+1)::us) I2.kIn hl) r2 hq) fun r s' sv=>?_))
 cases r with
 |error e=>exact hx aa σ _ _ e s' I2 sv
 |ok fl=>
  cases fl with
  |ret u=>
   obtain⟨v,H',I3,rv,ev,q3⟩:=I2.after sv;subst ev
   exact⟨rv,⟨V.ref (s.heap.objs.size+1),H',I3,rfl,q3⟩⟩
  |next=>exact False.elim sv
  |brk=>exact False.elim sv
  |cont=>exact False.elim sv
theorem aJj(M:Mk X.K C f)(F:mW X.prog X.w X.K X.mg X.base CX k f fd ps sp)(hr:Room (k+1) X.A)(hg:Gl X x)(hm:X.mg x=some (.ref C))(hb:Binds X.K fd ps ds)(hd:Vals bo ds)(hx:Passes CX X E)
 (ha:PA X (e::es) t)(dq:(x==("__debug__":Str))=false:=by decide)(he:starEach (e::es) X.env=(false,eval e X.env)::starEach es X.env:=by rfl)(ay:(backTo pos (starEach es X.env)).any (·.1)=false:=by rfl):
 PE X (.Call (.Name x p) (e::es) [] pos) (tMake C sp bo E t):=by
 intro aa s σ H Q I h
 refine wpAny_Call_Name_kw (aAY I hg hm ?_ dq)
 refine aPb (h₀:=X.base) I.ok.mod.kin M.kp (thn (ha pos aa s σ H _ I h) fun us s1 ⟨vs,H1,I1,r,q⟩=>⟨I1.kIn,?_⟩) he ay
 exact aH8 M F hr hb hd hx I1 r q
end
def PK(X:Cx)(lb:List Keyword)(t:TA):Prop:=
 ∀(pos:Pos)(aa:List (Addr×Obj))(s:Shared)(σ:St)(H:Hp)(Q:List V->Hp->Prop),Inv X aa σ H s->t σ H Q->wpAny (model X.prog X.w) X.A (evalAll ((backToKw pos (keywordEach lb X.env)).map (·.2))) (AP X aa σ Q) X.xe s
section
variable {X:Cx}{CX:CXT}{k:Nat}{f C:Addr}{fd:FuncData}{ps ks:List Str}{sp:Sp}{E:XK}{x m:Str}{p pos ao xo:Pos}{e o:Expr}{es:List Expr}{lb:List Keyword}{te ta:TE}{t tk:TA}{nm:Option Str}
theorem aMw:PK X [] aJ1:=fun _ _ _ _ H Q I h=>wpAny_evalAll_nil ⟨[],H,I,.nil,h⟩
theorem aIz(ha:PE X e te)(hr:PK X lb t):PK X (⟨nm,e,xo⟩::lb) (aHR te t):=by
 intro pos aa s σ H Q I h;show wpAny _ _ (evalAll ((do let v<-eval e X.env;standAt pos;pure v)::(backToKw pos (keywordEach lb X.env)).map (·.2))) _ _ s
 refine wpAny_evalAll_cons (wpAny_bind (thn (ha aa s σ H _ I h) fun u s1 ⟨x,H1,I1,r1,q1⟩=>wpAny_bind (wpAny_standAt (wpAny_pure ?_))))
 exact thn (hr pos aa s1 σ H1 _ I1 q1) fun us s2 ⟨xs,H2,I2,r2,q2⟩=>⟨x::xs,H2,I2,.cons r1 r2,q2⟩
variable {g:List Value->List Value->List Value}{gV:List V->List V->List V}
end
variable{CX:CXT}{mg:Str->Option Value}{base:Heap}{N ps:List Str}{qual:Str}{scope:Scope}{f:Addr}
structure p6(N P:List Str)(sc:Scope):Prop where
 kind:sc.kind=.function
 co:sc.isCoroutine=false
 gen:sc.isGenerator=false
 nd:N.Nodup
 pre:N.take P.length=P
 par:∀x∈P,sc.names.lookup x=some .local\/sc.names.lookup x=some .cell
 nofree:∀y∈sc.names,y.2≠ .free
theorem y9{kindOf:Str->Option NameKind}{x:Str}:∀{binds:List (Str×Value)}{m:Str->Option Value},(∀v,(x,v)∉binds)->bindL kindOf binds m x=m x
 | [],_,_=>rfl
 | (n,v)::r,m,h=>by
   unfold bindL;rw[y9 fun w hw=>h w (aZ _ hw)];split
   ·have:x≠n:=by rintro rfl;exact h v bJ
    simp[this]
   ·rfl
theorem zE{kindOf:Str->Option NameKind}{x:Str}:∀{binds:List (Str×Value)}{m:Str->Option Value},(∀v,(x,v)∉binds)->bindC kindOf binds m x=m x
 | [],_,_=>rfl
 | (n,v)::r,m,h=>by
   unfold bindC;rw[zE fun w hw=>h w (aZ _ hw)];split
   ·rfl
   ·have:x≠n:=by rintro rfl;exact h v bJ
    simp[this]
theorem zV{kindOf:Str->Option NameKind}{x:Str}{v:Value}:∀{P:List Str}{vs:List Value}{i:Nat}{m:Str->Option Value},P.Nodup->P[i]?=some x->vs[i]?=some v->kindOf x=some .local->
 bindL kindOf (P.zip vs) m x=some v
 | [],_,_,_,_,h,_,_=>by simp at h
 |_::_,[],_,_,_,_,h,_=>by simp at h
 |p::P,w::vs,0,m,nd,h1,h2,hk=>by
  simp at h1 h2;subst h1;subst h2;show bindL kindOf ((p,w)::P.zip vs) m p=_;unfold bindL;rw[y9 fun v hv=>(bY.mp nd).1 (aOO hv).1,if_pos hk];simp
 |p::P,w::vs,i+1,m,nd,h1,h2,hk=>by
  show bindL kindOf ((p,w)::P.zip vs) m x=_;unfold bindL
  exact zV (i:=i) (bY.mp nd).2 (by simpa using h1) (by simpa using h2) hk
theorem z8{kindOf:Str->Option NameKind}{x:Str}{v:Value}:∀{P:List Str}{vs:List Value}{i:Nat}{m:Str->Option Value},P.Nodup->P[i]?=some x->vs[i]?=some v->kindOf x≠some .local->
 bindC kindOf (P.zip vs) m x=some v
 | [],_,_,_,_,h,_,_=>by simp at h
 |_::_,[],_,_,_,_,h,_=>by simp at h
 |p::P,w::vs,0,m,nd,h1,h2,hk=>by
  simp at h1 h2;subst h1;subst h2;show bindC kindOf ((p,w)::P.zip vs) m p=_;unfold bindC;rw[zE fun v hv=>(bY.mp nd).1 (aOO hv).1,if_neg hk];simp
 |p::P,w::vs,i+1,m,nd,h1,h2,hk=>by
  show bindC kindOf ((p,w)::P.zip vs) m x=_;unfold bindC
  exact z8 (i:=i) (bY.mp nd).2 (by simpa using h1) (by simpa using h2) hk
noncomputable def start(N:List Str)(vs:List V):St:=vs.map some++aS (N.length - vs.length) none
def aA6(CX:CXT)(P:Program)(w:World)(K:aO)(mg:Str->Option Value)(base:Heap)(N:List Str)(qual:Str)(scope:Scope)(f:Addr)(cd:Value)(A:Around)(outer:List Env)(s:Shared)(H:Hp)(E:XK):Cx where
 prog:=P
 w:=w
 K:=K
 mg:=mg
 base:=base
 A:=A.deeper (envOfC qual scope s.heap.objs.size f cd)
 N:=N
 s₀:=s
 H₀:=H
 env:=envOfC qual scope s.heap.objs.size f cd
 outer:=outer
 stack:=envOfC qual scope s.heap.objs.size f cd::outer
 ex:=[]
 calm:=true
 fn:=fun _=>true
 pn:=[]
 xe:=fun e s'=>wpAny (model P w) (A.deeper (envOfC qual scope s.heap.objs.size f cd)) (leaving (envOfC qual scope s.heap.objs.size f cd) e) (fun _ qv=>CX outer H s E e qv) (fun e' qv=>CX outer H s E e' qv) s'
theorem aCk{sc:Scope}{n:Nat}{x:Str}(h:sc.names.lookup x=some .cell):∃c,(cellsFrom n sc.names []).lookup x=some c:=by
 have q:=aPp sc.names n [] (.inl h)
 exact cU.mp q
theorem aEM{P:Program}{w:World}{K:aO}{cd:Value}{A:Around}{outer:List Env}{s s1:Shared}{H:Hp}{E:XK}{us:List Value}{vs:List V}
 (S:p6 N ps scope)(hd:A.handled=none)(e0:Env0 P w K mg base A outer s H)(hl:vs.length=ps.length)(r:Vals vs us)
 (x:InCallC s s.heap.objs.size (bindL (envOfC qual scope s.heap.objs.size f cd).kindOf (ps.zip us) fun _=>none) (cellsFrom (s.heap.objs.size+1) scope.names []) (bindC (envOfC qual scope s.heap.objs.size f cd).kindOf (ps.zip us) fun _=>none) s1):
 Inv (aA6 CX P w K mg base N qual scope f cd A outer s H E) [] (start N vs) H s1:=by
 have ay:ps.length<=N.length:=by have:=congrArg aP3 S.pre;rw[d7]at this;lia
 obtain⟨h1,tk,rfl,hk⟩:=x.done;have rg:∀b:Addr,b∉(aA6 CX P w K mg base N qual scope f cd A outer s H E).ex:=fun b z=>absurd (show b∈([]:List Addr)from z) (by simp)
 refine⟨⟨e0.mod,S.kind,rfl,rfl,bG _,fun y z c h1 h2=>?_,fun y hy=>?_,fun y c _ h=>?_,fun _=>hd,Around.frames_deeper e0.frames,.inr ⟨rfl,rfl⟩,fun b z=>absurd z (rg b),e0.bs,e0.bsz,fun b _ _=>rg b,fun b z=>absurd z (rg b),e0.funs,e0.frf⟩,
  rfl,e0.bare,Un.kept hk,⟨_,x.toInCall.ns,fun i y v h1 h2 h3=>?_⟩,fun y c h=>⟨_,x.cell y c h⟩,e0.hok.fresh (bG _),fun y c h=>?_,fun p hp=>absurd (show p∈([]:List (Addr×Obj))from hp) (by simp),e0.hok.kept hk,?_⟩
 ·exact name_of_addr x.apart (PySem.mem_of_lookup h1) (PySem.mem_of_lookup h2)
 ·have hy:scope.names.lookup y=some .cell\/scope.names.lookup y=some .free:=hy;rcases hy with hy|hy
  ·exact aCk hy
  ·exact absurd rfl (S.nofree _ (PySem.mem_of_lookup hy))
 ·exact aPP (x.above y c (PySem.mem_of_lookup h))
 ·have hi:i<vs.length:=by
   unfold start at h2;by_cases hi:i<vs.length
   ·exact hi
   ·rw[bH (by simpa using hi)]at h2;rw[cS]at h2;split at h2<;>cases h2
  have ha:vs[i]?=some v:=by
   unfold start at h2;rw[aY (by simpa using hi),bM]at h2;cases e:vs[i]?with
   |none=>rw[e]at h2;cases h2
   |some a=>rw[e]at h2;cases h2;rfl
  obtain⟨u,hu,rv⟩:=r.get ha;have hp:ps[i]?=some y:=by
   rw[<-S.pre,dF (by lia)];exact h1
  have ndP:ps.Nodup:=by rw[<-S.pre];exact S.nd.sublist (List.take_sublist _ _)
  refine⟨u,rv,?_⟩
  rcases S.par y (bD hp)with k|k
  ·exact .inl ⟨k,zV ndP hp hu k⟩
  ·obtain⟨c,e⟩:=aCk (n:=s.heap.objs.size+1) k
   refine .inr ⟨.inl k,c,e,?_⟩
   have q:=x.cell y c e;rw[z8 ndP hp hu (by show scope.names.lookup y≠_;rw[k];decide)]at q
   exact q
 ·exact e0.hok.fresh (aPP (x.above y c (PySem.mem_of_lookup h)))
 ·unfold start;show _=N.length;rw[bA,aP,aOz]
  lia
theorem aKW{P:Program}{w:World}{K:aO}{k:Nat}{name:Str}{params:Arguments}{body:List Stmt}{dV kV doc pm bc ct oc:Value}{an od:Option Addr}
 {fu:Array (Option Value)}{sp:Sp}(lk:K.lookup f=some ⟨oc,od,.func (cP name qual params body scope dV kV doc pm an bc ct),fu⟩)(jc:dU K bc qual=true)(S:p6 N ps scope)
 (len:∀vs H Q E,sp vs H Q E->vs.length=ps.length)
 (du:∀(A:Around)(outer:List Env)(s:Shared)(H:Hp)(vs:List V)(Q:VK)(E:XK),Room k (A.deeper (envOfC qual scope s.heap.objs.size f bc))->sp vs H Q E->
  ∃t,PSs (aA6 CX P w K mg base N qual scope f bc A outer s H E) body t/\t {nx:=fun _ H'=>Q .non H',rt:=Q} (start N vs) H):
 mW P w K mg base CX (k+1) f (cP name qual params body scope dV kV doc pm an bc ct) ps sp:=by
 refine⟨len,fun A outer s H args us vs Q E hr e0 hb r il=>?_⟩
 have hl:=len _ _ _ _ il;have KX:K.In s.heap:=e0.mod.kin.keeps fun b o e=>(e0.bs b o e).1
 have lim:s.heap.NoLimit:=e0.mod.nolimit.keeps fun b o e=>(e0.bs b o e).1
 have tu:∀y∈ps.zip us,scope.names.lookup y.1=some .local\/(scope.names.lookup y.1=some .cell/\((cellsFrom (s.heap.objs.size+1) scope.names []).lookup y.1).isSome=true):=fun⟨n,v⟩ hy=>by
  rcases S.par n (aOO hy).1 with q|q
  ·exact .inl q
  ·exact .inr ⟨q,aPp _ _ _ (.inl q)⟩
 refine codeAny_call_function hr.depth (KX _ _ lk) rfl S.co S.gen rfl (PySem.W.codeRec_of KX jc) (hb _ _ _ _ ?_)
 refine wpAny_newFunctionEnv_cells S.kind tu fun env he s1 x=>?_
 subst he
 refine⟨lim.keeps x.toInCall.keep,codeAny_func ?_⟩
 obtain⟨t,ht,hq⟩:=du A outer s H vs Q E (hr.deeper _) il;have I:Inv (aA6 CX P w K mg base N qual scope f bc A outer s H E) [] (start N vs) H s1:=aEM S hr.hd e0 hl r x
 refine wpAny_mono (ht [] s1 (start N vs) H _ I hq) (fun fl s' hs=>?_) fun e s' hs=>hs
 have fin:∀{ai:St}{H':Hp}{v:V}{u:Value},Inv (aA6 CX P w K mg base N qual scope f bc A outer s H E) [] ai H' s'->RelV v u->Q v H'->CE outer P w H s Q u s':=
  fun {ai H' v u} J rv q=>⟨v,H',J.os,J.bare,J.base,J.hok,rv,q⟩
 cases fl with
 |ret u=>
  obtain⟨v,ai,H',J,rv,q⟩:=hs
  exact fin J rv q
 |next=>
  obtain⟨ai,H',J,q⟩:=hs
  exact fin (v:=V.non) (u:=Value.none) J rfl q
 |brk=>
  obtain⟨_,_,_,q⟩:=hs
  exact False.elim q
 |cont=>
  obtain⟨_,_,_,q⟩:=hs
  exact False.elim q
section
variable {X:Cx}{x:Str}{p pos:Pos}{e:Expr}{es:List Expr}{t:TA}{id T:String}{r:List V->Hp->VK->Prop}
noncomputable def tCB(r:List V->Hp->VK->Prop)(t:TA):TE:=fun σ H Q=>t σ H fun vs H1=>r vs H1 Q
theorem aBN(hc:m6 X (.builtin id) r)(hg:Gl X x)(hm:X.mg x=none)(hv:bootBuiltins x=some (.builtin id))(ha:PA X (e::es) t)(hn:x≠"__name__":=by decide)(dq:(x==("__debug__":Str))=false:=by decide)
 (he:starEach (e::es) X.env=(false,eval e X.env)::starEach es X.env:=by rfl)(ay:(backTo pos (starEach es X.env)).any (·.1)=false:=by rfl):PE X (.Call (.Name x p) (e::es) [] pos) (tCB r t):=by
 intro aa s σ H Q I h
 refine wpAny_Call_Name_kw (o7 I hg hm hv ?_ hn dq)
 exact aPZ (thn (ha pos aa s σ H _ I h) fun us s1 ⟨vs,H1,I1,r1,q1⟩=>hc aa s1 σ H1 vs us Q I1 r1 q1) he ay
theorem zB(hc:m6 X (.type T) r)(hg:Gl X x)(hm:X.mg x=none)(hv:bootBuiltins x=some (.type T))(ha:PA X (e::es) t)(hn:x≠"__name__":=by decide)(dq:(x==("__debug__":Str))=false:=by decide)
 (he:starEach (e::es) X.env=(false,eval e X.env)::starEach es X.env:=by rfl)(ay:(backTo pos (starEach es X.env)).any (·.1)=false:=by rfl):PE X (.Call (.Name x p) (e::es) [] pos) (tCB r t):=by
 intro aa s σ H Q I h
 refine wpAny_Call_Name_kw (o7 I hg hm hv ?_ hn dq)
 exact dI (thn (ha pos aa s σ H _ I h) fun us s1 ⟨vs,H1,I1,r1,q1⟩=>hc aa s1 σ H1 vs us Q I1 r1 q1) he ay
end
end L2
namespace HT
open PySem PyProof.Rows
section
open PySem.SeqAt
open PySem.AutoSeq1 (wpAny_loadPart')
open PySem.MeetsSeq PySem.MeetsSeq2 PySem.MeetsSeq3
end
section
variable {prog:Program}{w:World}{A:Around}{E:Value->Shared->Prop}{s:Shared}
noncomputable def sIx(n d:Nat):Option Int->Nat
 |none=>d
 |some v=>if v<0 then(v+(n:Int)).toNat else min v.toNat n
theorem aB8(n d:Nat):sIx n d none=d:=rfl
end
end HT
namespace L2
open PySem PySem.Spec PyProof.Rows
abbrev TO:=St->Hp->(Option Int->Hp->Prop)->Prop
def PO(X:Cx)(e:Option Expr)(t:TO):Prop:=
 ∀(aa:List (Addr×Obj))(s:Shared)(σ:St)(H:Hp)(Q:Option Int->Hp->Prop),Inv X aa σ H s->t σ H Q->
  wpAny (model X.prog X.w) X.A (evalPart e X.env) (fun u s'=>∃o H',Inv X aa σ H' s'/\IsPart u o/\Q o H') X.xe s
noncomputable def tNoPart:TO:=fun _ H Q=>Q none H
noncomputable def tPart(t:TE):TO:=fun σ H Q=>t σ H fun x H1=>∃i,x=.int i/\Q (some i) H1
theorem oI{ns:List Int}:∀{us:List Value},Vals (ns.map V.int) us->IntsAre us ns:=by
 induction ns with
 |nil=>intro us r;rw[bB]at r;cases r;exact .nil
 |cons n ns ih=>
  intro us r;rw[aM]at r;cases r with
  |cons r1 r2=>
   obtain⟨t,e⟩:=r1;subst e
   exact .cons n t (ih r2)
section
variable {X:Cx}{e:Expr}{te:TE}{lo hi:Option Expr}{tl th:TO}{pos p2:Pos}
theorem aKF:PO X none tNoPart:=by
 intro aa s σ H Q I h;rw[evalPart_none]
 exact wpAny_pure ⟨none,H,I,.none,h⟩
theorem aAz(h:PE X e te):PO X (some e) (tPart te):=by
 intro aa s σ H Q I hw;rw[evalPart_some]
 refine thn (h aa s σ H _ I hw) fun u s1 zz=>?_
 obtain⟨x,H1,I1,r1,q1⟩:=zz;obtain⟨i,rfl,q⟩:=q1;obtain⟨t,rfl⟩:=r1
 exact⟨some i,H1,I1,.int i t,q⟩
def SlR(X:Cx)(r:V->Option Int->Option Int->Hp->VK->Prop):Prop:=
 ∀(aa:List (Addr×Obj))(s:Shared)(σ:St)(H:Hp)(x:V)(v vl vu:Value)(lo hi:Option Int)(sl:Addr)(Q:VK),Inv X aa σ H s->RelV x v->s.heap.IsSliceOf sl vl vu .none->IsPart vl lo->IsPart vu hi->r x lo hi H Q->
  ∃T id,typeLookup (.type T) "__getitem__"=pure (some (.builtin id))/\s.TypeIs v T/\wpAny (model X.prog X.w) X.A (getItem v (.ref sl)) (EP X aa σ Q) X.xe s
noncomputable def tSl(r:V->Option Int->Option Int->Hp->VK->Prop)(te:TE)(tl th:TO):TE:=fun σ H Q=>te σ H fun x H1=>tl σ H1 fun l H2=>th σ H2 fun u H3=>r x l u H3 Q
theorem aGg{r:V->Option Int->Option Int->Hp->VK->Prop}(hr:SlR X r)(he:PE X e te)(hl:PO X lo tl)(hu:PO X hi th):PE X (.Subscript e (.Slice lo hi none p2) pos) (tSl r te tl th):=by
 intro aa s σ H Q I h
 refine Subscript_ (thn (he aa s σ H _ I h) fun v s1 zz=>?_)
 obtain⟨x,H1,I1,r1,q1⟩:=zz
 refine wpAny_Slice (thn (hl aa s1 σ H1 _ I1 q1) fun vl s2 ⟨l,H2,I2,pl,q2⟩=>thn (hu aa s2 σ H2 _ I2 q2) fun vu s3 zz=>?_)
 obtain⟨u,H3,I3,pu,q3⟩:=zz;rw[evalPart_none]
 refine wpAny_pure ?_
 have I4:Inv X aa σ H3 {s3 with heap:=s3.heap.push {cls:=.type "slice",data:=.fields #[vl,vu,.none]}}:=I3.kept (t':=s3.toks) fun b ob q=>Heap.get?_push_of_some _ q
 obtain⟨T,id,hT,ht,hg⟩:=hr aa {s3 with heap:=s3.heap.push {cls:=.type "slice",data:=.fields #[vl,vu,.none]}} σ H3 x v vl vu l u s3.heap.objs.size Q I4 r1 (Heap.IsSliceOf.new ..) pl pu q3;show wpAny (model X.prog X.w) X.A (subscriptTail e (.Slice lo hi none p2) v (.ref s3.heap.objs.size)) (EP X aa σ Q) X.xe {s3 with heap:=s3.heap.push {cls:=.type "slice",data:=.fields #[vl,vu,.none]}}
 exact tail_any (ops:=[.ref s3.heap.objs.size,v]) ht hT hg (by with_unfolding_all rfl)
def aFk(xs:List V)(lo hi:Option Int):List V:=(xs.drop (HT.sIx xs.length 0 lo)).take (HT.sIx xs.length xs.length hi - HT.sIx xs.length 0 lo)
theorem aBS(xs:List V)(lo hi:Option Int):(aFk xs lo hi).length<=xs.length:=by
 unfold aFk;rw[d7,aOW]
 lia
end
variable{i:Int}{j:Nat}{α:Type}
noncomputable def ixN(n:Nat)(i:Int):Option Nat:=if 0<=i then(if i<n then some i.toNat else none)else if -(n:Int)<=i then some (i+n).toNat else none
def atI{α:Type}(xs:List α)(i:Int):Option α:=(ixN xs.length i).bind fun j=>xs[j]?
theorem aEx{n:Nat}(h:ixN n i=some j):seqIndex? i n=some j/\j<n/\ -(n:Int)<=i/\i<n:=by
 unfold ixN at h;by_cases h0:0<=i
 ·rw[if_pos h0]at h;by_cases h1:i<n
  ·rw[if_pos h1]at h;have e:i.toNat=j:=cH.inj h
   exact⟨by rw[seqIndex_of h0 h1,e],by lia,by lia,h1⟩
  ·rw[if_neg h1]at h;cases h
 ·rw[if_neg h0]at h;by_cases h1: -(n:Int)<=i
  ·rw[if_pos h1]at h;have e:(i+n).toNat=j:=cH.inj h
   exact⟨by rw[seqIndex_neg (by lia) h1,e],by lia,h1,by lia⟩
  ·rw[if_neg h1]at h;cases h
theorem vK{xs:List α}{v:α}(h:atI xs i=some v):∃j,seqIndex? i xs.length=some j/\xs[j]?=some v/\j<xs.length/\ -(xs.length:Int)<=i/\i<xs.length:=by
 unfold atI at h;cases e:ixN xs.length i with
 |none=>rw[e]at h;cases h
 |some j=>
  rw[e]at h;obtain⟨h1,h2,h3,h4⟩:=aEx e
  exact⟨j,h1,h,h2,h3,h4⟩
theorem aEn{xs:List α}{v:α}(h:xs[j]?=some v):atI xs (j:Int)=some v:=by
 have hj:j<xs.length:=(aR.mp h).1;have e:ixN xs.length (j:Int)=some j:=by
  unfold ixN;rw[if_pos (by lia),if_pos (by lia)];simp
 unfold atI;rw[e];exact h
def PlainIx(b:Expr):Prop:=∀o i,subscripted b false o i=operate [o,i] (getItem o i)
def IxR(X:Cx)(r:R2):Prop:=
 ∀(value slice:Expr)(aa:List (Addr×Obj))(s:Shared)(σ:St)(H:Hp)(x y:V)(v u:Value)(Q:VK),Inv X aa σ H s->RelV x v->RelV y u->r x y H Q->
  subscripted slice false v u=operate [v,u] (getItem v u)->wpAny (model X.prog X.w) X.A (subscriptTail value slice v u) (EP X aa σ Q) X.xe s
def MtR(X:Cx)(id:String)(r:V->List V->Hp->VK->Prop):Prop:=
 ∀(aa:List (Addr×Obj))(s:Shared)(σ:St)(H:Hp)(x:V)(xs:List V)(v:Value)(us:List Value)(Q:VK),Inv X aa σ H s->RelV x v->Vals xs us->r x xs H Q->
  wpAny (model X.prog X.w) X.A (call (.builtin id) (v::us)) (EP X aa σ Q) X.xe s
section
variable {X:Cx}{a b:Expr}{ta tb:TE}{pos:Pos}
variable{r:R2}{aa:List (Addr×Obj)}{σ:St}{H:Hp}{s:Shared}{p:Addr}{xs:List V}{x:V}{v:Value}
theorem IxR.or{r':R2}(h:IxR X r)(h':IxR X r'):IxR X (fun x y H Q=>r x y H Q\/r' x y H Q):=by
 intro value slice aa s σ H x y v u Q I rx ry q hs;rcases q with q|q
 ·exact h value slice aa s σ H x y v u Q I rx ry q hs
 ·exact h' value slice aa s σ H x y v u Q I rx ry q hs
theorem aNU(hr:IxR X r)(ha:PE X a ta)(hb:PE X b tb)(hs:PlainIx b):PE X (.Subscript a b pos) (tOp r ta tb):=by
 intro aa s σ H Q I h
 exact Subscript_ (aME ha hb I h fun v u s2 x y H2 I2 rx ry q=>hr a b aa s2 σ H2 x y v u Q I2 rx ry q (hs _ _))
def aKb(K:aO):R2:=fun x y H Q=>∃p xs i v,x=.ref p/\y=.int i/\SqL K H p xs/\atI xs i=some v/\Q v H
def rIxT(K:aO):R2:=fun x y H Q=>∃p xs i v,x=.ref p/\y=.int i/\SqT K H p xs/\atI xs i=some v/\Q v H
def rIxS:R2:=fun x y H Q=>∃z i c,x=.str z/\y=.int i/\z.length<=sizeLine/\atI z.cps.toList i=some c/\Q (.str ⟨#[c]⟩) H
theorem aKq:IxR X (aKb X.K):=by
 intro value slice aa s σ H x y v u Q I rx ry h hs;obtain⟨p,xs,i,z,rfl,rfl,hq,he,q⟩:=h;cases rx;obtain⟨t,rfl⟩:=ry;obtain⟨its,r,pl,hz⟩:=I.list hq;obtain⟨j,h1,h2,h3,h4,h5⟩:=vK he;obtain⟨w,ew,dh⟩:=r.get h2;have hl:=r.length;have hn:=line63;have fin:EP X aa σ Q w s:=⟨z,H,I,dh,q⟩;by_cases h0:0<=i
 ·have hj:i.toNat=j:=by
   rw[seqIndex_of h0 h5]at h1
   exact cH.inj h1
  exact item_listR pl.isList h0 (by lia) (by rw[hj];simpa using ew) fin hs
 ·have hj:(i+(its.toArray.size:Int)).toNat=j:=by
   rw[seqIndex_neg (by lia) h4]at h1;rw[bF,<-hl]
   exact cH.inj h1
  exact subscriptTail_builtinR (x:=w) pl.isList.typeIs slot_list_getitem.lookup
   (wpAny_getItem_list_neg (Q:=fun r s'=>r=w/\EP X aa σ Q r s') pl.isList (by lia) (by rw[bF]<;>lia) (by lia) (by rw[hj];simpa using ew) ⟨rfl,fin⟩) hs
theorem aLX:IxR X (rIxT X.K):=by
 intro value slice aa s σ H x y v u Q I rx ry h hs;obtain⟨p,xs,i,z,rfl,rfl,hq,he,q⟩:=h;cases rx;obtain⟨t,rfl⟩:=ry;obtain⟨its,r,pl,hz⟩:=I.tuple hq;obtain⟨j,h1,h2,h3,h4,h5⟩:=vK he;obtain⟨w,ew,dh⟩:=r.get h2;have hl:=r.length;have hn:=line63;have fin:EP X aa σ Q w s:=⟨z,H,I,dh,q⟩
 exact subscriptTail_builtinR (x:=w) pl.typeIs slot_tuple_getitem.lookup
  (getItem_tuple (j:=j) (Q:=fun r s'=>r=w/\EP X aa σ Q r s') pl (by lia) (by lia) (by rw[bF,<-hl];exact h1) (by simpa using ew) ⟨rfl,fin⟩) hs
theorem aL6:IxR X rIxS:=by
 intro value slice aa s σ H x y v u Q I rx ry h hs;obtain⟨z,i,c,rfl,rfl,hz,he,q⟩:=h;obtain⟨t,rfl⟩:=rx;obtain⟨t',rfl⟩:=ry;obtain⟨j,h1,h2,h3,h4,h5⟩:=vK he;have hl:z.cps.toList.length=z.length:=by simp[Str.length]
 rw[hl]at h1 h4 h5;have hn:=line63
 exact tail_any (typeIs_str s z t) slot_str_getitem.lookup (getItem_str (c:=c) (by
  have e1:decide (i< -(2^63:Int))=false:=decide_eq_false (by lia);have e2:decide (i>=2^63)=false:=decide_eq_false (by lia);rw[e1,e2,Bool.or_false]) (by rw[h1];simpa using h2) ⟨.str ⟨#[c]⟩,H,I.tok _,⟨_,rfl⟩,q⟩) hs
def rIx(K:aO):R2:=fun x y H Q=>aKb K x y H Q\/rIxT K x y H Q\/rIxS x y H Q
theorem aL7:IxR X (rIx X.K):=aKq.or (aLX.or aL6)
theorem aCG(its:List Value)(n j:Nat)(u:Value):Obj.mapSeq (·.setIfInBounds j u) {cls:=.type "list",data:=.seq its.toArray n}={cls:=.type "list",data:=.seq (its.set j u).toArray n}:=by
 simp[Obj.mapSeq]
theorem Inv.lst(I:Inv X aa σ H s)(h:H p=some (.lst xs)):
 ∃(its:List Value)(n:Nat),Vals xs its/\s.heap.get? p=some {cls:=.type "list",data:=.seq its.toArray n}/\xs.length<=sizeLine:=by
 obtain⟨z,its,n,r,e⟩:=I.hok p _ h
 exact⟨its,n,r,e,z⟩
theorem Inv.lstUpd{ys:List V}{its its':List Value}{n n':Nat}{f:Obj->Obj}(I:Inv X aa σ H s)(h:H p=some (.lst xs))
 (ho:s.heap.get? p=some {cls:=.type "list",data:=.seq its.toArray n})(hf:f {cls:=.type "list",data:=.seq its.toArray n}={cls:=.type "list",data:=.seq its'.toArray n'})(r:Vals ys its')(hz:ys.length<=sizeLine)(t:Nat):
 Inv X aa σ (upd H p (.lst ys)) {s with heap:=s.heap.update p f,toks:=t}:=by
 have e:(s.heap.update p f).get? p=some {cls:=.type "list",data:=.seq its'.toArray n'}:=by
  rw[Heap.get?_update_self f ho (by rw[hf]<;>rfl),hf]
 refine I.write (x:=p) (e:=p) (by rw[h];trivial) (.inl rfl) (fun b u hb q=>(Heap.get?_update_other _ _ (Ne.symm hb)).trans q) ⟨_,e⟩ ?_
 exact⟨hz,its',n',r,e⟩
def aFZ:V->V->V->Hp->(Hp->Prop)->Prop:=fun o i v H Q=>∃p xs k j,o=.ref p/\i=.int k/\H p=some (.lst xs)/\ixN xs.length k=some j/\Q (upd H p (.lst (xs.set j v)))
theorem aCc:aLL X aFZ:=by
 intro aa s σ H o i v ov iv u Q I ro ri rv h;obtain⟨p,xs,k,j,rfl,rfl,hp,hj,q⟩:=h;cases ro;obtain⟨t,rfl⟩:=ri;obtain⟨its,n,r,ho,hz⟩:=I.lst hp;obtain⟨h1,h2,h3,h4⟩:=aEx hj;have hl:=r.length;have hn:=line63;have I':Inv X aa σ (upd H p (.lst (xs.set j v))) {s with heap:=s.heap.update p (Obj.mapSeq (·.setIfInBounds j u))}:=
  I.lstUpd hp ho (aCG its n j u) (r.set rv j) (by rw[cM];exact hz) s.toks
 by_cases h0:0<=k
 ·have hk:k.toNat=j:=by
   rw[seqIndex_of h0 h4]at h1
   exact cH.inj h1
  exact PySem.W.ki_setAt ho h0 (by lia) (by rw[bF,<-hl];exact h4) (by rw[hk];exact⟨_,I',q⟩)
 ·have hk:(k+(its.toArray.size:Int)).toNat=j:=by
   rw[seqIndex_neg (by lia) h3]at h1;rw[bF,<-hl]
   exact cH.inj h1
  exact PySem.W.ki_setBack ho (by lia) (by rw[bF,<-hl];exact h3) (by lia) (by rw[hk];exact⟨_,I',q⟩)
theorem aAA(lo hi:Option Int)(n:Nat):(sliceBounds lo hi none n).1=((HT.sIx n 0 lo:Nat):Int)/\(sliceBounds lo hi none n).2.1=((HT.sIx n n hi:Nat):Int)/\(sliceBounds lo hi none n).2.2=1:=by
 refine⟨?_,?_,rfl⟩
 ·cases lo with
  |none=>simp[sliceBounds,HT.sIx]
  |some i=>
   simp only[sliceBounds,HT.sIx,aP0,show(1:Int)>0 by decide,if_true];by_cases h:i<0
   ·simp only[h,if_true]<;>lia
   ·simp only[h,if_false]<;>lia
 ·cases hi with
  |none=>simp[sliceBounds,HT.sIx]
  |some i=>
   simp only[sliceBounds,HT.sIx,aP0,show(1:Int)>0 by decide,if_true];by_cases h:i<0
   ·simp only[h,if_true]<;>lia
   ·simp only[h,if_false]<;>lia
theorem yR(its:List Value)(lo hi:Option Int):slicePick its.toArray lo hi none=((its.drop (HT.sIx its.length 0 lo)).take (HT.sIx its.length its.length hi - HT.sIx its.length 0 lo)).toArray:=by
 obtain⟨h1,h2,h3⟩:=aAA lo hi its.toArray.size;unfold slicePick;rw[h1,h2,h3];simp only[sliceRange_one,pick_run,bF]<;>rfl
def rSlL(K:aO):V->Option Int->Option Int->Hp->VK->Prop:=fun x lo hi H Q=>∃a xs,x=.ref a/\SqL K H a xs/\∀p,H p=none->Q (.ref p) (upd H p (.lst (aFk xs lo hi)))
theorem aKa:SlR X (rSlL X.K):=by
 intro aa s σ H x v vl vu lo hi sl Q I rx hs pl pu h;obtain⟨a,xs,rfl,hx,q⟩:=h;cases rx;obtain⟨its,r,ht,hz⟩:=I.list hx;have aj:=r.length
 refine⟨"list",_,slot_list_getitem.lookup,ht.isList.typeIs,?_⟩
 refine wpAny_getItem_list_slice ht.isList hs pl pu .none (by simp) ?_ (by rw[bF]<;>lia)
 rw[yR,<-aj]
 refine⟨.ref s.heap.objs.size,_,I.laid (t':=s.toks) (o:=.lst (aFk xs lo hi)) (fun b ob q=>Heap.get?_push_of_some _ q) (bG _) ?_,rfl,q _ (I.hok.fresh (bG _))⟩
 exact⟨cA (aBS xs lo hi) hz,_,0,(r.drop (HT.sIx xs.length 0 lo)).take (HT.sIx xs.length xs.length hi - HT.sIx xs.length 0 lo),Heap.get?_push_size _ rfl⟩
noncomputable def flatV:V->Bool
 | .non=>true
 | .bl _=>true
 | .int _=>true
 | .str _=>true
 |_=>false
noncomputable def eqV:V->V->Bool
 | .non,.non=>true
 | .bl a,.bl b=>a==b
 | .bl a,.int b=>(if a then 1 else 0)==b
 | .int a,.bl b=>a==(if b then 1 else 0)
 | .int a,.int b=>a==b
 | .str a,.str b=>a==b
 |_,_=>false
theorem aLW{A:Around}{y:V}{u:Value}(ry:RelV y u)(rx:RelV x v)(fy:flatV y=true)(fx:flatV x=true):SeqAt.EqAt A s u v (eqV y x):=by
 cases y with
 |non=>
  cases ry;cases x with
  |non=>cases rx;exact SeqAt.EqAt.same _
  |bl b=>cases rx;exact SeqAt.EqAt.none_bool b
  |int b=>obtain⟨t,rfl⟩:=rx;exact SeqAt.EqAt.none_int b t
  |str b=>obtain⟨t,rfl⟩:=rx;exact SeqAt.EqAt.none_str b t
  |_=>exact absurd (show false=true from fx) b5
 |bl a=>
  cases ry;cases x with
  |non=>cases rx;exact SeqAt.EqAt.bool_none a
  |bl b=>cases rx;exact SeqAt.EqAt.bool_bool a b
  |int b=>obtain⟨t,rfl⟩:=rx;exact SeqAt.EqAt.bool_int a b t
  |str b=>obtain⟨t,rfl⟩:=rx;exact SeqAt.EqAt.bool_str a b t
  |_=>exact absurd (show false=true from fx) b5
 |int a=>
  obtain⟨t',rfl⟩:=ry;cases x with
  |non=>cases rx;exact SeqAt.EqAt.int_none a t'
  |bl b=>cases rx;exact SeqAt.EqAt.int_bool a t' b
  |int b=>obtain⟨t,rfl⟩:=rx;exact SeqAt.EqAt.int_int a t' b t
  |str b=>obtain⟨t,rfl⟩:=rx;exact SeqAt.EqAt.int_str a t' b t
  |_=>exact absurd (show false=true from fx) b5
 |str a=>
  obtain⟨t',rfl⟩:=ry;cases x with
  |non=>cases rx;exact SeqAt.EqAt.str_none a t'
  |bl b=>cases rx;exact SeqAt.EqAt.str_bool a t' b
  |int b=>obtain⟨t,rfl⟩:=rx;exact SeqAt.EqAt.str_int a t' b t
  |str b=>obtain⟨t,rfl⟩:=rx;exact SeqAt.EqAt.str_str a t' b t
  |_=>exact absurd (show false=true from fx) b5
 |_=>exact absurd (show false=true from fy) b5
theorem aAZ:m6 X (.builtin "len") (fun xs H Q=>∃p ys,xs=[.ref p]/\(SqL X.K H p ys\/SqT X.K H p ys)/\Q (.int ys.length) H):=by
 intro aa s σ H xs us Q I r h;obtain⟨p,ys,rfl,hq,q⟩:=h;obtain⟨u,rfl,rx⟩:=vals1 r;cases rx;have hn:=line63;rcases hq with hq|hq
 ·obtain⟨its,r',pl,hz⟩:=I.list hq;have aj:=r'.length
  exact Calls.call_len_list pl.isList (by simp only[bF]<;>lia) ⟨.int ys.length,H,I.tok _,⟨s.toks+1,by rw[bF,aj]⟩,q⟩
 ·obtain⟨its,r',pl,hz⟩:=I.tuple hq;have aj:=r'.length
  exact len_tuple pl (by simp only[bF]<;>lia) ⟨.int ys.length,H,I.tok _,⟨s.toks+1,by rw[bF,aj]⟩,q⟩
theorem aAq:m6 X (.type "list") (fun xs H Q=>∃p ys,xs=[.ref p]/\(SqL X.K H p ys\/SqT X.K H p ys)/\∀l,H l=none->Q (.ref l) (upd H l (.lst ys))):=by
 intro aa s σ H xs us Q I r h;obtain⟨p,ys,rfl,hq,q⟩:=h;obtain⟨u,rfl,rx⟩:=vals1 r;cases rx;have fin:∀(its:List Value),Vals ys its->ys.length<=sizeLine->∀(h':Heap)(c':Nat),(∀b o',s.heap.get? b=some o'->h'.get? b=some o')->
  h'.get? s.heap.objs.size=some {cls:=.type "list",dict:=none,data:=.seq its.toArray c',slots:=#[]}->EP X aa σ Q (.ref s.heap.objs.size) {s with heap:=h'}:=fun its r' hz h' c' kp e=>
  ⟨.ref s.heap.objs.size,_,I.laid (t':=s.toks) kp (bG _) (show jK X.prog X.w _ h' _ (.lst ys)from⟨hz,its,c',r',e⟩),rfl,q _ (I.hok.fresh (bG _))⟩
 rcases hq with hq|hq
 ·obtain⟨its,r',pl,hz⟩:=I.list hq;have aj:=r'.length;obtain⟨o,ho,hc,n,hd⟩:=pl.isList
  exact call_list_seq p (.inl rfl) ho hc hd (fun h' c' kp e=>fin its r' hz h' c' kp e) (by simp only[bF]<;>lia)
 ·obtain⟨its,r',pl,hz⟩:=I.tuple hq;have aj:=r'.length;obtain⟨o,ho,hc,n,hd⟩:=pl
  exact call_list_seq p (.inr rfl) ho hc hd (fun h' c' kp e=>fin its r' hz h' c' kp e) (by simp only[bF]<;>lia)
def tyV(K:aO)(T:String)(x:V)(H:Hp):Prop:=match x with
 | .str _=>T="str"
 | .int _=>T="int"
 | .ref p=>(T="list"/\∃xs,SqL K H p xs)\/(T="tuple"/\∃o,K.lookup p=some o/\o.cls=.type "tuple"/\o.dict=none)\/
  (T="dict"/\((∃kvs,H p=some (.dK kvs))\/∃kvs,H p=some (.dT kvs)))\/(T="set"/\∃S n,H p=some (.set S n))
 |_=>False
theorem aL1{T:String}(I:Inv X aa σ H s)(r:RelV x v)(ty:tyV X.K T x H):
 s.TypeIs v T/\∀a,v=.ref a->∃ob,s.heap.get? a=some ob/\ob.dict=none:=by
 cases x with
 |str z=>
  obtain⟨t,rfl⟩:=r;cases (show T="str" from ty)
  exact⟨typeIs_str s z t,fun _ e=>nomatch e⟩
 |int i=>
  obtain⟨t,rfl⟩:=r;cases (show T="int" from ty)
  exact⟨typeIs_int s i t,fun _ e=>nomatch e⟩
 |ref p=>
  cases r;rcases ty with⟨rfl,xs,hq⟩| ⟨rfl,o,hk,hc,hd⟩| ⟨rfl,hk⟩| ⟨rfl,S,n,hk⟩
  ·obtain⟨its,_,pl,_⟩:=I.list hq
   refine⟨pl.isList.typeIs,fun a e=>?_⟩
   cases e;obtain⟨o,n,e,c,hd,_⟩:=pl
   exact⟨o,e,hd⟩
  ·refine⟨⟨o,I.kIn p o hk,hc⟩,fun a e=>?_⟩
   cases e
   exact⟨o,I.kIn _ o hk,hd⟩
  ·have z:∃o,s.heap.get? p=some o/\o.ExactDict:=by
    rcases hk with⟨kvs,hk⟩| ⟨kvs,hk⟩
    ·obtain⟨_,_,_,_,o,_,_,e,ex,_⟩:=I.hok p _ hk
     exact⟨o,e,ex⟩
    ·obtain⟨_,_,_,_,o,_,_,e,ex,_⟩:=I.hok p _ hk
     exact⟨o,e,ex⟩
   obtain⟨o,e,ex⟩:=z
   refine⟨⟨o,e,ex.1⟩,fun a e2=>?_⟩
   cases e2
   exact⟨o,e,ex.2.1⟩
  ·obtain⟨o,_,_,_,e,ex,_⟩:=I.hok p _ hk
   refine⟨⟨o,e,ex.1⟩,fun a e2=>?_⟩
   cases e2
   exact⟨o,e,ex.2.1⟩
 |_=>exact False.elim ty
noncomputable def tBM(K:aO)(T:String)(r:V->List V->Hp->VK->Prop)(to:TE)(t:TA):TE:=fun σ H Q=>to σ H fun x H1=>tyV K T x H1/\t σ H1 fun xs H2=>r x xs H2 Q
variable {o e:Expr}{es:List Expr}{to:TE}{t:TA}{name:Str}{ao al:Pos}{T id:String}{r:V->List V->Hp->VK->Prop}
theorem aLd(pa:PlainAttrs T)(slot:Slot T name id)(hty:typeOf (.builtin id)=pure (.type "method_descriptor"))(hm:MtR X id r)(ho:PE X o to)(ha:PA X (e::es) t)
 (dv:attributeBase o name X.env (eval o X.env)=eval o X.env:=by rfl)
 (ja:((backTo al (starEach (e::es) X.env)).all (fun x=> !x.1)&&(backToKw al (keywordEach [] X.env)).all (fun x=>x.1.isSome)
  &&decide ((e::es).length+([]:List Keyword).length+(if([]:List Keyword).isEmpty then 0 else 1)<30))=true:=by rfl)
 (dm:(ao.endLine==al.line)=true:=by rfl)(hs:starEach (e::es) X.env=(false,eval e X.env)::starEach es X.env:=by rfl)(ce:(backTo al (starEach es X.env)).any (·.1)=false:=by rfl):
 PE X (.Call (.Attribute o name ao) (e::es) [] al) (tBM X.K T r to t):=by
 intro aa s σ H Q I h
 refine wpAny_Call_method_late dv ja dm rfl (thn (ho aa s σ H _ I h) fun v s1 zz=>?_)
 obtain⟨x,H1,I1,r1,ty,q1⟩:=zz;obtain⟨h1,h2⟩:=aL1 I1 r1 ty
 refine⟨T,id,pa,slot,hty,h1,h2,?_⟩
 have hA:=ha al aa s1 σ H1 _ I1 q1;rw[hs]at hA|-
 refine Calls.callWith_builtin (by show(false||(backTo al (starEach es X.env)).any (·.1))=false;rw[ce]<;>rfl) (Calls.evalArgs_plain ?_)
 exact thn hA fun us s2 ⟨vs,H2,I2,r2,q2⟩=>hm aa s2 σ H2 x vs v us Q I2 r1 r2 q2
end
def MtM(X:Cx)(id:String)(r:V->List V->Hp->VK->Prop):Prop:=
 ∀(aa:List (Addr×Obj))(s:Shared)(σ:St)(H:Hp)(x:V)(xs:List V)(v:Value)(us:List Value)(Q:VK),Inv X aa σ H s->RelV x v->Vals xs us->r x xs H Q->
  wpAny (model X.prog X.w) X.A (call (.builtin id) (v::us)) (EP X aa σ Q) X.xe s
theorem Vals.one:∀{x:V}{us:List Value},Vals [x] us->∃u,us=[u]/\RelV x u
 |_,_,.cons r .nil=>⟨_,rfl,r⟩
theorem Vals.two{x y:V}{us:List Value}(h:Vals [x,y] us):∃u v,us=[u,v]/\RelV x u/\RelV y v:=by
 cases h with
 |cons r h=>
  cases h with
  |cons q h=>
   cases h
   exact⟨_,_,rfl,r,q⟩
section
variable {X:Cx}{aa:List (Addr×Obj)}{σ:St}{H:Hp}{s:Shared}{l b:Addr}{xs ys zs:List V}
variable{its:List Value}{t':Nat}
theorem Inv.lset{its':List Value}{n:Nat}{f:Array Value->Array Value}(I:Inv X aa σ H s)(hH:H l=some (.lst xs))
 (e:s.heap.get? l=some {cls:=.type "list",data:=.seq its.toArray n})(hf:f its.toArray=its'.toArray)(hv:Vals ys its')(hz:ys.length<=sizeLine):
 Inv X aa σ (upd H l (.lst ys)) {s with heap:=s.heap.update l (Obj.mapSeq f),toks:=t'}:=by
 have q:=PySem.IsL.update e f;rw[hf]at q
 refine I.write (x:=l) (e:=l) (by rw[hH];exact trivial) (.inl rfl) (fun b' u hb hu=>(Heap.get?_update_other s.heap (Obj.mapSeq f) (Ne.symm hb)).trans hu) ⟨_,q⟩ ?_
 exact⟨hz,its',_,hv,q⟩
theorem Inv.lnew(I:Inv X aa σ H s)(hv:Vals ys its)(hz:ys.length<=sizeLine):
 Inv X aa σ (upd H s.heap.objs.size (.lst ys)) {s with heap:=s.heap.push {cls:=.type "list",data:=.seq its.toArray},toks:=t'}:=
 I.laid (fun _ _ q=>Heap.get?_push_of_some _ q) (bG _) ⟨hz,its,0,hv,Heap.get?_push_size _ rfl⟩
theorem Inv.fresh(I:Inv X aa σ H s):H s.heap.objs.size=none:=I.hok.fresh (bG _)
theorem Inv.lstM(I:Inv X aa σ H s)(hH:H l=some (.lst xs)):xs.length<=sizeLine/\∃(its:List Value)(n:Nat),Vals xs its/\xs.length=its.length/\s.heap.get? l=some {cls:=.type "list",data:=.seq its.toArray n}:=by
 obtain⟨z,its,n,r,e⟩:=I.hok l _ hH
 exact⟨z,its,n,r,r.length,e⟩
end
section
variable {X:Cx}
def rAppend:V->List V->Hp->VK->Prop:=fun x vs H Q=>∃l xs y,x=.ref l/\vs=[y]/\H l=some (.lst xs)/\xs.length<sizeLine/\Q .non (upd H l (.lst (xs++[y])))
theorem y4:MtM X "list.append" rAppend:=by
 intro aa s σ H x vs v us Q I rx rv h;obtain⟨l,xs,y,rfl,rfl,hH,hz,q⟩:=h;cases rx;obtain⟨u,rfl,ru⟩:=rv.one;obtain⟨z,its,n,r,hl,e⟩:=I.lstM hH
 refine call_meets F.slot_list_append ⟨_,e,rfl⟩ F.entry_list_append (F.args_list_append_2 _ _) (PySem.list_append l its.toArray n u (by rw[bF];lia)) ⟨e,?_⟩
 refine⟨.non,_,I.lset (its':=its++[u]) hH e (by simp) (r.append (.cons ru .nil)) ?_,rfl,q⟩
 rw[bA,aPv]
 lia
end
section
variable {prog:Program}{w:World}{A:Around}{E:Value->Shared->Prop}{s:Shared}
end
section
variable {X:Cx}
end
end L2
namespace Att
open PySem PySem.W PySem.Calls PyProof.Rows
variable{P:Params}{h:Heap}
theorem uS:∀(ns:List Int)(vs:List Value),WellAll P h vs (ns.map WData.int)->IntsAre vs ns:=by
 intro ns;induction ns with
 |nil=>
  intro vs w;rw[bB]at w;cases w
  exact .nil
 |cons n ns ih=>
  intro vs w;rw[aM]at w;cases w with
  |cons a b=>
   cases a
   exact .cons _ _ (ih _ b)
theorem aFe{l:OpenLaw}{n:Nat}(hn:l.most=some n){args:List WData}{vals:List Value}
 (ir:l.row.toRowW.claim.pre args=true)(ip:WellAll P h vals args):
 ∃a vs ns,vals=[Value.ref a]/\args=[WData.list (ns.map WData.int)]/\h.get? a=some {cls:=.type "list",data:=.seq vs.toArray}/\IntsAre vs ns/\ns.length<=n:=by
 have hsh:WShape.hasAll [] args [.list .int]=true:=(pre_splitW ir).1;have hc:l.pre.holds [] {args:=args}=true:=(pre_splitW ir).2;obtain⟨d,r,rfl,h1,h2⟩:=hasAllW_cons hsh;obtain rfl:=hasAllW_nil h2;obtain⟨xs,rfl,h3⟩:=hasW_list h1;obtain⟨ns,rfl⟩:=items_int h3;have aj:ns.length<=n:=by
  unfold OpenLaw.pre at hc;have h4:(WTm.not (.lt (.lit (.int (n:Int))) (.len (.arg 0)))).holds [] {args:=[.list (ns.map .int)]}=true:=by
   have h4:=(holds_andW hc).1;rw[hn]at h4
   exact h4
  have h5:=condW_of h4 (w_not (w_lt w_lit (w_len_list (w_arg rfl))));rw[aP]at h5
  refine aOX fun q=>?_
  have q':(n:Int)<((ns.length:Nat):Int):=by lia
  first
   | (rw[decide_eq_true q']at h5;exact absurd h5 (by decide))
   | (simp at h5;lia)
 cases ip with
 |cons w1 w2=>
  cases w2;cases w1 with
  |list ho jd=>exact⟨_,_,ns,rfl,rfl,ho,uS ns _ jd,aj⟩
theorem aET(l:OpenLaw)(args:List WData):l.row.toRowW.claim.post args (.bool true) args=true:=
 postW_of (r:=l.row.toRowW) (X:=(true==true))
  (show WShape.has [] (.bool true) .bool=true by first|rfl|decide|simp[WShape.has,WShape.arms,WShape.armsAll])
  (show(WTm.eq .res (.lit (.bool true))).value [] {args:=args,res:=some (.bool true),after:=args}=some (.bool (true==true))from w_eq_bool (w_res rfl) w_lit) rfl
section
variable {prog:Program}{w:World}{A:Around}{E:Value->Shared->Prop}{s:Shared}{K:Frag}
end
end Att
namespace L2
open PySem PySem.Spec PyProof.Rows
theorem aAb:∀{vs:List Value}{ns:List Int},IntsAre vs ns->Vals (ns.map V.int) vs
 |_,_,.nil=>.nil
 |_,_,.cons n t h=>.cons ⟨t,rfl⟩ (aAb h)
def Only(H:Hp):Prop:=∀b,H b=none\/∃o xs,H b=some (.frz o (.lst xs))
theorem aHj{P:Program}{w:World}{K:aO}{mg mb:Str->Option Value}{CX:CXT}{k:Nat}{fa a:Addr}{fd:FuncData}{x:Str}{sp:Sp}{ak:Shared}{vs:List Value}{ns:List Int}
 (KX:K.In ak.heap)(gf:ak.heap.Ns mainGlobals mg)(hb:ak.heap.Ns builtinsNs mb)(hbb:∀x:Str,x≠"__name__"->mb x=bootBuiltins x)(gi:ak.heap.NoLimit)(hg:ak.gens=#[])
 (ha:ak.heap.get? a=some {cls:=.type "list",data:=.seq vs.toArray})(hi:IntsAre vs ns)(hl:ns.length<=sizeLine)(hr:Room k callerA)
 (F:∀base:Heap,K.In base->base.Ns mainGlobals mg->mW P w K mg base CX k fa fd [x] sp)(uh:∀(s:Shared)(u:Value),BindsTo s fd ⟨[u],[]⟩ [(x,u)])
 (il:∀H:Hp,Only H->SqL K H a (ns.map V.int)->sp [.ref a] H (fun v _=>v=.bl true) fun _ _ _=>False)
 (hCX:∀H e s',CX [] H ak (fun _ _ _=>False) e s'->False):
 codeAny (model P w) callerA (.call (.ref fa) ⟨[.ref a],[]⟩) (fun r s'=>r=.ok (.ret (.bool true))/\OldK ak.heap s'.heap/\s'.os=ak.os/\AllBare s'.gens) ak:=by
 have rv:=aAb hi;have xn:=hi.length;have core:∀H:Hp,Only H->SqL K H a (ns.map V.int)->HOk P w H ak.heap->(∀b,H b≠none->b=a)->(H a≠none->K.lookup a=none)->
  codeAny (model P w) callerA (.call (.ref fa) ⟨[.ref a],[]⟩) (fun r s'=>r=.ok (.ret (.bool true))/\OldK ak.heap s'.heap/\s'.os=ak.os/\AllBare s'.gens) ak:=by
  intro H hO hS hok hA hK;have base_of:∀{b:Addr}{o:Obj},ak.heap.get? b=some o->H b=none->(aAN ak.heap H).get? b=some o:=fun e n=>aFU e n
  have rg:∀{b:Addr}{o:Obj}{es:Array DictEntry}{ep:Nat},ak.heap.get? b=some o->o.data=.dict es ep->H b=none:=fun {b o es ep} e d=>by
   cases q:H b with
   |none=>rfl
   |some u=>
    have e':b=a:=hA b (by rw[q];simp);subst e';rw[ha]at e;cases e;have d':Data.seq vs.toArray _=Data.dict es ep:=d;cases d'
  have vc:∀{b:Addr}{m:Str->Option Value},ak.heap.Ns b m->(aAN ak.heap H).Ns b m:=fun {b m} ⟨o,es,ep,e,d,r⟩=>⟨o,es,ep,base_of e (rg e d),d,r⟩
  have hKb:K.In (aAN ak.heap H):=fun b o e=>base_of (KX b o e) (by
   cases q:H b with
   |none=>rfl
   |some u=>
    have e':b=a:=hA b (by rw[q];simp);subst e';rw[hK (by rw[q];simp)]at e;cases e)
  have hM:Mod K mg (aAN ak.heap H):=⟨hKb,vc gf,⟨mb,vc hb,hbb⟩,let ⟨mc,h1,h2⟩:=gi;⟨mc,vc h1,h2⟩⟩;have e0:Env0 P w K mg (aAN ak.heap H) callerA [] ak H:=⟨rfl,hM,fun b o e=>aJ9 e,aQg (aFO _ _),trivial,fun b hb=>absurd (show b∈([]:List Addr)from hb) (by simp),hok,.of_eq hg⟩
  refine codeAny_mono ((F _ hKb (vc gf)).run callerA [] ak H ⟨[.ref a],[]⟩ [.ref a] [.ref a] _ _ hr e0 (uh ak (.ref a)) (.cons rfl .nil) (il H hO hS)) fun r s' h=>?_
  cases r with
  |error e=>exact(hCX H e s' h).elim
  |ok fl=>
   cases fl with
   |next=>exact False.elim h
   |brk=>exact False.elim h
   |cont=>exact False.elim h
   |ret u=>
    obtain⟨v,H',os,bare,un,yh,r',q⟩:=h;have q':v=.bl true:=q;subst q';obtain rfl:u=Value.bool true:=r'
    refine⟨rfl,OldK.of_keep fun b o e=>?_,os,bare⟩
    cases q:H b with
    |none=>exact un.keep b o e q (by intro z;exact absurd (show b∈([]:List Addr)from z) (by simp)) (by simp)
    |some u=>
     rcases hO b with z| ⟨ob,xs,z⟩
     ·rw[q]at z;cases z
     ·have z2:=un.frzs b ob _ z;obtain⟨e1,_⟩:=hok b _ z;obtain⟨e2,_⟩:=yh b _ z2;rw[e]at e1;cases e1
      exact e2
 cases hk:K.lookup a with
 |some o=>
  have e:=KX a o hk;rw[ha]at e;cases e
  refine core (fun _=>none) (fun _=>.inl rfl) (.inr ⟨_,vs.toArray,_,hk,rfl,rfl,rfl,by rw[bF,xn];exact hl,by simpa using rv⟩) (fun b u z=>by have z':(none:Option HO)=some u:=z;cases z') (fun b z=>absurd rfl z) fun z=>absurd rfl z
 |none=>
  refine core (fun b=>if b=a then some (.frz {cls:=.type "list",data:=.seq vs.toArray} (.lst (ns.map V.int)))else none) (fun b=>?_) (.inl (.inr ⟨{cls:=.type "list",data:=.seq vs.toArray},if_pos rfl⟩)) (fun b u z=>?_) (fun b z=>?_) fun _=>hk
  ·by_cases hb:b=a
   ·exact .inr ⟨_,_,if_pos hb⟩
   ·exact .inl (if_neg hb)
  ·by_cases hb:b=a
   ·have z':=(if_pos hb).symm.trans z;cases z';subst hb
    exact⟨ha,by rw[aP];exact hl,vs,_,rv,ha⟩
   ·have z':=(if_neg hb).symm.trans z;cases z'
  ·by_cases hb:b=a
   ·exact hb
   ·exact absurd (if_neg hb) z
noncomputable abbrev KOf{K:aO}{h:Heap}(_:K.In h):aO:=K
end L2
namespace L2
open PySem PySem.Spec PyProof.Rows
noncomputable abbrev CX0:CXT:=fun _ _ _ _ _ _=>False
structure Fun(K:aO)(x qual:Str)(st:Stmt)(f:Addr)(fd:FuncData):Prop where
 ex:∃(oc:Value)(od:Option Addr)(kV doc pm:Value)(an:Option Addr)(bc ct:Value)(fu:Array (Option Value)),
  fd=cP x qual (jM st) (iZ st) (f9 st) .none kV doc pm an bc ct/\K.lookup f=some ⟨oc,od,.func fd,fu⟩/\dU K bc qual=true
 kp:cR K (.ref f)=true
section
variable {P:Program}{w:World}{K:aO}{mg:Str->Option Value}{base:Heap}
variable{x qual:Str}{st:Stmt}{f:Addr}{fd:FuncData}{ps:List Str}
theorem Fun.ok{N:List Str}{k:Nat}{sp:Sp}(F:Fun K x qual st f fd)(S:p6 N ps (f9 st))(len:∀vs H Q E,sp vs H Q E->vs.length=ps.length)
 (du:∀(bc:Value)(A:Around)(outer:List Env)(s:Shared)(H:Hp)(vs:List V)(Q:VK)(E:XK),Room k (A.deeper (envOfC qual (f9 st) s.heap.objs.size f bc))->sp vs H Q E->
  ∃t,PSs (aA6 CX0 P w K mg base N qual (f9 st) f bc A outer s H E).nox (iZ st) t/\t {nx:=fun _ H'=>Q .non H',rt:=Q} (start N vs) H):mW P w K mg base CX0 (k+1) f fd ps sp:=by
 obtain⟨oc,od,kV,doc,pm,an,bc,ct,fu,rfl,lk,jc⟩:=F.ex
 refine aKW lk jc S len fun A outer s H vs Q E hr il=>?_
 obtain⟨t,h,q⟩:=du bc A outer s H vs Q E hr il
 exact⟨t,h.nox,q⟩
theorem Fun.binds(F:Fun K x qual st f fd)
 (h:∀(kV doc pm:Value)(an:Option Addr)(bc ct:Value)(us:List Value),us.length=ps.length->bindArgs (cP x qual (jM st) (iZ st) (f9 st) .none kV doc pm an bc ct) ⟨us,[]⟩=pure (ps.zip us)):Binds K fd ps []:=by
 obtain⟨oc,od,kV,doc,pm,an,bc,ct,fu,rfl,lk,jc⟩:=F.ex
 exact .all (h kV doc pm an bc ct)
theorem aDm{oc:Value}{od an:Option Addr}{fu:Array (Option Value)}{kV doc pm bc ct:Value}(l:K.lookup f=some ⟨oc,od,.func (cP x qual (jM st) (iZ st) (f9 st) .none kV doc pm an bc ct),fu⟩)
 (c:dU K bc qual=true)(k:cR K (.ref f)=true):Fun K x qual st f (cP x qual (jM st) (iZ st) (f9 st) .none kV doc pm an bc ct):=⟨⟨oc,od,kV,doc,pm,an,bc,ct,fu,rfl,l,c⟩,k⟩
end
section
variable {X:Cx}
end
variable{H H':Hp}
def Same(H H':Hp):Prop:=∀b o,H b=some o->H' b=some o
theorem Same.refl(H:Hp):Same H H:=fun _ _ h=>h
theorem Same.trans{H1 H2:Hp}(a:Same H H1)(b:Same H1 H2):Same H H2:=fun c o h=>b c o (a c o h)
theorem Same.free(e:Same H H'){l:Addr}(h:H' l=aQu):H l=aQu:=by
 cases q:H l with
 |none=>rfl
 |some o=>
  rw[e l o q]at h;cases h
theorem Same.seq{K:aO}{a:Addr}{xs:List V}(e:Same H H')(h:SqL K H a xs):SqL K H' a xs:=by
 rcases h with(h| ⟨o,h⟩)|h
 ·exact .inl (.inl (e _ _ h))
 ·exact .inl (.inr ⟨o,e _ _ h⟩)
 ·exact .inr h
end L2
namespace PySem
section
variable {M:Model}{A:Around}{E:Value->Shared->Prop}
variable {nm q:Str}{C N:Addr}{bs bm:List Value}{hdct:Bool}{sn:List Str}{sub:List Value}{ab:Bool}{col:Option Bool}{dd:Option Addr}{k0 k1 k2 k3 k5:Option Value}{newId:String}
variable {nm' q':Str}{D N':Addr}{lx bm':List Value}{hdct':Bool}{sn':List Str}{sub':List Value}{ab':Bool}{col':Option Bool}{jq:Option Addr}{k0' k1' k2' k3' k5':Option Value}{xj:String}
end
end PySem
namespace TL
open PySem L2
variable{H:Hp}{Z:Addr->Prop}{ρ:Rho}{a:Addr}{o:HO}
inductive T where
 |non|bl (b:Bool)|int (i:Int)|str (x:Str)|lst (xs:List T)|tup (xs:List T)|cell (c:Nat)|exc (c:String)
noncomputable abbrev TSt:=List (Option T)
inductive Kd where
 |l|o (cls:String) (ns:List Str)|dk (ks:List Key)|dt (ks:List (List Key))|dz (ks:List (List Key))
noncomputable abbrev Cl:=Kd×List T
abbrev Sto:=List Cl
noncomputable abbrev Rho:=List Addr
open Classical in
noncomputable def mask(H:Hp)(Z:Addr->Prop)(ρ:Rho):Hp:=fun a=>if Z a\/a∈ρ then none else H a
theorem lI:mask H Z ρ a=some o↔¬Z a/\a∉ρ/\H a=some o:=by
 unfold mask;constructor
 ·intro h;split at h
  ·cases h
  ·rename_i q
   exact⟨fun z=>q (.inl z),fun z=>q (.inr z),h⟩
 ·rintro⟨h1,h2,h3⟩;rw[if_neg (by
   rintro(z|z)
   ·exact h1 z
   ·exact h2 z)]
  exact h3
theorem mG(h1:¬Z a)(h2:a∉ρ)(h3:H a=some o):mask H Z ρ a=some o:=lI.mpr ⟨h1,h2,h3⟩
theorem nH:Same (mask H Z ρ) H:=fun a o h=>(lI.mp h).2.2
noncomputable def exO(a C:Addr):HO:=.ext fun h=>∃ob,h.get? a=some ob/\ob.cls=.ref C
mutual
def RT(K:aO)(M:Hp)(ρ:Rho):T->V->Prop
 | .non,v=>v=.non
 | .bl b,v=>v=.bl b
 | .int i,v=>v=.int i
 | .str x,v=>v=.str x
 | .lst ts,v=>∃a vs,v=.ref a/\SqL K M a vs/\RTs K M ρ ts vs
 | .tup ts,v=>∃a vs,v=.ref a/\M a=some (.tup vs)/\RTs K M ρ ts vs
 | .cell c,v=>∃a,v=.ref a/\ρ[c]?=some a
 | .exc c,v=>∃a C,v=.ref a/\bZ K mainGlobals (Str.ofString c)=some (some (.ref C))/\M a=some (exO a C)
def RTs(K:aO)(M:Hp)(ρ:Rho):List T->List V->Prop
 | [],vs=>vs=[]
 |t::ts,vs=>∃v r,vs=v::r/\RT K M ρ t v/\RTs K M ρ ts r
end
theorem Same.tseq{K:aO}{H H':Hp}{a:Addr}{xs:List V}(e:Same H H')(h:SqT K H a xs):SqT K H' a xs:=by
 rcases h with(h| ⟨o,h⟩)|h
 ·exact .inl (.inl (e _ _ h))
 ·exact .inl (.inr ⟨o,e _ _ h⟩)
 ·exact .inr h
theorem aJf{ρ e:Rho}{c:Nat}{a:Addr}(h:ρ[c]?=some a):(ρ++e)[c]?=some a:=by
 rw[aY (aR.mp h).1];exact h
section
variable {K:aO}{M M':Hp}{ρ ae:Rho}
mutual
theorem RT.mono(s:Same M M')(p:∀(c:Nat)(a:Addr),ρ[c]?=some a->ae[c]?=some a):∀{t:T}{v:V},RT K M ρ t v->RT K M' ae t v
 | .non,_,h=>by unfold RT at*;exact h
 | .bl _,_,h=>by unfold RT at*;exact h
 | .int _,_,h=>by unfold RT at*;exact h
 | .str _,_,h=>by unfold RT at*;exact h
 | .lst ts,v,h=>by
   unfold RT at*;obtain⟨a,vs,e,q,r⟩:=h
   exact⟨a,vs,e,s.seq q,RTs.mono s p r⟩
 | .tup ts,v,h=>by
   unfold RT at*;obtain⟨a,vs,e,q,r⟩:=h
   exact⟨a,vs,e,s _ _ q,RTs.mono s p r⟩
 | .cell c,v,h=>by
   unfold RT at*;obtain⟨a,e,q⟩:=h
   exact⟨a,e,p c a q⟩
 | .exc c,v,h=>by
   unfold RT at*;obtain⟨a,C,e,q,r⟩:=h
   exact⟨a,C,e,q,s _ _ r⟩
theorem RTs.mono(s:Same M M')(p:∀(c:Nat)(a:Addr),ρ[c]?=some a->ae[c]?=some a):∀{ts:List T}{vs:List V},RTs K M ρ ts vs->RTs K M' ae ts vs
 | [],_,h=>by unfold RTs at*;exact h
 |t::ts,vs,h=>by
  unfold RTs at*;obtain⟨v,r,e,h1,h2⟩:=h
  exact⟨v,r,e,RT.mono s p h1,RTs.mono s p h2⟩
end
variable{t:T}{ts:List T}{v:V}{vs:List V}
theorem RTs.nil:RTs K M ρ [] []:=by unfold RTs;rfl
theorem RTs.cons(h:RT K M ρ t v)(hs:RTs K M ρ ts vs):RTs K M ρ (t::ts) (v::vs):=by
 unfold RTs;exact⟨v,vs,rfl,h,hs⟩
theorem RTs.nil_inv(h:RTs K M ρ [] vs):vs=[]:=by unfold RTs at h;exact h
theorem RTs.cons_inv(h:RTs K M ρ (t::ts) vs):∃v r,vs=v::r/\RT K M ρ t v/\RTs K M ρ ts r:=by unfold RTs at h;exact h
theorem RTs.length:∀{ts:List T}{vs:List V},RTs K M ρ ts vs->vs.length=ts.length
 | [],_,h=>by rw[h.nil_inv];rfl
 |t::ts,vs,h=>by
  obtain⟨v,r,rfl,_,h2⟩:=h.cons_inv;simp[h2.length]
theorem RTs.get:∀{ts:List T}{vs:List V}{i:Nat}{t:T},RTs K M ρ ts vs->ts[i]?=some t->∃v,vs[i]?=some v/\RT K M ρ t v
 | [],_,_,_,_,e=>by simp at e
 |x::ts,vs,0,t,h,e=>by
  obtain⟨v,r,rfl,h1,h2⟩:=h.cons_inv;simp at e;subst e
  exact⟨v,rfl,h1⟩
 |x::ts,vs,i+1,t,h,e=>by
  obtain⟨v,r,rfl,h1,h2⟩:=h.cons_inv;obtain⟨u,q1,q2⟩:=RTs.get (i:=i) h2 (by simpa using e)
  exact⟨u,by simpa using q1,q2⟩
theorem RTs.append:∀{ts us:List T}{vs ws:List V},RTs K M ρ ts vs->RTs K M ρ us ws->RTs K M ρ (ts++us) (vs++ws)
 | [],_,_,_,h,h'=>by rw[h.nil_inv];exact h'
 |t::ts,_,_,_,h,h'=>by
  obtain⟨v,r,rfl,h1,h2⟩:=h.cons_inv
  exact .cons h1 (h2.append h')
theorem RTs.take:∀(n:Nat){ts:List T}{vs:List V},RTs K M ρ ts vs->RTs K M ρ (ts.take n) (vs.take n)
 |0,_,_,_=>by simpa using RTs.nil
 |n+1,[],_,h=>by rw[h.nil_inv];simpa using RTs.nil
 |n+1,t::ts,_,h=>by
  obtain⟨v,r,rfl,h1,h2⟩:=h.cons_inv
  exact .cons h1 (h2.take n)
theorem RTs.drop:∀(n:Nat){ts:List T}{vs:List V},RTs K M ρ ts vs->RTs K M ρ (ts.drop n) (vs.drop n)
 |0,_,_,h=>h
 |n+1,[],_,h=>by rw[h.nil_inv];simpa using RTs.nil
 |n+1,t::ts,_,h=>by
  obtain⟨v,r,rfl,h1,h2⟩:=h.cons_inv
  exact h2.drop n
theorem RTs.set(h0:RT K M ρ t v):∀(n:Nat){ts:List T}{vs:List V},RTs K M ρ ts vs->RTs K M ρ (ts.set n t) (vs.set n v)
 |_,[],_,h=>by rw[h.nil_inv];simpa using RTs.nil
 |0,x::ts,_,h=>by
  obtain⟨u,r,rfl,h1,h2⟩:=h.cons_inv
  exact .cons h0 h2
 |n+1,x::ts,_,h=>by
  obtain⟨u,r,rfl,h1,h2⟩:=h.cons_inv
  exact .cons h1 (h2.set h0 n)
end
variable{H H':Hp}{a:Addr}{K:aO}{ρ ae:Rho}{Z:Addr->Prop}
def Hob(K:aO):Kd->List V->HO->Prop
 | .l,vs,o=>o=.lst vs
 | .o cls ns,vs,o=>ns.length=vs.length/\∃C dx,bZ K mainGlobals (Str.ofString cls)=some (some (.ref C))/\o=.ins C dx (ns.zip vs)
 | .dk ks,vs,o=>ks.length=vs.length/\o=.dK (ks.zip vs)
 | .dt ks,vs,o=>ks.length=vs.length/\o=.dT (ks.zip vs)
 | .dz ks,vs,o=>ks.length=vs.length/\∃ob,o=.frz ob (.dT (ks.zip vs))
def NT:Option HO->Prop
 |some (.tup _)=>False
 |none=>False
 |_=>True
theorem NT.same(s:Same H H')(h:NT (H a)):NT (H' a):=by
 cases e:H a with
 |none=>rw[e]at h;exact False.elim h
 |some o=>rw[s a o e,<-e];exact h
theorem NT.some(h:NT (H a)):H a≠none:=fun z=>by rw[z]at h;exact h
theorem Hob.nt{k:Kd}{vs:List V}{o:HO}(h:Hob K k vs o):NT (some o):=by
 cases k with
 |l=>unfold Hob at h;subst h;trivial
 |o c ns=>unfold Hob at h;obtain⟨_,C,dx,_,rfl⟩:=h;trivial
 |dk ks=>unfold Hob at h;obtain⟨_,rfl⟩:=h;trivial
 |dt ks=>unfold Hob at h;obtain⟨_,rfl⟩:=h;trivial
 |dz ks=>unfold Hob at h;obtain⟨_,ob,rfl⟩:=h;trivial
def nfz:Option HO->Prop
 |some (.frz _ _)=>False
 |_=>True
structure Rel(K:aO)(H₀:Hp)(Z:Addr->Prop)(ρ:Rho)(τ:TSt)(C:Sto)(σ:St)(H:Hp):Prop where
 old:Same H₀ H
 frs:∀a∈ρ,H₀ a=none/\¬Z a
 nd:ρ.Nodup
 zd:∀a,Z a->NT (H a)
 loc:∀(i:Nat)(t:T),τ[i]?=some (some t)->∃v,σ[i]?=some (some v)/\RT K (mask H Z ρ) ρ t v
 cel:∀(c:Nat)(a:Addr),ρ[c]?=some a->∃x vs o,C[c]?=some x/\H a=some o/\Hob K x.1 vs o/\RTs K (mask H Z ρ) ρ x.2 vs
 len:ρ.length=C.length
 lnt:τ.length=σ.length
structure Step(H H':Hp)(ρ ae:Rho):Prop where
 kept:∀(a:Addr)(o:HO),H a=some o->a∉ρ->a∉ae/\H' a=some o
 pre:∃e,ae=ρ++e
 fz:∀(a:Addr) ob u,H a=some (.frz ob u)->H' a=some (.frz ob u)
theorem Step.refl:Step H H ρ ρ:=⟨fun a o h n=>⟨n,h⟩,⟨[],by simp⟩,fun _ _ _ h=>h⟩
theorem Step.trans{H1 H2:Hp}{af aw:Rho}(a:Step H H1 ρ af)(b:Step H1 H2 af aw):Step H H2 ρ aw:=by
 obtain⟨e,he⟩:=a.pre;obtain⟨f,hf⟩:=b.pre
 exact⟨fun x o h n=>(b.kept x o (a.kept x o h n).2 (a.kept x o h n).1),⟨e++f,by rw[hf,he,cZ]⟩,fun x ob u h=>b.fz x ob u (a.fz x ob u h)⟩
theorem Step.of{e:Rho}(s:Same H H')(h:∀a∈e,H a=none):Step H H' ρ (ρ++e):=
 ⟨fun a o q n=>⟨fun z=>(bK.mp z).elim n (fun z=>by rw[h a z]at q;cases q),s a o q⟩,⟨e,rfl⟩,fun a ob u h=>s a _ h⟩
theorem Step.of0(s:Same H H'):Step H H' ρ ρ:=⟨fun a o q n=>⟨n,s a o q⟩,⟨[],by simp⟩,fun a ob u h=>s a _ h⟩
theorem Step.idx(s:Step H H' ρ ae):∀(c:Nat)(a:Addr),ρ[c]?=some a->ae[c]?=some a:=fun c a h=>by
 obtain⟨e,he⟩:=s.pre;rw[he];exact aJf h
theorem Step.msk(s:Step H H' ρ ae)(Z:Addr->Prop):Same (mask H Z ρ) (mask H' Z ae):=fun a o h=>by
 obtain⟨h1,h2,h3⟩:=lI.mp h
 exact mG h1 (s.kept a o h3 h2).1 (s.kept a o h3 h2).2
theorem RT.step{t:T}{v:V}(h:RT K (mask H Z ρ) ρ t v)(s:Step H H' ρ ae):RT K (mask H' Z ae) ae t v:=h.mono (s.msk Z) s.idx
theorem RTs.step{t:List T}{v:List V}(h:RTs K (mask H Z ρ) ρ t v)(s:Step H H' ρ ae):RTs K (mask H' Z ae) ae t v:=h.mono (s.msk Z) s.idx
abbrev SStep(Z:Addr->Prop)(H H':Hp)(ρ ae:Rho):Prop:=Step H H' ρ ae
theorem Step.ss(s:Step H H' ρ ae):Step H H' ρ ae:=s
section
variable {K:aO}{H₀ H H':Hp}{Z:Addr->Prop}{ρ ae:Rho}{τ:TSt}{C:Sto}{σ:St}
variable{p:Addr}{kd:Kd}{ob:HO}{c:Nat}
theorem Rel.alloc(R:Rel K H₀ Z ρ τ C σ H){o:HO}(hp:H p=none):Rel K H₀ Z ρ τ C σ (upd H p o)/\Step H (upd H p o) ρ ρ:=by
 have sm:Same H (upd H p o):=fun b u h=>by rw[fK (fun z=>by rw[z,hp]at h;cases h)];exact h
 have st:Step H (upd H p o) ρ ρ:=.of0 sm
 refine⟨⟨R.old.trans sm,R.frs,R.nd,fun a z=>(R.zd a z).same sm,fun i t e=>?_,fun c a e=>?_,R.len,R.lnt⟩,st⟩
 ·obtain⟨v,h1,h2⟩:=R.loc i t e
  exact⟨v,h1,h2.step st⟩
 ·obtain⟨x,vs,ob,h1,h2,h4,h3⟩:=R.cel c a e
  exact⟨x,vs,ob,h1,sm _ _ h2,h4,h3.step st⟩
theorem Rel.fresh_not(R:Rel K H₀ Z ρ τ C σ H)(hp:H p=none):¬Z p/\p∉ρ/\H₀ p=none:=by
 refine⟨fun z=>(R.zd p z).some hp,fun z=>?_,R.old.free hp⟩
 obtain⟨c,hc⟩:=bT.mp z;obtain⟨_,_,_,_,h,_⟩:=R.cel c p hc;rw[hp]at h;cases h
theorem Rel.alloc_lst(R:Rel K H₀ Z ρ τ C σ H){ts:List T}{vs:List V}(hp:H p=none)(h:RTs K (mask H Z ρ) ρ ts vs):
 RT K (mask (upd H p (.lst vs)) Z ρ) ρ (.lst ts) (.ref p):=by
 obtain⟨h1,h2,_⟩:=R.fresh_not hp;unfold RT
 exact⟨p,vs,rfl,.of (mG h1 h2 iY),h.step (R.alloc hp).2⟩
theorem Rel.alloc_tup(R:Rel K H₀ Z ρ τ C σ H){ts:List T}{vs:List V}(hp:H p=none)(h:RTs K (mask H Z ρ) ρ ts vs):
 RT K (mask (upd H p (.tup vs)) Z ρ) ρ (.tup ts) (.ref p):=by
 obtain⟨h1,h2,_⟩:=R.fresh_not hp;unfold RT
 exact⟨p,vs,rfl,(mG h1 h2 iY),h.step (R.alloc hp).2⟩
theorem Rel.alloc_cl(R:Rel K H₀ Z ρ τ C σ H){ts:List T}{vs:List V}(hp:H p=none)(tf:Hob K kd vs ob)(h:RTs K (mask H Z ρ) ρ ts vs):
 Rel K H₀ Z (ρ++[p]) τ (C++[(kd,ts)]) σ (upd H p ob)/\Step H (upd H p ob) ρ (ρ++[p])/\RT K (mask (upd H p ob) Z (ρ++[p])) (ρ++[p]) (.cell C.length) (.ref p):=by
 obtain⟨n1,n2,n3⟩:=R.fresh_not hp;have sm:Same H (upd H p ob):=fun b u h=>by rw[fK (fun z=>by rw[z,hp]at h;cases h)];exact h
 have st:Step H (upd H p ob) ρ (ρ++[p]):=.of sm fun a ha=>by rw[bO.mp ha];exact hp
 refine⟨⟨R.old.trans sm,fun a ha=>?_,?_,fun a z=>(R.zd a z).same sm,fun i t e=>?_,fun c a e=>?_,by simp[R.len],R.lnt⟩,st,?_⟩
 ·rcases bK.mp ha with ha|ha
  ·exact R.frs a ha
  ·rw[bO.mp ha];exact⟨n3,n1⟩
 ·refine eC.mpr ⟨R.nd,by simp,fun a ha b hb=>?_⟩
  rw[bO.mp hb];rintro rfl
  exact n2 ha
 ·obtain⟨v,h1,h2⟩:=R.loc i t e
  exact⟨v,h1,h2.step st⟩
 ·by_cases hc:c<ρ.length
  ·rw[aY hc]at e;obtain⟨us,ws,o2,h1,h2,h4,h3⟩:=R.cel c a e
   exact⟨us,ws,o2,by rw[aY (by rw[<-R.len];exact hc)];exact h1,sm _ _ h2,h4,h3.step st⟩
  ·have pj:c=ρ.length:=by
    have:=(aR.mp e).1;simp at this;lia
   subst pj;rw[bH (bG _)]at e;simp at e;subst e
   exact⟨(kd,ts),vs,ob,by rw[R.len];simp,iY,tf,h.step st⟩
 ·unfold RT
  exact⟨p,rfl,by rw[<-R.len];simp⟩
theorem Rel.alloc_cell(R:Rel K H₀ Z ρ τ C σ H){ts:List T}{vs:List V}(hp:H p=none)(h:RTs K (mask H Z ρ) ρ ts vs):
 Rel K H₀ Z (ρ++[p]) τ (C++[(.l,ts)]) σ (upd H p (.lst vs))/\Step H (upd H p (.lst vs)) ρ (ρ++[p])/\RT K (mask (upd H p (.lst vs)) Z (ρ++[p])) (ρ++[p]) (.cell C.length) (.ref p):=R.alloc_cl hp rfl h
theorem Rel.celL(R:Rel K H₀ Z ρ τ C σ H){a:Addr}{ts:List T}(hc:ρ[c]?=some a)(e:C[c]?=some (.l,ts)):∃vs,H a=some (.lst vs)/\RTs K (mask H Z ρ) ρ ts vs:=by
 obtain⟨x,vs,ob,h1,h2,h4,h3⟩:=R.cel c a hc;rw[e]at h1;cases h1;have h4:ob=.lst vs:=h4;subst h4
 exact⟨vs,h2,h3⟩
theorem Rel.put0(R:Rel K H₀ Z ρ τ C σ H){a:Addr}{ts:List T}{vs:List V}(hc:ρ[c]?=some a)(tf:Hob K kd vs ob)(h:RTs K (mask H Z ρ) ρ ts vs):
 Rel K H₀ Z ρ τ (C.set c (kd,ts)) σ (upd H a ob)/\mask (upd H a ob) Z ρ=mask H Z ρ:=by
 have am:a∈ρ:=bD hc;have em:mask (upd H a ob) Z ρ=mask H Z ρ:=by
  funext b;unfold mask;split
  ·rfl
  ·rename_i q;rw[fK (by rintro rfl;exact q (.inr am))]
 refine⟨⟨fun b o q=>?_,R.frs,R.nd,fun b z=>?_,fun i t e=>?_,fun d b e=>?_,by simp[R.len],R.lnt⟩,em⟩
 ·rw[fK (by rintro rfl;rw[(R.frs b am).1]at q;cases q)]
  exact R.old b o q
 ·rw[fK (by rintro rfl;exact(R.frs b am).2 z)];exact R.zd b z
 ·rw[em];exact R.loc i t e
 ·rw[em];by_cases hd:d=c
  ·subst hd;rw[hc]at e;cases e;have hl:d<C.length:=by rw[<-R.len];exact(aR.mp hc).1
   exact⟨(kd,ts),vs,ob,by rw[bQ hl],iY,tf,h⟩
  ·obtain⟨us,ws,o2,h1,h2,h4,h3⟩:=R.cel d b e
   refine⟨us,ws,o2,by rw[aU (Ne.symm hd)];exact h1,?_,h4,h3⟩
   rw[fK]
   ·exact h2
   ·rintro rfl;obtain⟨l1,e1⟩:=aR.mp e;obtain⟨l2,e2⟩:=aR.mp hc
    exact hd ((aOU R.nd).mp (e1.trans e2.symm))
theorem Rel.put(R:Rel K H₀ Z ρ τ C σ H){a:Addr}{ts:List T}{vs:List V}(hc:ρ[c]?=some a)(vx:nfz (H a))(tf:Hob K kd vs ob)(h:RTs K (mask H Z ρ) ρ ts vs):
 Rel K H₀ Z ρ τ (C.set c (kd,ts)) σ (upd H a ob)/\SStep Z H (upd H a ob) ρ ρ:=
 have am:a∈ρ:=bD hc
 ⟨(R.put0 hc tf h).1,⟨fun b o q n=>⟨n,by rw[fK (by rintro rfl;exact n am)];exact q⟩,⟨[],by simp⟩,fun b ob u h=>by rw[fK (by rintro rfl;rw[h]at vx;exact vx)];exact h⟩⟩
theorem Rel.write(R:Rel K H₀ Z ρ τ C σ H){a:Addr}{ts:List T}{vs:List V}(hc:ρ[c]?=some a)(vx:nfz (H a))(h:RTs K (mask H Z ρ) ρ ts vs):
 Rel K H₀ Z ρ τ (C.set c (.l,ts)) σ (upd H a (.lst vs))/\SStep Z H (upd H a (.lst vs)) ρ ρ:=R.put hc vx rfl h
theorem Rel.set(R:Rel K H₀ Z ρ τ C σ H){i:Nat}{t:T}{v:V}(h:RT K (mask H Z ρ) ρ t v):Rel K H₀ Z ρ (τ.set i (some t)) C (σ.set i (some v)) H:=by
 refine⟨R.old,R.frs,R.nd,R.zd,fun j u e=>?_,R.cel,R.len,by simp[R.lnt]⟩
 by_cases hj:j=i
 ·subst hj;have oj:j<τ.length:=by
   have:=(aR.mp e).1;simpa using this
  rw[bQ oj]at e;cases e
  exact⟨v,by rw[bQ (by rw[<-R.lnt];exact oj)],h⟩
 ·rw[aU (Ne.symm hj)]at e;obtain⟨w,h1,h2⟩:=R.loc j u e
  exact⟨w,by rw[aU (Ne.symm hj)];exact h1,h2⟩
theorem Rel.weak(R:Rel K H₀ Z ρ τ C σ H){ag:TSt}(hl:ag.length=τ.length)(h:∀(i:Nat) t,ag[i]?=some (some t)->τ[i]?=some (some t)):Rel K H₀ Z ρ ag C σ H:=
 ⟨R.old,R.frs,R.nd,R.zd,fun i t e=>R.loc i t (h i t e),R.cel,R.len,hl.trans R.lnt⟩
end
noncomputable def lim:Nat:=400000
abbrev FE:=TSt->Sto->Option (T×Sto)
abbrev FN:=TSt->Sto->Option (List T×Sto)
abbrev FB:=TSt->Sto->Option (Bool×Sto)
def trE(K:aO)(f:FE):TE:=fun σ H Q=>∃H₀ Z ρ τ C t C',Rel K H₀ Z ρ τ C σ H/\f τ C=some (t,C')/\
 ∀v H' ae,Rel K H₀ Z ae τ C' σ H'->RT K (mask H' Z ae) ae t v->Step H H' ρ ae->Q v H'
def trA(K:aO)(f:FN):TA:=fun σ H Q=>∃H₀ Z ρ τ C ts C',Rel K H₀ Z ρ τ C σ H/\f τ C=some (ts,C')/\
 ∀vs H' ae,Rel K H₀ Z ae τ C' σ H'->RTs K (mask H' Z ae) ae ts vs->Step H H' ρ ae->Q vs H'
def trN(K:aO)(f:FN):TE:=fun σ H Q=>∃H₀ Z ρ τ C ts C',Rel K H₀ Z ρ τ C σ H/\f τ C=some (ts,C')/\
 ∀p H' ae vs,Rel K H₀ Z ae τ C' σ H'->H' p=none->RTs K (mask H' Z ae) ae ts vs->Step H H' ρ ae->Q (.ref p) (upd H' p (.lst vs))
noncomputable def trT(K:aO)(f:FB):TT:=fun σ H Q=>∃H₀ Z ρ τ C b C',Rel K H₀ Z ρ τ C σ H/\f τ C=some (b,C')/\
 ∀H' ae,Rel K H₀ Z ae τ C' σ H'->Step H H' ρ ae->Q b H'
def trV(K:aO)(σ:St)(ts:List T)(vs:List V)(g:Sto->Option (T×Sto))(H:Hp)(Q:VK):Prop:=∃H₀ Z ρ τ C t C',Rel K H₀ Z ρ τ C σ H/\RTs K (mask H Z ρ) ρ ts vs/\g C=some (t,C')/\
 ∀v H' ae,Rel K H₀ Z ae τ C' σ H'->RT K (mask H' Z ae) ae t v->Step H H' ρ ae->Q v H'
def trW(K:aO)(σ:St)(ts:List T)(vs:List V)(g:Sto->Option (List T))(H:Hp)(Q:VK):Prop:=∃H₀ Z ρ τ C us,Rel K H₀ Z ρ τ C σ H/\RTs K (mask H Z ρ) ρ ts vs/\g C=some us/\
 ∀p H' ae ws,Rel K H₀ Z ae τ C σ H'->H' p=none->RTs K (mask H' Z ae) ae us ws->Step H H' ρ ae->Q (.ref p) (upd H' p (.lst ws))
noncomputable def j4(i:Nat):FE:=fun τ C=>match τ[i]?with
 |some (some t)=>some (t,C)
 |_=>none
noncomputable def fC(t:T):FE:=fun _ C=>some (t,C)
abbrev Y0:FE:=j4 0
abbrev Y1:FE:=j4 1
abbrev Y2:FE:=j4 2
abbrev Y3:FE:=j4 3
abbrev Y4:FE:=j4 4
abbrev Y5:FE:=j4 5
abbrev Y6:FE:=j4 6
abbrev Y7:FE:=j4 7
abbrev Y8:FE:=j4 8
abbrev Y9:FE:=j4 9
abbrev Y10:FE:=j4 10
abbrev Y11:FE:=j4 11
abbrev Y12:FE:=j4 12
abbrev Y13:FE:=j4 13
abbrev Y14:FE:=j4 14
abbrev fI(n:Int):FE:=fC (.int n)
noncomputable def iU(fa fb:FE)(g:T->T->Sto->Option (T×Sto)):FE:=fun τ C=>(fa τ C).bind fun p=>(fb τ p.2).bind fun q=>g p.1 q.1 q.2
noncomputable def fUn(fa:FE)(g:T->Sto->Option (T×Sto)):FE:=fun τ C=>(fa τ C).bind fun p=>g p.1 p.2
noncomputable def vN(fa fb:FE)(g:T->T->Sto->Option (List T)):FN:=fun τ C=>(fa τ C).bind fun p=>(fb τ p.2).bind fun q=>(g p.1 q.1 q.2).map fun us=>(us,q.2)
noncomputable def fB:FN:=fun _ C=>some ([],C)
noncomputable def eU(fa:FE)(fr:FN):FN:=fun τ C=>(fa τ C).bind fun p=>(fr τ p.2).map fun q=>(p.1::q.1,q.2)
noncomputable def mX(fa:FN)(g:List T->Sto->Option (T×Sto)):FE:=fun τ C=>(fa τ C).bind fun p=>g p.1 p.2
noncomputable def uK(fa:FN)(g:List T->Sto->Option (List T)):FN:=fun τ C=>(fa τ C).bind fun p=>(g p.1 p.2).map fun us=>(us,p.2)
noncomputable def fL(f:FN):FE:=fun τ C=>(f τ C).map fun p=>(.lst p.1,p.2)
noncomputable def iP(f:FN):FE:=fun τ C=>(f τ C).map fun p=>(.cell p.2.length,p.2++[(.l,p.1)])
section
variable {K:aO}{σ:St}{H:Hp}{Q:VK}
variable{fa fb:FE}{g:Int->Int->V}{f:Int->Int->T}{C:Sto}{M H₀:Hp}{τ:TSt}{x y:V}
theorem aNG{i:Nat}(h:trE K (j4 i) σ H Q):tVar i σ H Q:=by
 obtain⟨H₀,Z,ρ,τ,C,t,C',R,e,k⟩:=h;unfold j4 at e;split at e
 ·rename_i u hu;cases e;obtain⟨v,h1,h2⟩:=R.loc i t hu
  exact⟨v,h1,k v H ρ R h2 .refl⟩
 ·cases e
theorem i_C{t:T}{v:V}(ht:∀M ρ,RT K M ρ t v)(h:trE K (fC t) σ H Q):tC v σ H Q:=by
 obtain⟨H₀,Z,ρ,τ,C,t,C',R,e,k⟩:=h;cases e
 exact k v H ρ R (ht _ _) .refl
theorem aDN{g:T->T->Sto->Option (T×Sto)}(h:trE K (iU fa fb g) σ H Q):
 trE K fa σ H fun x H1=>trE K fb σ H1 fun y H2=>∃t1 t2,trV K σ [t1,t2] [x,y] (g t1 t2) H2 Q:=by
 obtain⟨H₀,Z,ρ,τ,C,t,C',R,e,k⟩:=h;unfold iU at e;obtain⟨⟨t1,C1⟩,e1,e⟩:=aK.mp e;obtain⟨⟨t2,C2⟩,e2,e⟩:=aK.mp e
 refine⟨H₀,Z,ρ,τ,C,t1,C1,R,e1,fun x H1 af R1 h1 s1=>?_⟩
 refine⟨H₀,Z,af,τ,C1,t2,C2,R1,e2,fun y H2 aw R2 h2 s2=>?_⟩
 exact⟨t1,t2,H₀,Z,aw,τ,C2,t,C',R2,.cons (h1.step s2) (.cons h2 .nil),e,fun v H3 bd R3 h3 s3=>k v H3 bd R3 h3 ((s1.trans s2).trans s3)⟩
theorem aMe{g:T->Sto->Option (T×Sto)}(h:trE K (fUn fa g) σ H Q):
 trE K fa σ H fun x H1=>∃t1,trV K σ [t1] [x] (g t1) H1 Q:=by
 obtain⟨H₀,Z,ρ,τ,C,t,C',R,e,k⟩:=h;unfold fUn at e;obtain⟨⟨t1,C1⟩,e1,e⟩:=aK.mp e
 refine⟨H₀,Z,ρ,τ,C,t1,C1,R,e1,fun x H1 af R1 h1 s1=>?_⟩
 exact⟨t1,H₀,Z,af,τ,C1,t,C',R1,.cons h1 .nil,e,fun v H3 bd R3 h3 s3=>k v H3 bd R3 h3 (s1.trans s3)⟩
theorem aLh{g:T->T->Sto->Option (List T)}(h:trN K (vN fa fb g) σ H Q):
 trE K fa σ H fun x H1=>trE K fb σ H1 fun y H2=>∃t1 t2,trW K σ [t1,t2] [x,y] (g t1 t2) H2 Q:=by
 obtain⟨H₀,Z,ρ,τ,C,ts,C',R,e,k⟩:=h;unfold vN at e;obtain⟨⟨t1,C1⟩,e1,e⟩:=aK.mp e;obtain⟨⟨t2,C2⟩,e2,e⟩:=aK.mp e;obtain⟨us,e3,e⟩:=aL.mp e;cases e
 refine⟨H₀,Z,ρ,τ,C,t1,C1,R,e1,fun x H1 af R1 h1 s1=>?_⟩
 refine⟨H₀,Z,af,τ,C1,t2,_,R1,e2,fun y H2 aw R2 h2 s2=>?_⟩
 exact⟨t1,t2,H₀,Z,aw,τ,_,_,R2,.cons (h1.step s2) (.cons h2 .nil),e3,fun p H3 bd ws R3 n3 h3 s3=>k p H3 bd ws R3 n3 h3 ((s1.trans s2).trans s3)⟩
theorem aK8{Q:List V->Hp->Prop}(h:trA K fB σ H Q):aJ1 σ H Q:=by
 obtain⟨H₀,Z,ρ,τ,C,ts,C',R,e,k⟩:=h;cases e
 exact k [] H ρ R .nil .refl
theorem aLq{fr:FN}{Q:List V->Hp->Prop}(h:trA K (eU fa fr) σ H Q):aHR (trE K fa) (trA K fr) σ H Q:=by
 obtain⟨H₀,Z,ρ,τ,C,ts,C',R,e,k⟩:=h;unfold eU at e;obtain⟨⟨t1,C1⟩,e1,e⟩:=aK.mp e;obtain⟨⟨t2,C2⟩,e2,e⟩:=aL.mp e;cases e
 refine⟨H₀,Z,ρ,τ,C,t1,C1,R,e1,fun x H1 af R1 h1 s1=>?_⟩
 exact⟨H₀,Z,af,τ,C1,t2,_,R1,e2,fun vs H2 aw R2 h2 s2=>k (x::vs) H2 aw R2 (.cons (h1.step s2) h2) (s1.trans s2)⟩
theorem aBy{fa:FN}{g:List T->Sto->Option (T×Sto)}(h:trE K (mX fa g) σ H Q):
 trA K fa σ H fun vs H1=>∃ts,trV K σ ts vs (g ts) H1 Q:=by
 obtain⟨H₀,Z,ρ,τ,C,t,C',R,e,k⟩:=h;unfold mX at e;obtain⟨⟨ts,C1⟩,e1,e⟩:=aK.mp e
 refine⟨H₀,Z,ρ,τ,C,ts,C1,R,e1,fun x H1 af R1 h1 s1=>?_⟩
 exact⟨ts,H₀,Z,af,τ,C1,t,C',R1,h1,e,fun v H3 bd R3 h3 s3=>k v H3 bd R3 h3 (s1.trans s3)⟩
theorem aIs{fa:FN}{g:List T->Sto->Option (List T)}(h:trN K (uK fa g) σ H Q):
 trA K fa σ H fun vs H1=>∃ts,trW K σ ts vs (g ts) H1 Q:=by
 obtain⟨H₀,Z,ρ,τ,C,ts,C',R,e,k⟩:=h;unfold uK at e;obtain⟨⟨us,C1⟩,e1,e⟩:=aK.mp e;obtain⟨ws,e2,e⟩:=aL.mp e;cases e
 refine⟨H₀,Z,ρ,τ,C,us,_,R,e1,fun x H1 af R1 h1 s1=>?_⟩
 exact⟨us,H₀,Z,af,τ,_,_,R1,h1,e2,fun p H3 bd ws R3 n3 h3 s3=>k p H3 bd ws R3 n3 h3 (s1.trans s3)⟩
theorem aHE{f:FN}(h:trE K (fL f) σ H Q):trN K f σ H Q:=by
 obtain⟨H₀,Z,ρ,τ,C,t,C',R,e,k⟩:=h;unfold fL at e;obtain⟨⟨us,C1⟩,e1,e⟩:=aL.mp e;cases e
 exact⟨H₀,Z,ρ,τ,C,us,_,R,e1,fun p H1 af vs R1 n1 h1 s1=>k _ _ af (R1.alloc n1).1 (R1.alloc_lst n1 h1) (s1.trans (R1.alloc n1).2)⟩
theorem aHq{f:FN}(h:trE K (iP f) σ H Q):trN K f σ H Q:=by
 obtain⟨H₀,Z,ρ,τ,C,t,C',R,e,k⟩:=h;unfold iP at e;obtain⟨⟨us,C1⟩,e1,e⟩:=aL.mp e;cases e
 refine⟨H₀,Z,ρ,τ,C,us,_,R,e1,fun p H1 af vs R1 n1 h1 s1=>?_⟩
 obtain⟨q1,q2,q3⟩:=R1.alloc_cell n1 h1
 exact k _ _ _ q1 q3 (s1.trans q2)
noncomputable def lc(C:Sto)(c:Nat):Option (List T):=(C[c]?).bind fun x=>match x.1 with
 | .l=>some x.2
 |_=>none
theorem gP{c:Nat}{ts:List T}:lc C c=some ts↔C[c]?=some (.l,ts):=by
 unfold lc;constructor
 ·intro h;obtain⟨⟨k,us⟩,e,h⟩:=aK.mp h;cases k<;>cases h
  exact e
 ·intro h;rw[h];rfl
def liT(C:Sto):T->Option (List T)
 | .lst ts=>some ts
 | .cell c=>lc C c
 |_=>none
def sqT(C:Sto):T->Option (List T)
 | .lst ts=>some ts
 | .cell c=>lc C c
 | .tup ts=>some ts
 |_=>none
theorem SqL.msk{Z:Addr->Prop}{ρ:Rho}{a:Addr}{vs:List V}(h:SqL K (mask M Z ρ) a vs):SqL K M a vs:=nH.seq h
theorem SqT.msk{Z:Addr->Prop}{ρ:Rho}{a:Addr}{vs:List V}(h:SqT K (mask M Z ρ) a vs):SqT K M a vs:=Same.tseq nH h
theorem Rel.li{Z:Addr->Prop}{ρ:Rho}(R:Rel K H₀ Z ρ τ C σ H){t:T}{v:V}{ts:List T}(h:RT K (mask H Z ρ) ρ t v)(e:liT C t=some ts):
 ∃a vs,v=.ref a/\SqL K H a vs/\RTs K (mask H Z ρ) ρ ts vs:=by
 cases t with
 |lst us=>
  cases e;unfold RT at h;obtain⟨a,vs,e,q,r⟩:=h
  exact⟨a,vs,e,SqL.msk q,r⟩
 |cell c=>
  unfold RT at h;obtain⟨a,e1,q⟩:=h;obtain⟨ws,h2,h3⟩:=R.celL q (gP.mp e)
  exact⟨a,ws,e1,.of h2,h3⟩
 |_=>cases e
theorem Rel.sq{Z:Addr->Prop}{ρ:Rho}(R:Rel K H₀ Z ρ τ C σ H){t:T}{v:V}{ts:List T}(h:RT K (mask H Z ρ) ρ t v)(e:sqT C t=some ts):
 ∃a vs,v=.ref a/\(SqL K H a vs\/SqT K H a vs)/\RTs K (mask H Z ρ) ρ ts vs:=by
 cases t with
 |lst us=>
  obtain⟨a,vs,h1,h2,h3⟩:=R.li h (show liT C (.lst us)=some ts from e)
  exact⟨a,vs,h1,.inl h2,h3⟩
 |cell c=>
  obtain⟨a,vs,h1,h2,h3⟩:=R.li h (show liT C (.cell c)=some ts from e)
  exact⟨a,vs,h1,.inl h2,h3⟩
 |tup us=>
  cases e;unfold RT at h;obtain⟨a,vs,e,q,r⟩:=h
  exact⟨a,vs,e,.inr (SqT.msk (.of q)),r⟩
 |_=>cases e
theorem RT.int_inv{ρ:Rho}{i:Int}{v:V}(h:RT K M ρ (.int i) v):v=.int i:=by unfold RT at h;exact h
theorem RT.bl_inv{ρ:Rho}{b:Bool}{v:V}(h:RT K M ρ (.bl b) v):v=.bl b:=by unfold RT at h;exact h
theorem RT.non_inv{ρ:Rho}{v:V}(h:RT K M ρ .non v):v=.non:=by unfold RT at h;exact h
theorem RT.int{M:Hp}{ρ:Rho}{i:Int}:RT K M ρ (.int i) (.int i):=by unfold RT;rfl
theorem RT.bl{M:Hp}{ρ:Rho}{i:Bool}:RT K M ρ (.bl i) (.bl i):=by unfold RT;rfl
theorem RT.non{M:Hp}{ρ:Rho}:RT K M ρ .non .non:=by unfold RT;rfl
noncomputable def gI(f:Int->Int->T):T->T->Sto->Option (T×Sto)
 | .int i,.int j,C=>some (f i j,C)
 |_,_,_=>none
noncomputable def gIc(c:Int->Int->Bool)(f:Int->Int->T):T->T->Sto->Option (T×Sto)
 | .int i,.int j,C=>if c i j=true then some (f i j,C)else none
 |_,_,_=>none
theorem o_I(yv:∀i j M ρ,RT K M ρ (f i j) (g i j))(h:∃t1 t2,trV K σ [t1,t2] [x,y] (gI f t1 t2) H Q):
 ∃i j,x=.int i/\y=.int j/\Q (g i j) H:=by
 obtain⟨t1,t2,H₀,Z,ρ,τ,C,t,C',R,r,e,k⟩:=h;obtain⟨_,_,z,r1,r⟩:=r.cons_inv;cases z;obtain⟨_,_,z,r2,r⟩:=r.cons_inv;cases z;unfold gI at e;split at e
 ·cases e
  exact⟨_,_,r1.int_inv,r2.int_inv,k _ H ρ R (yv _ _ _ _) .refl⟩
 ·cases e
theorem aGk{c:Int->Int->Bool}(yv:∀i j M ρ,RT K M ρ (f i j) (g i j))(h:∃t1 t2,trV K σ [t1,t2] [x,y] (gIc c f t1 t2) H Q):
 ∃i j,x=.int i/\y=.int j/\c i j=true/\Q (g i j) H:=by
 obtain⟨t1,t2,H₀,Z,ρ,τ,C,t,C',R,r,e,k⟩:=h;obtain⟨_,_,z,r1,r⟩:=r.cons_inv;cases z;obtain⟨_,_,z,r2,r⟩:=r.cons_inv;cases z;unfold gIc at e;split at e
 ·split at e
  ·rename_i hc;cases e
   exact⟨_,_,r1.int_inv,r2.int_inv,hc,k _ H ρ R (yv _ _ _ _) .refl⟩
  ·cases e
 ·cases e
end
inductive Fl where
 |nx|bk|ct|rt (t:T)|ex (c:String)
abbrev FS:=TSt->Sto->Option (Fl×TSt×Sto)
abbrev XW:=String->St->Hp->Prop
def EndF(K:aO)(W:XW)(D:Ends)(Z:Addr->Prop)(ρ:Rho)(fl:Fl)(σ:St)(H:Hp):Prop:=match fl with
 | .nx=>D.nx σ H
 | .bk=>D.bk σ H
 | .ct=>D.ct σ H
 | .rt t=>∀v,RT K (mask H Z ρ) ρ t v->D.rt v H
 | .ex c=>W c σ H
noncomputable def trS(K:aO)(W:XW)(F:FS):TS:=fun D σ H=>∃H₀ Z ρ τ C fl ag C',Rel K H₀ Z ρ τ C σ H/\F τ C=some (fl,ag,C')/\
 ∀ai H' ae,Rel K H₀ Z ae ag C' ai H'->SStep Z H H' ρ ae->EndF K W D Z ae fl ai H'
abbrev FG:=T->Sto->TSt->Option TSt
def trG(K:aO)(g:FG):TG:=fun v σ H Q=>∃H₀ Z ρ τ C t ag,Rel K H₀ Z ρ τ C σ H/\RT K (mask H Z ρ) ρ t v/\g t C τ=some ag/\
 ∀ai,Rel K H₀ Z ρ ag C ai H->Q ai H
noncomputable def iC:FS:=fun τ C=>some (.nx,τ,C)
noncomputable def aAH:FS:=fun _ _=>none
noncomputable def fE(F G:FS):FS:=fun τ C=>(F τ C).bind fun r=>match r with
 | (.nx,aq,C1)=>G aq C1
 |r=>some r
noncomputable def fIf(c:FB)(F G:FS):FS:=fun τ C=>(c τ C).bind fun p=>if p.1=true then F τ p.2 else G τ p.2
def gT(f:FE):FS:=fun τ C=>(f τ C).map fun p=>(.rt p.1,τ,p.2)
noncomputable def mO(f:FE):FS:=fun τ C=>(f τ C).map fun p=>(.nx,τ,p.2)
noncomputable def fM(f:FE)(g:FG):FS:=fun τ C=>(f τ C).bind fun p=>(g p.1 p.2 τ).map fun ag=>(.nx,ag,p.2)
noncomputable def gN(i:Nat):FG:=fun t _ τ=>some (τ.set i (some t))
noncomputable def setAll:List Nat->List T->TSt->TSt
 |i::is,t::ts,τ=>setAll is ts (τ.set i (some t))
 |_,_,τ=>τ
def gU(is:List Nat):FG:=fun t C τ=>(sqT C t).bind fun ts=>if ts.length=is.length then some (setAll is ts τ)else none
section
variable {K:aO}{W:XW}{σ:St}{H:Hp}{D:Ends}
variable{F G:FS}{c:FB}{f:FE}{g:FG}{H₀ H1:Hp}{τ:TSt}{C:Sto}{af:Rho}{n:Nat}
theorem aHg(h:trS K W iC D σ H):aHc D σ H:=by
 obtain⟨H₀,Z,ρ,τ,C,fl,ag,C',R,e,k⟩:=h;cases e
 exact k σ H ρ R .refl
theorem aKj(h:trS K W aAH D σ H):False:=by
 obtain⟨H₀,Z,ρ,τ,C,fl,ag,C',R,e,k⟩:=h;cases e
theorem aNY(h:trS K W (fE F G) D σ H):tSeq (trS K W F) (trS K W G) D σ H:=by
 obtain⟨H₀,Z,ρ,τ,C,fl,ag,C',R,e,k⟩:=h;unfold fE at e;obtain⟨⟨f1,aq,C1⟩,e1,e⟩:=aK.mp e
 refine⟨H₀,Z,ρ,τ,C,f1,aq,C1,R,e1,fun cz H1 af R1 s1=>?_⟩
 cases f1 with
 |nx=>exact⟨H₀,Z,af,aq,C1,fl,ag,C',R1,e,fun br H2 aw R2 s2=>k br H2 aw R2 (s1.trans s2)⟩
 |bk=>cases e;exact k cz H1 af R1 s1
 |ct=>cases e;exact k cz H1 af R1 s1
 |rt t=>cases e;exact k cz H1 af R1 s1
 |ex c=>cases e;exact k cz H1 af R1 s1
theorem aOl(h:trS K W (fIf c F G) D σ H):tIfS (trT K c) (trS K W F) (trS K W G) D σ H:=by
 obtain⟨H₀,Z,ρ,τ,C,fl,ag,C',R,e,k⟩:=h;unfold fIf at e;obtain⟨⟨b,C1⟩,e1,e⟩:=aK.mp e
 refine⟨H₀,Z,ρ,τ,C,b,C1,R,e1,fun H1 af R1 s1=>?_⟩
 cases b with
 |true=>
  rw[if_pos rfl]at e|-
  exact⟨H₀,Z,af,τ,C1,fl,ag,C',R1,e,fun br H2 aw R2 s2=>k br H2 aw R2 (s1.ss.trans s2)⟩
 |false=>
  rw[if_neg (by simp)]at e|-
  exact⟨H₀,Z,af,τ,C1,fl,ag,C',R1,e,fun br H2 aw R2 s2=>k br H2 aw R2 (s1.ss.trans s2)⟩
theorem aNL(h:trS K W (gT f) D σ H):tRet (trE K f) D σ H:=by
 obtain⟨H₀,Z,ρ,τ,C,fl,ag,C',R,e,k⟩:=h;unfold gT at e;obtain⟨⟨t,C1⟩,e1,e⟩:=aL.mp e;cases e
 exact⟨H₀,Z,ρ,τ,C,t,_,R,e1,fun v H1 af R1 h1 s1=>k σ H1 af R1 s1.ss v h1⟩
theorem aMO(h:trS K W (mO f) D σ H):aHa (trE K f) D σ H:=by
 obtain⟨H₀,Z,ρ,τ,C,fl,ag,C',R,e,k⟩:=h;unfold mO at e;obtain⟨⟨t,C1⟩,e1,e⟩:=aL.mp e;cases e
 exact⟨H₀,Z,ρ,τ,C,t,_,R,e1,fun v H1 af R1 h1 s1=>k σ H1 af R1 s1.ss⟩
theorem aDK(h:trS K W (fM f g) D σ H):aC8 (trE K f) (trG K g) D σ H:=by
 obtain⟨H₀,Z,ρ,τ,C,fl,ag,C',R,e,k⟩:=h;unfold fM at e;obtain⟨⟨t,C1⟩,e1,e⟩:=aK.mp e;obtain⟨aq,e2,e⟩:=aL.mp e;cases e
 refine⟨H₀,Z,ρ,τ,C,t,_,R,e1,fun v H1 af R1 h1 s1=>?_⟩
 exact⟨H₀,Z,af,τ,_,t,_,R1,h1,e2,fun ai R'=>k ai H1 af R' s1.ss⟩
theorem aAL{i:Nat}{v:V}{Q:St->Hp->Prop}(h:trG K (gN i) v σ H Q):sL i v σ H Q:=by
 obtain⟨H₀,Z,ρ,τ,C,t,ag,R,r,e,k⟩:=h;cases e
 exact k _ (R.set r)
theorem Rel.setAll{H₀:Hp}{Z:Addr->Prop}{ρ:Rho}{C:Sto}:∀{is:List Nat}{ts:List T}{vs:List V}{τ:TSt}{σ:St},Rel K H₀ Z ρ τ C σ H->RTs K (mask H Z ρ) ρ ts vs->ts.length=is.length->∀{Q:St->Hp->Prop},
 (∀ai,Rel K H₀ Z ρ (TL.setAll is ts τ) C ai H->Q ai H)->(is.foldr (fun i g=>aEv (sL i) g) aJz) vs σ H Q
 | [],[],vs,τ,σ,R,r,_,Q,k=>⟨r.nil_inv,k σ R⟩
 |i::is,t::ts,vs,τ,σ,R,r,hl,Q,k=>by
  obtain⟨v,r',rfl,h1,h2⟩:=r.cons_inv
  exact⟨v,r',rfl,Rel.setAll (is:=is) (ts:=ts) (R.set h1) h2 (by simpa using hl) k⟩
 | [],t::ts,_,_,_,_,_,hl,_,_=>by simp at hl
 |i::is,[],_,_,_,_,_,hl,_,_=>by simp at hl
open Classical in
def j9(P:Sto->Prop)(g:FG)(F:FS):List T->FS
 | [],τ,C=>some (.nx,τ,C)
 |t::ts,τ,C=>(g t C τ).bind fun aq=>(F aq C).bind fun r=>match r with
  | (.nx,ap,C2)=>if P C2 then j9 P g F ts ap C2 else none
  | (.ct,ap,C2)=>if P C2 then j9 P g F ts ap C2 else none
  | (.bk,ap,C2)=>some (.nx,ap,C2)
  | (.rt v,ap,C2)=>some (.rt v,ap,C2)
  | (.ex c,ap,C2)=>some (.ex c,ap,C2)
def stays(t:T)(ts:List T)(C:Sto):Prop:=match t with
 | .cell c=>lc C c=some ts
 |_=>True
def oE(f:FE)(g:FG)(F:FS):FS:=fun τ C=>(f τ C).bind fun p=>(liT p.2 p.1).bind fun ts=>j9 (stays p.1 ts) g F ts τ p.2
theorem Rel.same{H₀:Hp}{Z:Addr->Prop}{ρ:Rho}{τ:TSt}{C:Sto}{H':Hp}(R:Rel K H₀ Z ρ τ C σ H)(s:Same H H'):Rel K H₀ Z ρ τ C σ H'/\Step H H' ρ ρ:=by
 have st:Step H H' ρ ρ:=.of0 s
 refine⟨⟨R.old.trans s,R.frs,R.nd,fun a z=>(R.zd a z).same s,fun i t e=>?_,fun c a e=>?_,R.len,R.lnt⟩,st⟩
 ·obtain⟨v,h1,h2⟩:=R.loc i t e
  exact⟨v,h1,h2.step st⟩
 ·obtain⟨ts,vs,ob,h1,h2,h4,h3⟩:=R.cel c a e
  exact⟨ts,vs,ob,h1,s _ _ h2,h4,h3.step st⟩
structure Wlk(K:aO)(J:It)(Z:Addr->Prop)(H1:Hp)(af:Rho)(ts:List T)(P:Sto->Prop):Prop where
 go:∀(i:Nat)(t:T)(H₀:Hp)(Z':Addr->Prop)(ae:Rho)(τ:TSt)(C:Sto)(σ:St)(H:Hp),ts[i]?=some t->Rel K H₀ Z' ae τ C σ H->Same (mask H1 Z af) (mask H Z' ae)->
  (∀(c:Nat)(a:Addr),af[c]?=some a->ae[c]?=some a)->(P C\/Same H1 H)->(∀a ob u,H1 a=some (.frz ob u)->H a=some (.frz ob u))->J.go i H/\∀x H',J.yld i H x H'->Same H H'/\RT K (mask H' Z' ae) ae t x
 stop:∀(H₀:Hp)(Z':Addr->Prop)(ae:Rho)(τ:TSt)(C:Sto)(σ:St)(H:Hp),Rel K H₀ Z' ae τ C σ H->Same (mask H1 Z af) (mask H Z' ae)->
  (∀(c:Nat)(a:Addr),af[c]?=some a->ae[c]?=some a)->(P C\/Same H1 H)->(∀a ob u,H1 a=some (.frz ob u)->H a=some (.frz ob u))->J.stop ts.length H
theorem vE{J:It}{Z:Addr->Prop}{ρ:Rho}{ag:TSt}{C':Sto}{P:Sto->Prop}{ts:List T}{fl:Fl}{cz:St}
 (R:Rel K H₀ Z ρ τ C cz H1)(hP:P C)(e:j9 P g F ts τ C=some (fl,ag,C'))(w:Wlk K J Z H1 ρ ts P)
 (k:∀ai H' ae,Rel K H₀ Z ae ag C' ai H'->SStep Z H1 H' ρ ae->EndF K W D Z ae fl ai H'):
 ∃V:Nat->Nat->St->Hp->Prop,(∃m,V 0 m cz H1)/\∀i m σ H,V i m σ H->
  (J.stop i H/\D.nx σ H)\/(J.go i H/\∃N:St->Hp->Prop,(∀ai H',N ai H'->∃m',m'<m/\V (i+1) m' ai H')/\∀x H',J.yld i H x H'->trG K g x σ H' fun br H2=>trS K W F {D with nx:=N,ct:=N,bk:=D.nx} br H2):=by
 refine⟨fun i m σ H=>∃ae aq C1 rest,m=rest.length/\ts.drop i=rest/\i<=ts.length/\Rel K H₀ Z ae aq C1 σ H/\SStep Z H1 H ρ ae/\P C1/\j9 P g F rest aq C1=some (fl,ag,C'),
  ⟨ts.length,ρ,τ,C,ts,rfl,rfl,d3 _,R,.refl,hP,e⟩,?_⟩
 rintro i m σ H ⟨ae,aq,C1,rest,rfl,hd,hi,R1,s1,nb,e1⟩;cases rest with
 |nil=>
  have ei:i=ts.length:=by
   have:ts.length<=i:=by simpa using hd
   lia
  subst ei;cases e1
  exact .inl ⟨w.stop _ _ _ _ _ _ _ R1 (s1.msk _) s1.idx (.inl nb) s1.fz,k σ H ae R1 s1⟩
 |cons t rest=>
  have ht:ts[i]?=some t:=by
   have:=congrArg (fun l=>l[0]?) hd;simpa using this
  have bn:i<ts.length:=(aR.mp ht).1;have jm:ts.drop (i+1)=rest:=by
   have:=congrArg aQz hd;simpa using this
  obtain⟨g1,g2⟩:=w.go i t _ _ ae aq C1 σ H ht R1 (s1.msk _) s1.idx (.inl nb) s1.fz;unfold j9 at e1;obtain⟨ap,eg,e1⟩:=aK.mp e1;obtain⟨⟨f3,fm,C3⟩,eF,e1⟩:=aK.mp e1
  refine .inr ⟨g1,fun ai H'=>∃bd fm C3,Rel K H₀ Z bd fm C3 ai H'/\SStep Z H1 H' ρ bd/\P C3/\j9 P g F rest fm C3=some (fl,ag,C'),?_,?_⟩
  ·rintro ai H' ⟨bd,fm,C3,R3,s3,uk,e3⟩
   exact⟨rest.length,by simp,bd,fm,C3,rest,rfl,jm,bn,R3,s3,uk,e3⟩
  ·intro x H' y;obtain⟨sm,rx⟩:=g2 x H' y;obtain⟨ux,ba⟩:=R1.same sm
   refine⟨H₀,Z,ae,aq,C1,t,ap,ux,rx,eg,fun br R2=>?_⟩
   refine⟨H₀,Z,ae,ap,C1,f3,fm,C3,R2,eF,fun cq H3 bd R3 s3=>?_⟩
   have qu:=(s1.trans ba.ss).trans s3;cases f3 with
   |nx=>
    dsimp only at e1;split at e1
    ·rename_i uk
     exact⟨bd,fm,C3,R3,qu,uk,e1⟩
    ·cases e1
   |ct=>
    dsimp only at e1;split at e1
    ·rename_i uk
     exact⟨bd,fm,C3,R3,qu,uk,e1⟩
    ·cases e1
   |bk=>
    cases e1
    exact k cq H3 bd R3 qu
   |rt v=>
    cases e1
    exact k cq H3 bd R3 qu
   |ex c=>
    cases e1
    exact k cq H3 bd R3 qu
theorem pG{t:T}{ts:List T}(e:liT C t=some ts):stays t ts C:=by
 cases t with
 |cell c=>exact e
 |_=>trivial
theorem aBA{Z:Addr->Prop}{σ:St}{t:T}{ts:List T}{a:Addr}(R1:Rel K H₀ Z af τ C σ H1)(h1:RT K (mask H1 Z af) af t (.ref a))(e2:liT C t=some ts):
 Wlk K (Itl K a) Z H1 af ts (stays t ts):=by
 have there:∀{H₀:Hp}{Z':Addr->Prop}{ae:Rho}{ag:TSt}{C':Sto}{σ:St}{H:Hp},Rel K H₀ Z' ae ag C' σ H->Same (mask H1 Z af) (mask H Z' ae)->(∀(c:Nat)(a:Addr),af[c]?=some a->ae[c]?=some a)->(stays t ts C'\/Same H1 H)->
  ∃ws,SqL K H a ws/\RTs K (mask H Z' ae) ae ts ws:=by
  intro H₀ Z' ae ag C' σ H R' sm ix ba;rcases ba with ba|ba
  ·have h2:=h1.mono sm ix;have e3:liT C' t=some ts:=by
    cases t with
    |cell c=>exact ba
    |lst us=>exact e2
    |_=>cases e2
   obtain⟨a',ws,im,q',r'⟩:=R'.li h2 e3;cases im
   exact⟨ws,q',r'⟩
  ·obtain⟨a',ws,im,q',r'⟩:=R1.li h1 e2;cases im
   exact⟨ws,ba.seq q',r'.mono sm ix⟩
 refine⟨fun i t' H₀ Z' ae ag C' σ H ht R' sm ix ba _=>?_,fun H₀ Z' ae ag C' σ H R' sm ix ba _=>?_⟩
 ·obtain⟨ws,q',r'⟩:=there R' sm ix ba;obtain⟨x,hx,rx⟩:=r'.get ht
  refine⟨⟨ws,x,q',hx⟩,fun y H' ⟨hy,z⟩=>?_⟩
  subst hy;have:=z ws q';rw[hx]at this;cases this
  exact⟨.refl _,rx⟩
 ·obtain⟨ws,q',r'⟩:=there R' sm ix ba
  exact⟨ws,q',by rw[r'.length];exact bG _⟩
noncomputable def uN(lo:Int)(n:Nat):List T:=(bL n).map fun(i:Nat)=>T.int (lo+(i:Int))
theorem tS{Z:Addr->Prop}{lo:Int}:Wlk K (Itr lo n) Z H1 af (uN lo n) (fun _=>True):=by
 refine⟨fun i t' H₀ Z' ae ag C' σ H ht R' sm ix ba _=>?_,fun H₀ Z' ae ag C' σ H R' sm ix ba _=>?_⟩
 ·unfold uN at ht;have hi:i<n:=by
   have:=(aR.mp ht).1;simpa using this
  rw[bM,dY hi]at ht;cases ht
  refine⟨hi,fun x H' ⟨h1,h2⟩=>?_⟩
  subst h1;rw[h2];exact⟨.refl _,.int⟩
 ·show n<=_;simp[uN]
theorem aNn(h:trS K W (oE f g F) D σ H):aHz (aGv K (trE K f)) (trG K g) (trS K W F) D σ H:=by
 obtain⟨H₀,Z,ρ,τ,C,fl,ag,C',R,e,k⟩:=h;unfold oE at e;obtain⟨⟨t,C1⟩,e1,e⟩:=aK.mp e;obtain⟨ts,e2,e⟩:=aK.mp e
 refine⟨H₀,Z,ρ,τ,C,t,C1,R,e1,fun v H1 af R1 h1 s1=>?_⟩
 obtain⟨a,vs,ev,q,r⟩:=R1.li h1 e2;subst ev
 exact⟨a,rfl,⟨vs,q⟩,vE R1 (pG e2) e (aBA R1 h1 e2) fun ai H' ae R' s'=>k ai H' ae R' (s1.ss.trans s')⟩
def fForR(lo:Int)(n:Nat)(g:FG)(F:FS):FS:=j9 (fun _=>True) g F (uN lo n)
def kA(f:FE)(g:FG)(F:FS):FS:=fun τ C=>(f τ C).bind fun p=>match p.1 with
 | .int j=>if -(2^62)<=j/\j<2^62 then fForR 0 j.toNat g F τ p.2 else none
 |_=>none
def o8(f1 f2:FE)(g:FG)(F:FS):FS:=fun τ C=>(f1 τ C).bind fun p=>(f2 τ p.2).bind fun q=>match p.1,q.1 with
 | .int i,.int j=>if -(2^62)<=i/\i<2^62/\ -(2^62)<=j/\j<2^62 then fForR i (j - i).toNat g F τ q.2 else none
 |_,_=>none
theorem aJV(h:trS K W (kA f g F) D σ H):aHz (aG0 (trA K (eU f fB))) (trG K g) (trS K W F) D σ H:=by
 obtain⟨H₀,Z,ρ,τ,C,fl,ag,C',R,e,k⟩:=h;unfold kA at e;obtain⟨⟨t,C1⟩,e1,e⟩:=aK.mp e
 refine⟨H₀,Z,ρ,τ,C,[t],C1,R,by simp[eU,fB,e1],fun vs H1 af R1 h1 s1=>?_⟩
 obtain⟨v,r,rfl,q1,q2⟩:=h1.cons_inv;rw[q2.nil_inv];dsimp only at e;split at e
 ·split at e
  ·rename_i hj
   exact⟨_,by rw[q1.int_inv],hj.1,hj.2,vE (P:=fun _=>True) R1 trivial e tS fun ai H' ae R' s'=>k ai H' ae R' (s1.ss.trans s')⟩
  ·cases e
 ·cases e
theorem aJo{f1 f2:FE}(h:trS K W (o8 f1 f2 g F) D σ H):aHz (iRng2 (trA K (eU f1 (eU f2 fB)))) (trG K g) (trS K W F) D σ H:=by
 obtain⟨H₀,Z,ρ,τ,C,fl,ag,C',R,e,k⟩:=h;unfold o8 at e;obtain⟨⟨t,C1⟩,e1,e⟩:=aK.mp e;obtain⟨⟨u,C2⟩,e2,e⟩:=aK.mp e
 refine⟨H₀,Z,ρ,τ,C,[t,u],C2,R,by simp[eU,fB,e1,e2],fun vs H1 af R1 h1 s1=>?_⟩
 obtain⟨v,r,rfl,q1,q2⟩:=h1.cons_inv;obtain⟨v',r',rfl,q3,q4⟩:=q2.cons_inv;rw[q4.nil_inv];dsimp only at e;split at e
 ·split at e
  ·rename_i hj
   exact⟨_,_,by rw[q1.int_inv,q3.int_inv],hj,vE (P:=fun _=>True) R1 trivial e tS fun ai H' ae R' s'=>k ai H' ae R' (s1.ss.trans s')⟩
  ·cases e
 ·cases e
def lH(c:FB)(F:FS):Nat->FS
 |0,_,_=>none
 |n+1,τ,C=>(c τ C).bind fun p=>if p.1=true then(F τ p.2).bind fun r=>match r with
  | (.nx,ap,C2)=>lH c F n ap C2
  | (.ct,ap,C2)=>lH c F n ap C2
  | (.bk,ap,C2)=>some (.nx,ap,C2)
  | (.rt v,ap,C2)=>some (.rt v,ap,C2)
  | (.ex v,ap,C2)=>some (.ex v,ap,C2)
  else some (.nx,τ,p.2)
theorem aJL(h:trS K W (lH c F n) D σ H):tWhile (trT K c) (trS K W F) D σ H:=by
 obtain⟨H₀,Z,ρ,τ,C,fl,ag,C',R,e,k⟩:=h
 refine⟨fun m cz H1=>∃af aq C1,Rel K H₀ Z af aq C1 cz H1/\SStep Z H H1 ρ af/\lH c F m aq C1=some (fl,ag,C'),⟨n,ρ,τ,C,R,.refl,e⟩,?_⟩
 rintro m cz H1 ⟨af,aq,C1,R1,s1,e1⟩;cases m with
 |zero=>cases e1
 |succ m=>
  unfold lH at e1;obtain⟨⟨b,C2⟩,e2,e1⟩:=aK.mp e1
  refine⟨H₀,Z,af,aq,C1,b,C2,R1,e2,fun H2 aw R2 s2=>?_⟩
  cases b with
  |false=>
   rw[if_neg (by simp)]at e1|-;cases e1
   exact k cz H2 aw R2 (s1.trans s2.ss)
  |true=>
   rw[if_pos rfl]at e1|-;obtain⟨⟨f3,fm,C3⟩,e3,e1⟩:=aK.mp e1
   refine⟨fun ai H'=>∃bd fm C3,Rel K H₀ Z bd fm C3 ai H'/\SStep Z H H' ρ bd/\lH c F m fm C3=some (fl,ag,C'),fun ai H' z=>⟨m,eK _,z⟩,?_⟩
   refine⟨H₀,Z,aw,aq,C2,f3,fm,C3,R2,e3,fun wu H4 jt R4 s4=>?_⟩
   cases f3 with
   |nx=>exact⟨jt,fm,C3,R4,(s1.trans s2.ss).trans s4,e1⟩
   |ct=>exact⟨jt,fm,C3,R4,(s1.trans s2.ss).trans s4,e1⟩
   |bk=>cases e1;exact k wu H4 jt R4 ((s1.trans s2.ss).trans s4)
   |rt v=>cases e1;exact k wu H4 jt R4 ((s1.trans s2.ss).trans s4)
   |ex c=>cases e1;exact k wu H4 jt R4 ((s1.trans s2.ss).trans s4)
end
section
variable {K:aO}{σ:St}{H:Hp}{Q:VK}
variable{M:Hp}{x y:V}{f fa fb fo:FE}{xs:List V}{d:FB}{D:Ends}
theorem aIy{ρ:Rho}{ts:List T}{vs:List V}{i:Int}{t:T}(h:RTs K M ρ ts vs)(e:atI ts i=some t):∃v,atI vs i=some v/\RT K M ρ t v:=by
 unfold atI at e|-;rw[h.length];cases q:ixN ts.length i with
 |none=>rw[q]at e;cases e
 |some j=>
  rw[q]at e
  exact h.get e
def gIx(t1 t2:T)(C:Sto):Option (T×Sto):=match t2 with
 | .int i=>(sqT C t1).bind fun ts=>(atI ts i).map fun t=>(t,C)
 |_=>none
theorem aOm(h:∃t1 t2,trV K σ [t1,t2] [x,y] (gIx t1 t2) H Q):rIx K x y H Q:=by
 obtain⟨t1,t2,H₀,Z,ρ,τ,C,t,C',R,r,e,k⟩:=h;obtain⟨_,_,z,r1,r⟩:=r.cons_inv;cases z;obtain⟨_,_,z,r2,r⟩:=r.cons_inv;cases z;unfold gIx at e;split at e
 ·obtain⟨ts,e1,e⟩:=aK.mp e;obtain⟨u,e2,e⟩:=aL.mp e;cases e;obtain⟨a,vs,ev,q,rr⟩:=R.sq r1 e1;obtain⟨v,h1,h2⟩:=aIy rr e2;have fin:=k v H ρ R h2 .refl;rcases q with q|q
  ·exact .inl ⟨a,vs,_,v,ev,r2.int_inv,q,h1,fin⟩
  ·exact .inr (.inl ⟨a,vs,_,v,ev,r2.int_inv,q,h1,fin⟩)
 ·cases e
abbrev FO:=TSt->Sto->Option (Option Int×Sto)
noncomputable def kF:FO:=fun _ C=>some (none,C)
noncomputable def m5(f:FE):FO:=fun τ C=>(f τ C).bind fun p=>match p.1 with
 | .int i=>some (some i,p.2)
 |_=>none
noncomputable def trO(K:aO)(f:FO):TO:=fun σ H Q=>∃H₀ Z ρ τ C o C',Rel K H₀ Z ρ τ C σ H/\f τ C=some (o,C')/\
 ∀H' ae,Rel K H₀ Z ae τ C' σ H'->Step H H' ρ ae->Q o H'
theorem aIa{Q:Option Int->Hp->Prop}(h:trO K kF σ H Q):tNoPart σ H Q:=by
 obtain⟨H₀,Z,ρ,τ,C,o,C',R,e,k⟩:=h;cases e
 exact k H ρ R .refl
theorem aL4{Q:Option Int->Hp->Prop}(h:trO K (m5 f) σ H Q):tPart (trE K f) σ H Q:=by
 obtain⟨H₀,Z,ρ,τ,C,o,C',R,e,k⟩:=h;unfold m5 at e;obtain⟨⟨t,C1⟩,e1,e⟩:=aK.mp e;dsimp only at e;split at e
 ·cases e
  exact⟨H₀,Z,ρ,τ,C,_,_,R,e1,fun v H1 af R1 h1 s1=>⟨_,h1.int_inv,k H1 af R1 s1⟩⟩
 ·cases e
def aCL(xs:List T)(lo hi:Option Int):List T:=(xs.drop (HT.sIx xs.length 0 lo)).take (HT.sIx xs.length xs.length hi - HT.sIx xs.length 0 lo)
theorem RTs.cut{ρ:Rho}{ts:List T}{vs:List V}(h:RTs K M ρ ts vs)(lo hi:Option Int):RTs K M ρ (aCL ts lo hi) (aFk vs lo hi):=by
 unfold aCL aFk;rw[h.length]
 exact(h.drop _).take _
def fSl(f:FE)(lo hi:FO):FN:=fun τ C=>(f τ C).bind fun p=>(lo τ p.2).bind fun q=>(hi τ q.2).bind fun r=>(liT r.2 p.1).map fun ts=>(aCL ts q.1 r.1,r.2)
theorem aOn{lo hi:FO}(h:trN K (fSl f lo hi) σ H Q):tSl (rSlL K) (trE K f) (trO K lo) (trO K hi) σ H Q:=by
 obtain⟨H₀,Z,ρ,τ,C,ts,C',R,e,k⟩:=h;unfold fSl at e;obtain⟨⟨t,C1⟩,e1,e⟩:=aK.mp e;obtain⟨⟨l,C2⟩,e2,e⟩:=aK.mp e;obtain⟨⟨u,C3⟩,e3,e⟩:=aK.mp e;obtain⟨us,e4,e⟩:=aL.mp e;cases e
 refine⟨H₀,Z,ρ,τ,C,t,C1,R,e1,fun v H1 af R1 h1 s1=>?_⟩
 refine⟨H₀,Z,af,τ,C1,l,C2,R1,e2,fun H2 aw R2 s2=>?_⟩
 refine⟨H₀,Z,aw,τ,C2,u,_,R2,e3,fun H3 bd R3 s3=>?_⟩
 obtain⟨a,vs,ev,q,r⟩:=R3.li ((h1.step s2).step s3) e4
 exact⟨a,vs,ev,q,fun p hp=>k p H3 bd _ R3 hp (r.cut l u) ((s1.trans s2).trans s3)⟩
def rCatL(K:aO):R2:=fun x y H Q=>∃l b xs zs,x=.ref l/\y=.ref b/\SqL K H l xs/\SqL K H b zs/\xs.length+zs.length<=lim/\∀p,H p=none->Q (.ref p) (upd H p (.lst (xs++zs)))
def aFD(t1 t2:T)(C:Sto):Option (List T):=(liT C t1).bind fun ts=>(liT C t2).bind fun us=>if ts.length+us.length<=lim then some (ts++us)else none
theorem aNH(h:∃t1 t2,trW K σ [t1,t2] [x,y] (aFD t1 t2) H Q):rCatL K x y H Q:=by
 obtain⟨t1,t2,H₀,Z,ρ,τ,C,us,R,r,e,k⟩:=h;obtain⟨_,_,z,r1,r⟩:=r.cons_inv;cases z;obtain⟨_,_,z,r2,r⟩:=r.cons_inv;cases z;unfold aFD at e;obtain⟨ts,e1,e⟩:=aK.mp e;obtain⟨ws,e2,e⟩:=aK.mp e;split at e
 ·rename_i hl;cases e;obtain⟨a,vs,ea,qa,ra⟩:=R.li r1 e1;obtain⟨b,zs,eb,qb,rb⟩:=R.li r2 e2
  exact⟨a,b,vs,zs,ea,eb,qa,qb,by rw[ra.length,rb.length];exact hl,fun p hp=>k p H ρ _ R hp (ra.append rb) .refl⟩
 ·cases e
def fU(fa:FN):FN:=uK fa fun ts _=>if ts.length<=lim then some ts else none
theorem aLu{fa:FN}(hz:lim<=sizeLine)(h:trN K (fU fa) σ H Q):tLst (trA K fa) σ H Q:=by
 obtain⟨H₀,Z,ρ,τ,C,ts,C',R,e,k⟩:=aIs h
 refine⟨H₀,Z,ρ,τ,C,ts,C',R,e,fun vs H1 af R1 h1 s1=>?_⟩
 obtain⟨us,jg,Z',ae,ag,C1,ws,R',r,e,k⟩:=k vs H1 af R1 h1 s1;split at e
 ·rename_i hl;cases e
  exact⟨by rw[r.length];exact cA hl hz,fun p hp=>k p H1 ae _ R' hp r .refl⟩
 ·cases e
def aEc(ts:List T)(C:Sto):Option (List T):=match ts with
 | [t]=>sqT C t
 |_=>none
theorem aMY(h:∃ts,trW K σ ts xs (aEc ts) H Q):∃p ys,xs=[.ref p]/\(SqL K H p ys\/SqT K H p ys)/\∀l,H l=none->Q (.ref l) (upd H l (.lst ys)):=by
 obtain⟨ts,H₀,Z,ρ,τ,C,us,R,r,e,k⟩:=h;unfold aEc at e;split at e
 ·obtain⟨v,_,rfl,r1,r⟩:=r.cons_inv;rw[r.nil_inv];obtain⟨a,vs,ea,qa,ra⟩:=R.sq r1 e
  exact⟨a,vs,by rw[ea],qa,fun p hp=>k p H ρ _ R hp ra .refl⟩
 ·cases e
def aFG(ts:List T)(C:Sto):Option (T×Sto):=match ts with
 | [t]=>(sqT C t).map fun us=>(.int us.length,C)
 |_=>none
theorem aNt(h:∃ts,trV K σ ts xs (aFG ts) H Q):∃p ys,xs=[.ref p]/\(SqL K H p ys\/SqT K H p ys)/\Q (.int ys.length) H:=by
 obtain⟨ts,H₀,Z,ρ,τ,C,t,C',R,r,e,k⟩:=h;unfold aFG at e;split at e
 ·obtain⟨v,_,rfl,r1,r⟩:=r.cons_inv;rw[r.nil_inv];obtain⟨us,e1,e⟩:=aL.mp e;cases e;obtain⟨a,vs,ea,qa,ra⟩:=R.sq r1 e1
  exact⟨a,vs,by rw[ea],qa,k _ H ρ R (by rw[ra.length];exact .int) .refl⟩
 ·cases e
noncomputable def ints?:List T->Option (List Int)
 | []=>some []
 | .int i::ts=>(ints? ts).map (i:: ·)
 |_::_=>none
noncomputable def bls?:List T->Option (List Bool)
 | []=>some []
 | .bl i::ts=>(bls? ts).map (i:: ·)
 |_::_=>none
theorem zJ{ρ:Rho}:∀{ts:List T}{vs:List V}{ns:List Int},RTs K M ρ ts vs->ints? ts=some ns->vs=ns.map V.int:=by
 intro ts;induction ts with
 |nil=>intro _ _ r e;cases e;rw[r.nil_inv];rfl
 |cons t ts ih=>
  intro _ _ r e;cases t with
  |int i=>
   obtain⟨v,vs,rfl,r1,r⟩:=r.cons_inv;obtain⟨ns,e1,rfl⟩:=aL.mp e;rw[aM,r1.int_inv,ih r e1]
  |_=>cases e
theorem aGC{ρ:Rho}:∀{ts:List T}{vs:List V}{ns:List Bool},RTs K M ρ ts vs->bls? ts=some ns->vs=ns.map V.bl:=by
 intro ts;induction ts with
 |nil=>intro _ _ r e;cases e;rw[r.nil_inv];rfl
 |cons t ts ih=>
  intro _ _ r e;cases t with
  |bl i=>
   obtain⟨v,vs,rfl,r1,r⟩:=r.cons_inv;obtain⟨ns,e1,rfl⟩:=aL.mp e;rw[aM,r1.bl_inv,ih r e1]
  |_=>cases e
theorem pZ(ns:List Int):ints? (ns.map T.int)=some ns:=by
 induction ns with
 |nil=>rfl
 |cons n ns ih=>simp[ints?,ih]
theorem aFW(ns:List Bool):bls? (ns.map T.bl)=some ns:=by
 induction ns with
 |nil=>rfl
 |cons n ns ih=>simp[bls?,ih]
def wJ(c:List Int->Bool)(f:List Int->Int)(ts:List T)(C:Sto):Option (T×Sto):=match ts with
 | [t]=>(liT C t).bind fun us=>(ints? us).bind fun ns=>if c ns=true then some (.int (f ns),C)else none
 |_=>none
def aBb(K:aO)(c:List Int->Bool)(f:List Int->Int):List V->Hp->VK->Prop:=fun xs H Q=>∃p ns,xs=[.ref p]/\SqL K H p (ns.map V.int)/\c ns=true/\Q (.int (f ns)) H
theorem aDg{c:List Int->Bool}{f:List Int->Int}(h:∃ts,trV K σ ts xs (wJ c f ts) H Q):aBb K c f xs H Q:=by
 obtain⟨ts,H₀,Z,ρ,τ,C,t,C',R,r,e,k⟩:=h;unfold wJ at e;split at e
 ·obtain⟨v,_,rfl,r1,r⟩:=r.cons_inv;rw[r.nil_inv];obtain⟨us,e1,e⟩:=aK.mp e;obtain⟨ns,e2,e⟩:=aK.mp e;split at e
  ·rename_i hc;cases e;obtain⟨a,vs,ea,qa,ra⟩:=R.li r1 e1;have:=zJ ra e2;subst this
   exact⟨a,ns,by rw[ea],qa,hc,k _ H ρ R .int .refl⟩
  ·cases e
 ·cases e
def aGO(f:List Bool->Bool)(ts:List T)(C:Sto):Option (T×Sto):=match ts with
 | [t]=>(liT C t).bind fun us=>(bls? us).map fun ns=>(.bl (f ns),C)
 |_=>none
def rBls(K:aO)(f:List Bool->Bool):List V->Hp->VK->Prop:=fun xs H Q=>∃p ns,xs=[.ref p]/\SqL K H p (ns.map V.bl)/\Q (.bl (f ns)) H
theorem aOa{f:List Bool->Bool}(h:∃ts,trV K σ ts xs (aGO f ts) H Q):rBls K f xs H Q:=by
 obtain⟨ts,H₀,Z,ρ,τ,C,t,C',R,r,e,k⟩:=h;unfold aGO at e;split at e
 ·obtain⟨v,_,rfl,r1,r⟩:=r.cons_inv;rw[r.nil_inv];obtain⟨us,e1,e⟩:=aK.mp e;obtain⟨ns,e2,e⟩:=aL.mp e;cases e;obtain⟨a,vs,ea,qa,ra⟩:=R.li r1 e1;have:=aGC ra e2;subst this
  exact⟨a,ns,by rw[ea],qa,k _ H ρ R .bl .refl⟩
 ·cases e
noncomputable def gI2(f:Int->Int->Int)(ts:List T)(C:Sto):Option (T×Sto):=match ts with
 | [.int i,.int j]=>some (.int (f i j),C)
 |_=>none
theorem aNy{f:Int->Int->Int}(h:∃ts,trV K σ ts xs (gI2 f ts) H Q):∃i j,xs=[.int i,.int j]/\Q (.int (f i j)) H:=by
 obtain⟨ts,H₀,Z,ρ,τ,C,t,C',R,r,e,k⟩:=h;unfold gI2 at e;split at e
 ·obtain⟨v,_,rfl,r1,r⟩:=r.cons_inv;obtain⟨w,_,rfl,r2,r⟩:=r.cons_inv;rw[r.nil_inv,r1.int_inv,r2.int_inv];cases e
  exact⟨_,_,rfl,k _ H ρ R .int .refl⟩
 ·cases e
def aMg(C:Sto):T->Option Bool
 | .non=>some false
 | .bl b=>some b
 | .int i=>some (i !=0)
 | .lst ts=>some (!ts.isEmpty)
 | .tup ts=>some (!ts.isEmpty)
 | .cell c=>(lc C c).map fun ts=> !ts.isEmpty
 | .str _=>none
 | .exc _=>none
def nY(f:FE):FB:=fun τ C=>(f τ C).bind fun p=>(aMg p.2 p.1).map fun b=>(b,p.2)
theorem qT{ρ:Rho}{ts:List T}{vs:List V}(h:RTs K M ρ ts vs):vs.isEmpty=ts.isEmpty:=by
 cases ts with
 |nil=>rw[h.nil_inv];rfl
 |cons t ts=>obtain⟨v,r,rfl,_⟩:=h.cons_inv;rfl
theorem aN1{Q:Bool->Hp->Prop}(h:trT K (nY f) σ H Q):trE K f σ H fun x H1=>∃k,aMi K x H1 k/\Q k H1:=by
 obtain⟨H₀,Z,ρ,τ,C,b,C',R,e,k⟩:=h;unfold nY at e;obtain⟨⟨t,C1⟩,e1,e⟩:=aK.mp e;obtain⟨b',e2,e⟩:=aL.mp e;cases e
 refine⟨H₀,Z,ρ,τ,C,t,_,R,e1,fun v H1 af R1 h1 s1=>⟨b,?_,k H1 af R1 s1⟩⟩
 dsimp only at e2 R1;cases t with
 |non=>rw[h1.non_inv];cases e2;rfl
 |bl c=>rw[h1.bl_inv];cases e2;rfl
 |int i=>rw[h1.int_inv];cases e2;rfl
 |str x=>cases e2
 |exc x=>cases e2
 |lst ts=>
  obtain⟨a,vs,ea,qa,ra⟩:=R1.li h1 rfl;rw[ea];cases e2
  exact .inl ⟨vs,qa,by rw[qT ra]⟩
 |tup ts=>
  unfold RT at h1;obtain⟨a,vs,ea,qa,ra⟩:=h1;rw[ea];cases e2
  exact .inr (.inl ⟨vs,SqT.msk (.of qa),by rw[qT ra]⟩)
 |cell c=>
  obtain⟨ts,e3,e2⟩:=aL.mp e2;obtain⟨a,vs,ea,qa,ra⟩:=R1.li h1 e3;rw[ea];cases e2
  exact .inl ⟨vs,qa,by rw[qT ra]⟩
noncomputable def iJ(f:FE):FB:=fun τ C=>(f τ C).bind fun p=>match p.1 with
 | .bl b=>some (b,p.2)
 |_=>none
theorem aHb{te:TE}{Q:Bool->Hp->Prop}(hi:∀σ H Q,trE K f σ H Q->te σ H Q)(h:trT K (iJ f) σ H Q):tTest te σ H Q:=by
 obtain⟨H₀,Z,ρ,τ,C,b,C',R,e,k⟩:=h;unfold iJ at e;obtain⟨⟨t,C1⟩,e1,e⟩:=aK.mp e;dsimp only at e;split at e
 ·cases e
  exact hi _ _ _ ⟨H₀,Z,ρ,τ,C,_,_,R,e1,fun v H1 af R1 h1 s1=>⟨_,h1.bl_inv,k H1 af R1 s1⟩⟩
 ·cases e
noncomputable def nU(c d:FB):FB:=fun τ C=>(c τ C).bind fun p=>if p.1=true then d τ p.2 else some (false,p.2)
noncomputable def aCA(c d:FB):FB:=fun τ C=>(c τ C).bind fun p=>if p.1=true then some (true,p.2)else d τ p.2
noncomputable def oU(c:FB):FB:=fun τ C=>(c τ C).map fun p=>(!p.1,p.2)
theorem aMH{c:FB}{Q:Bool->Hp->Prop}(h:trT K (nU c d) σ H Q):tAnd (trT K c) (trT K d) σ H Q:=by
 obtain⟨H₀,Z,ρ,τ,C,b,C',R,e,k⟩:=h;unfold nU at e;obtain⟨⟨b1,C1⟩,e1,e⟩:=aK.mp e
 refine⟨H₀,Z,ρ,τ,C,b1,C1,R,e1,fun H1 af R1 s1=>?_⟩
 cases b1 with
 |true=>
  rw[if_pos rfl]at e|-
  exact⟨H₀,Z,af,τ,C1,b,C',R1,e,fun H2 aw R2 s2=>k H2 aw R2 (s1.trans s2)⟩
 |false=>
  rw[if_neg (by simp)]at e|-;cases e
  exact k H1 af R1 s1
theorem aN2{c:FB}{Q:Bool->Hp->Prop}(h:trT K (aCA c d) σ H Q):tOr (trT K c) (trT K d) σ H Q:=by
 obtain⟨H₀,Z,ρ,τ,C,b,C',R,e,k⟩:=h;unfold aCA at e;obtain⟨⟨b1,C1⟩,e1,e⟩:=aK.mp e
 refine⟨H₀,Z,ρ,τ,C,b1,C1,R,e1,fun H1 af R1 s1=>?_⟩
 cases b1 with
 |false=>
  rw[if_neg (by simp)]at e|-
  exact⟨H₀,Z,af,τ,C1,b,C',R1,e,fun H2 aw R2 s2=>k H2 aw R2 (s1.trans s2)⟩
 |true=>
  rw[if_pos rfl]at e|-;cases e
  exact k H1 af R1 s1
theorem aLZ{c:FB}{Q:Bool->Hp->Prop}(h:trT K (oU c) σ H Q):tNot (trT K c) σ H Q:=by
 obtain⟨H₀,Z,ρ,τ,C,b,C',R,e,k⟩:=h;unfold oU at e;obtain⟨⟨b1,C1⟩,e1,e⟩:=aL.mp e;cases e
 exact⟨H₀,Z,ρ,τ,C,b1,_,R,e1,fun H1 af R1 s1=>k H1 af R1 s1⟩
noncomputable def uF(fa fb:FE):FE:=fun τ C=>(fa τ C).bind fun p=>match p.1 with
 | .bl true=>fb τ p.2
 | .bl false=>some (.bl false,p.2)
 |_=>none
noncomputable def y6(fa:FE):FE:=fun τ C=>(fa τ C).bind fun p=>match p.1 with
 | .bl b=>some (.bl (!b),p.2)
 |_=>none
theorem aLs(h:trE K (uF fa fb) σ H Q):tAndV (trE K fa) (trE K fb) σ H Q:=by
 obtain⟨H₀,Z,ρ,τ,C,t,C',R,e,k⟩:=h;unfold uF at e;obtain⟨⟨t1,C1⟩,e1,e⟩:=aK.mp e
 refine⟨H₀,Z,ρ,τ,C,t1,C1,R,e1,fun v H1 af R1 h1 s1=>?_⟩
 dsimp only at e;split at e
 ·refine⟨true,h1.bl_inv,?_⟩
  rw[if_pos rfl]
  exact⟨H₀,Z,af,τ,C1,t,C',R1,e,fun v H2 aw R2 h2 s2=>k v H2 aw R2 h2 (s1.trans s2)⟩
 ·refine⟨false,h1.bl_inv,?_⟩
  rw[if_neg (by simp)];cases e
  exact k _ H1 af R1 .bl s1
 ·cases e
theorem aNi(h:trE K (y6 fa) σ H Q):tNotV (trE K fa) σ H Q:=by
 obtain⟨H₀,Z,ρ,τ,C,t,C',R,e,k⟩:=h;unfold y6 at e;obtain⟨⟨t1,C1⟩,e1,e⟩:=aK.mp e
 refine⟨H₀,Z,ρ,τ,C,t1,C1,R,e1,fun v H1 af R1 h1 s1=>?_⟩
 dsimp only at e;split at e
 ·cases e
  exact⟨_,h1.bl_inv,k _ H1 af R1 .bl s1⟩
 ·cases e
noncomputable def aMV(c:FB)(fa fb:FE):FE:=fun τ C=>(c τ C).bind fun p=>if p.1=true then fa τ p.2 else fb τ p.2
noncomputable def tJ(fa fb fc:FE)(p q:Int->Int->Bool):FE:=fun τ C=>(fa τ C).bind fun x=>(fb τ x.2).bind fun y=>match x.1,y.1 with
 | .int i,.int j=>if p i j=true then(fc τ y.2).bind fun z=>match z.1 with
  | .int l=>some (.bl (q j l),z.2)
  |_=>none
   else some (.bl false,y.2)
 |_,_=>none
theorem aKd{fc:FE}{p q:Int->Int->Bool}(h:trE K (tJ fa fb fc p q) σ H Q):
 tChain (fun x y H Q=>∃i j,x=.int i/\y=.int j/\Q (.bl (p i j)) H) (fun x y H Q=>∃i j,x=.int i/\y=.int j/\Q (.bl (q i j)) H) (trE K fa) (trE K fb) (trE K fc) σ H Q:=by
 obtain⟨H₀,Z,ρ,τ,C,t,C',R,e,k⟩:=h;unfold tJ at e;obtain⟨⟨t1,C1⟩,e1,e⟩:=aK.mp e;obtain⟨⟨t2,C2⟩,e2,e⟩:=aK.mp e
 refine⟨H₀,Z,ρ,τ,C,t1,C1,R,e1,fun x H1 af R1 h1 s1=>?_⟩
 refine⟨H₀,Z,af,τ,C1,t2,C2,R1,e2,fun y H2 aw R2 h2 s2=>?_⟩
 dsimp only at e;split at e
 ·refine⟨_,_,h1.int_inv,h2.int_inv,_,rfl,?_⟩
  split at e
  ·rename_i hp;rw[if_pos hp];obtain⟨⟨t3,C3⟩,e3,e⟩:=aK.mp e
   refine⟨H₀,Z,aw,τ,C2,t3,C3,R2,e3,fun z H3 bd R3 h3 s3=>?_⟩
   dsimp only at e;split at e
   ·cases e
    exact⟨_,_,h2.int_inv,h3.int_inv,k _ H3 bd R3 .bl ((s1.trans s2).trans s3)⟩
   ·cases e
  ·rename_i hp;rw[if_neg hp];cases e
   exact k _ H2 aw R2 .bl (s1.trans s2)
 ·cases e
def oY(fe fo fi:FE):FS:=fun τ C=>(fe τ C).bind fun p=>(fo τ p.2).bind fun q=>(fi τ q.2).bind fun r=>match q.1,r.1 with
 | .cell c,.int i=>(lc r.2 c).bind fun ts=>(ixN ts.length i).map fun j=>(.nx,τ,r.2.set c (.l,ts.set j p.1))
 |_,_=>none
theorem aLT{fe fi:FE}(h:trS K W (oY fe fo fi) D σ H):aC8 (trE K fe) (gSub (trE K fo) (trE K fi) aFZ) D σ H:=by
 obtain⟨H₀,Z,ρ,τ,C,fl,ag,C',R,e,k⟩:=h;unfold oY at e;obtain⟨⟨t1,C1⟩,e1,e⟩:=aK.mp e;obtain⟨⟨t2,C2⟩,e2,e⟩:=aK.mp e;obtain⟨⟨t3,C3⟩,e3,e⟩:=aK.mp e
 refine⟨H₀,Z,ρ,τ,C,t1,C1,R,e1,fun x H1 af R1 h1 s1=>?_⟩
 refine⟨H₀,Z,af,τ,C1,t2,C2,R1,e2,fun y H2 aw R2 h2 s2=>?_⟩
 refine⟨H₀,Z,aw,τ,C2,t3,C3,R2,e3,fun z H3 bd R3 h3 s3=>?_⟩
 dsimp only at e;split at e
 ·obtain⟨ts,e4,e⟩:=aK.mp e;obtain⟨j,e5,e⟩:=aL.mp e;cases e;have h2':=h2.step s3;unfold RT at h2';obtain⟨a,ea,qa⟩:=h2';obtain⟨vs,c2,c3⟩:=R3.celL qa (gP.mp e4);obtain⟨w1,w2⟩:=R3.write qa (by rw[c2];trivial) (c3.set ((h1.step s2).step s3) j)
  exact⟨a,vs,_,j,ea,h3.int_inv,c2,by rw[c3.length];exact e5,k σ _ bd w1 (((s1.trans s2).trans s3).ss.trans w2)⟩
 ·cases e
def aFN(fo:FE)(fa:FN)(g:List T->List T->Option (List T)):FS:=fun τ C=>(fo τ C).bind fun p=>(fa τ p.2).bind fun q=>match p.1 with
 | .cell c=>(lc p.2 c).bind fun _=>(lc q.2 c).bind fun ts=>(g ts q.1).map fun us=>(.nx,τ,q.2.set c (.l,us))
 |_=>none
def aM0(g:List V->List V->Option (List V)):V->List V->Hp->VK->Prop:=fun x vs H Q=>∃l xs ys,x=.ref l/\H l=some (.lst xs)/\g xs vs=some ys/\Q .non (upd H l (.lst ys))
theorem aK5{fa:FN}{g:List T->List T->Option (List T)}{gv:List V->List V->Option (List V)}
 (hg:∀M ρ ts us ws vs xs,RTs K M ρ ts vs->RTs K M ρ us xs->g ts us=some ws->∃ys,gv vs xs=some ys/\RTs K M ρ ws ys)
 (h:trS K W (aFN fo fa g) D σ H):aHa (tBM K "list" (aM0 gv) (trE K fo) (trA K fa)) D σ H:=by
 obtain⟨H₀,Z,ρ,τ,C,fl,ag,C',R,e,k⟩:=h;unfold aFN at e;obtain⟨⟨t1,C1⟩,e1,e⟩:=aK.mp e;obtain⟨⟨t2,C2⟩,e2,e⟩:=aK.mp e
 refine⟨H₀,Z,ρ,τ,C,t1,C1,R,e1,fun x H1 af R1 h1 s1=>?_⟩
 dsimp only at e;split at e
 ·obtain⟨_,e3,e⟩:=aK.mp e;obtain⟨ts,e4,e⟩:=aK.mp e;obtain⟨us,e5,e⟩:=aL.mp e;cases e
  refine⟨?_,H₀,Z,af,τ,C1,t2,C2,R1,e2,fun xs H2 aw R2 h2 s2=>?_⟩
  ·have jf:=h1;unfold RT at jf;obtain⟨a,ea,qa⟩:=jf;obtain⟨vs,c2,c3⟩:=R1.celL qa (gP.mp e3);rw[ea]
   exact .inl ⟨rfl,vs,.of c2⟩
  ·have jf:=h1.step s2;unfold RT at jf;obtain⟨a,ea,qa⟩:=jf;obtain⟨vs,c2,c3⟩:=R2.celL qa (gP.mp e4);obtain⟨ys,y1,y2⟩:=hg _ _ _ _ _ _ _ c3 h2 e5;obtain⟨w1,w2⟩:=R2.write qa (by rw[c2];trivial) y2
   exact⟨a,vs,ys,ea,c2,y1,k σ _ aw w1 ((s1.trans s2).ss.trans w2)⟩
 ·cases e
end
mutual
def CF:T->Bool
 | .cell _=>false
 | .lst ts=>CFs ts
 | .tup ts=>CFs ts
 |_=>true
def CFs:List T->Bool
 | []=>true
 |t::ts=>CF t&&CFs ts
end
theorem aAV{ts:List T}:CFs ts=true↔∀t∈ts,CF t=true:=by
 induction ts with
 |nil=>simp[CFs]
 |cons t ts ih=>simp[CFs,ih]
section
variable {K:aO}{σ:St}{H:Hp}{Q:VK}
mutual
theorem RT.cf{M:Hp}{ρ ae:Rho}:∀{t:T}{v:V},CF t=true->RT K M ρ t v->RT K M ae t v
 | .non,_,_,h=>by unfold RT at*;exact h
 | .bl _,_,_,h=>by unfold RT at*;exact h
 | .int _,_,_,h=>by unfold RT at*;exact h
 | .str _,_,_,h=>by unfold RT at*;exact h
 | .exc _,_,_,h=>by unfold RT at*;exact h
 | .lst ts,v,c,h=>by
   unfold RT at*;obtain⟨a,vs,e,q,r⟩:=h
   exact⟨a,vs,e,q,RTs.cf (by unfold CF at c;exact c) r⟩
 | .tup ts,v,c,h=>by
   unfold RT at*;obtain⟨a,vs,e,q,r⟩:=h
   exact⟨a,vs,e,q,RTs.cf (by unfold CF at c;exact c) r⟩
 | .cell c,_,h,_=>by unfold CF at h;cases h
theorem RTs.cf{M:Hp}{ρ ae:Rho}:∀{ts:List T}{vs:List V},CFs ts=true->RTs K M ρ ts vs->RTs K M ae ts vs
 | [],_,_,h=>by unfold RTs at*;exact h
 |t::ts,vs,c,h=>by
  unfold CFs at c;rw[aOE]at c;unfold RTs at*;obtain⟨v,r,e,h1,h2⟩:=h
  exact⟨v,r,e,RT.cf c.1 h1,RTs.cf c.2 h2⟩
end
variable{H₀:Hp}{τ:TSt}{C:Sto}{neg:Bool}{x y:V}{n m k:Nat}{F:List T->Option T}{E:XK}{α:Type}{D:Addr}{is:List Nat}{g:FG}{tc:FB}{fe f:FE}
noncomputable def mapO(f:T->Option T):List T->Option (List T)
 | []=>some []
 |t::ts=>(f t).bind fun u=>(mapO f ts).map (u:: ·)
def dr:Nat->Sto->T->Option T
 |0,_,t=>if CF t=true then some t else none
 |n+1,C,.cell c=>(lc C c).bind fun ts=>(mapO (dr n C) ts).map T.lst
 |n+1,C,.lst ts=>if CFs ts=true then some (.lst ts)else(mapO (dr n C) ts).map T.lst
 |n+1,C,.tup ts=>if CFs ts=true then some (.tup ts)else(mapO (dr n C) ts).map T.tup
 |_+1,_,t=>if CF t=true then some t else none
theorem qB{Z:Addr->Prop}{ρ:Rho}:Same (mask H Z ρ) (mask H Z []):=fun a o h=>by
 obtain⟨h1,h2,h3⟩:=lI.mp h
 exact mG h1 (by simp) h3
theorem RTs.mapO{M M':Hp}{ρ ae:Rho}{f:T->Option T}(hf:∀t v t',RT K M ρ t v->f t=some t'->RT K M' ae t' v):∀{ts:List T}{vs:List V}{us:List T},RTs K M ρ ts vs->TL.mapO f ts=some us->RTs K M' ae us vs
 | [],_,_,h,e=>by cases e;rw[h.nil_inv];exact .nil
 |t::ts,_,us,h,e=>by
  obtain⟨v,r,rfl,h1,h2⟩:=h.cons_inv;unfold TL.mapO at e;obtain⟨u,e1,e⟩:=aK.mp e;obtain⟨us,e2,rfl⟩:=aL.mp e
  exact .cons (hf t v u h1 e1) (RTs.mapO hf h2 e2)
theorem Rel.dr{Z:Addr->Prop}{ρ:Rho}(R:Rel K H₀ Z ρ τ C σ H):∀(n:Nat)(t:T)(v:V)(t':T),RT K (mask H Z ρ) ρ t v->TL.dr n C t=some t'->RT K (mask H Z []) [] t' v:=by
 intro n;induction n with
 |zero=>
  intro t v t' h e;unfold TL.dr at e;split at e
  ·rename_i hc;cases e
   exact(h.cf hc).mono qB (fun c a z=>z)
  ·cases e
 |succ n ih=>
  intro t v t' h e;by_cases hc:∃c,t=.cell c
  ·obtain⟨c,rfl⟩:=hc;unfold TL.dr at e;obtain⟨ts,e1,e⟩:=aK.mp e;obtain⟨us,e2,rfl⟩:=aL.mp e;unfold RT at h;obtain⟨a,ea,qa⟩:=h;obtain⟨vs,c2,c3⟩:=R.celL qa (gP.mp e1);unfold RT
   exact⟨a,vs,ea,.of (mG (R.frs a (bD qa)).2 (by simp) c2),c3.mapO ih e2⟩
  ·have fin:CF t=true->t=t'->RT K (mask H Z []) [] t' v:=fun hc z=>by
    subst z
    exact(h.cf hc).mono qB (fun c a z=>z)
   have jp:∀{p:Bool}{u:T},(if p=true then some u else none)=some t'->p=true/\u=t':=fun {p u} z=>by
    cases p with
    |true=>exact⟨rfl,cH.inj z⟩
    |false=>cases z
   cases t with
   |cell c=>exact absurd ⟨c,rfl⟩ hc
   |lst ts=>
    unfold TL.dr at e;split at e
    ·rename_i hc
     exact fin (by unfold CF;exact hc) (cH.inj e)
    ·obtain⟨us,e2,rfl⟩:=aL.mp e;unfold RT at h;obtain⟨a,vs,ea,qa,ra⟩:=h;unfold RT
     exact⟨a,vs,ea,qB.seq qa,ra.mapO ih e2⟩
   |tup ts=>
    unfold TL.dr at e;split at e
    ·rename_i hc
     exact fin (by unfold CF;exact hc) (cH.inj e)
    ·obtain⟨us,e2,rfl⟩:=aL.mp e;unfold RT at h;obtain⟨a,vs,ea,qa,ra⟩:=h;unfold RT
     exact⟨a,vs,ea,qB _ _ qa,ra.mapO ih e2⟩
   |non=>exact fin (jp e).1 (jp e).2
   |bl _=>exact fin (jp e).1 (jp e).2
   |int _=>exact fin (jp e).1 (jp e).2
   |str _=>exact fin (jp e).1 (jp e).2
   |exc _=>exact fin (jp e).1 (jp e).2
noncomputable def eqF:T->T->Option Bool
 | .bl a,.bl b=>some (a==b)
 | .int a,.int b=>some (a==b)
 | .str a,.str b=>some (a==b)
 |_,_=>none
noncomputable def eqL(e:T->T->Option Bool):List T->List T->Option Bool
 | [],[]=>some true
 |x::xs,y::ys=>(e x y).bind fun a=>(eqL e xs ys).map fun b=>a&&b
 |_,_=>none
def eqT:Nat->T->T->Option Bool
 |n+1,.lst xs,.lst ys=>if xs.length=ys.length then eqL (eqT n) xs ys else some false
 |_,a,b=>eqF a b
def aLH(K:aO)(neg:Bool):R2:=fun x y H Q=>∃t1 t2 b,RT K H [] t1 x/\RT K H [] t2 y/\eqT 5 t1 t2=some b/\Q (.bl (if neg then !b else b)) H
def gEq(neg:Bool)(t1 t2:T)(C:Sto):Option (T×Sto):=(dr 3 C t1).bind fun u1=>(dr 3 C t2).bind fun u2=>(eqT 5 u1 u2).map fun b=>(.bl (if neg then !b else b),C)
theorem aMv(h:∃t1 t2,trV K σ [t1,t2] [x,y] (gEq neg t1 t2) H Q):aLH K neg x y H Q:=by
 obtain⟨t1,t2,H₀,Z,ρ,τ,C,t,C',R,r,e,k⟩:=h;obtain⟨_,_,z,r1,r⟩:=r.cons_inv;cases z;obtain⟨_,_,z,r2,r⟩:=r.cons_inv;cases z;unfold gEq at e;obtain⟨u1,e1,e⟩:=aK.mp e;obtain⟨u2,e2,e⟩:=aK.mp e;obtain⟨b,e3,e⟩:=aL.mp e;cases e
 exact⟨u1,u2,b,(R.dr _ _ _ _ r1 e1).mono nH (fun c a z=>z),(R.dr _ _ _ _ r2 e2).mono nH (fun c a z=>z),e3,k _ H ρ R .bl .refl⟩
noncomputable def inL(e:T->Option Bool):List T->Option Bool
 | []=>some false
 |x::xs=>(e x).bind fun a=>(inL e xs).map fun b=>a||b
def aL0(K:aO)(neg:Bool):R2:=fun x y H Q=>∃t p vs ts b,RT K H [] t x/\y=.ref p/\SqL K H p vs/\RTs K H [] ts vs/\inL (fun u=>eqT 5 u t) ts=some b/\Q (.bl (if neg then !b else b)) H
def gIn(neg:Bool)(t1 t2:T)(C:Sto):Option (T×Sto):=(dr 3 C t1).bind fun u1=>(liT C t2).bind fun ts=>(mapO (dr 3 C) ts).bind fun us=>(inL (fun u=>eqT 5 u u1) us).map fun b=>(.bl (if neg then !b else b),C)
theorem aMp(h:∃t1 t2,trV K σ [t1,t2] [x,y] (gIn neg t1 t2) H Q):aL0 K neg x y H Q:=by
 obtain⟨t1,t2,H₀,Z,ρ,τ,C,t,C',R,r,e,k⟩:=h;obtain⟨_,_,z,r1,r⟩:=r.cons_inv;cases z;obtain⟨_,_,z,r2,r⟩:=r.cons_inv;cases z;unfold gIn at e;obtain⟨u1,e1,e⟩:=aK.mp e;obtain⟨ts,e2,e⟩:=aK.mp e;obtain⟨us,e4,e⟩:=aK.mp e;obtain⟨b,e3,e⟩:=aL.mp e;cases e;obtain⟨a,vs,ea,qa,ra⟩:=R.li r2 e2
 exact⟨u1,a,vs,us,b,(R.dr _ _ _ _ r1 e1).mono nH (fun c a z=>z),ea,qa,ra.mapO (fun t v t' h e=>(R.dr _ _ _ _ h e).mono nH (fun c a z=>z)) e4,e3,k _ H ρ R .bl .refl⟩
def spT(K:aO)(n:Nat)(F:List T->Option T):Sp:=fun vs H Q _=>∃Z ts t,ts.length=n/\(∀a,Z a->NT (H a))/\RTs K (mask H Z []) [] ts vs/\F ts=some t/\
 ∀v H',Same H H'->RT K (mask H' Z []) [] t v->Q v H'
theorem gE:∀vs H Q E,spT K n F vs H Q E->vs.length=n:=fun vs H Q E zz=>by obtain⟨Z,ts,t,h,_,r,_⟩:=zz;rw[r.length,h]
noncomputable def sca:T->Bool
 | .non=>true
 | .bl _=>true
 | .int _=>true
 | .str _=>true
 |_=>false
theorem RT.sca{M M':Hp}{ρ ae:Rho}{t:T}{v:V}(hs:TL.sca t=true)(h:RT K M ρ t v):RT K M' ae t v:=by
 cases t with
 |non=>unfold RT at*;exact h
 |bl _=>unfold RT at*;exact h
 |int _=>unfold RT at*;exact h
 |str _=>unfold RT at*;exact h
 |_=>cases hs
def gY(n:Nat)(F:List T->Option T)(ts:List T)(C:Sto):Option (T×Sto):=if ts.length=n then
 if CFs ts=true then(F ts).map fun t=>(t,C)
 else(mapO (dr 3 C) ts).bind fun us=>(F us).bind fun t=>if sca t=true then some (t,C)else none
 else none
theorem aAr{Z:Addr->Prop}{ρ:Rho}:mask H (fun a=>Z a\/a∈ρ) []=mask H Z ρ:=by
 funext a;unfold mask;by_cases h:Z a\/a∈ρ
 ·rw[if_pos (.inl h),if_pos h]
 ·rw[if_neg (by rintro(z|z);·exact h z
                ·cases z),if_neg h]
theorem aCt{f:T->Option T}:∀{ts us:List T},mapO f ts=some us->us.length=ts.length
 | [],_,e=>by cases e;rfl
 |t::ts,us,e=>by
  unfold mapO at e;obtain⟨u,e1,e⟩:=aK.mp e;obtain⟨us,e2,rfl⟩:=aL.mp e;simp[aCt e2]
theorem Rel.cel_some{Z:Addr->Prop}{ρ:Rho}(R:Rel K H₀ Z ρ τ C σ H){a:Addr}(ha:a∈ρ):NT (H a):=by
 obtain⟨c,hc⟩:=bT.mp ha;obtain⟨_,_,_,_,h,hb,_⟩:=R.cel c a hc;rw[h];exact hb.nt
theorem aMR{vs:List V}(h:∃ts,trV K σ ts vs (gY n F ts) H Q):spT K n F vs H Q E:=by
 obtain⟨ts,H₀,Z,ρ,τ,C,t,C',R,r,e,k⟩:=h;unfold gY at e;split at e
 ·rename_i hn;split at e
  ·rename_i hc;obtain⟨u,e1,e⟩:=aL.mp e;cases e
   refine⟨fun a=>Z a\/a∈ρ,ts,_,hn,fun a z=>?_,by rw[aAr];exact r.cf hc,e1,fun v H' sm rv=>?_⟩
   ·rcases z with z|z
    ·exact R.zd a z
    ·exact R.cel_some z
   ·obtain⟨R',st⟩:=R.same sm;rw[aAr]at rv
    exact k v H' ρ R' (rv.mono (.refl _) (fun c a z=>by cases z)) st
  ·obtain⟨us,e1,e⟩:=aK.mp e;obtain⟨u,e2,e⟩:=aK.mp e;split at e
   ·rename_i hs;cases e
    refine⟨Z,us,_,(aCt e1).trans hn,R.zd,r.mapO (fun t v t' h e=>R.dr _ _ _ _ h e) e1,e2,fun v H' sm rv=>?_⟩
    obtain⟨R',st⟩:=R.same sm
    exact k v H' ρ R' (rv.sca hs) st
   ·cases e
 ·cases e
noncomputable def st0(m:Nat)(ts:List T):TSt:=ts.map some++aS (m - ts.length) none
theorem Rel.start{Z:Addr->Prop}{ts:List T}{vs:List V}(hz:∀a,Z a->NT (H a))(h:RTs K (mask H Z []) [] ts vs):
 Rel K H Z [] (st0 m ts) [] (vs.map some++aS (m - vs.length) none) H:=by
 refine⟨.refl _,(fun a ha=>nomatch ha),aP7,hz,fun i t e=>?_,(fun c a e=>nomatch e),rfl,by simp[st0,h.length]⟩
 unfold st0 at e;have hi:i<ts.length:=by
  by_cases hi:i<ts.length
  ·exact hi
  ·rw[bH (by simpa using hi),cS]at e;split at e<;>cases e
 rw[aY (by simpa using hi),bM]at e;cases q:ts[i]?with
 |none=>rw[q]at e;cases e
 |some u=>
  rw[q]at e;cases e;obtain⟨v,h1,h2⟩:=h.get q
  refine⟨v,?_,h2⟩
  rw[aY (by simpa[h.length]using hi),bM,h1];rfl
def EndT(t:T):Fl×TSt×Sto->Prop
 | (.rt r,_,C)=>dr 3 C r=some t
 | (.nx,_,_)=>t=.non
 |_=>False
theorem hW{G:List T->Option T}{F:FS}{vs:List V}(hG:∀ts t,ts.length=n->G ts=some t->∃r,F (st0 m ts) []=some r/\EndT t r)(h:spT K n G vs H Q E):
 trS K W F {nx:=fun _ H'=>Q .non H',rt:=Q} (vs.map some++aS (m - vs.length) none) H:=by
 obtain⟨Z,ts,t,hn,hz,r,e,k⟩:=h;obtain⟨⟨fl,ag,C'⟩,e1,e2⟩:=hG ts t hn e
 refine⟨H,Z,[],st0 m ts,[],fl,ag,C',Rel.start hz r,e1,fun ai H' ae R' _=>?_⟩
 cases fl with
 |nx=>
  have:t=.non:=e2;subst this
  exact k .non H' R'.old .non
 |bk=>exact False.elim e2
 |ct=>exact False.elim e2
 |rt u=>exact fun v hv=>k v H' R'.old (R'.dr _ _ _ _ hv e2)
 |ex c=>exact False.elim e2
def aAc(wi:TI)(sc:St->St)(g:TG)(tc:TT)(te:TE):TE:=fun σ H Q=>wi σ H fun J H1=>∀D,H1 D=none->∃W:Nat->Nat->St->Hp->Prop,(∃m,W 0 m (sc σ) (upd H1 D (.lst [])))/\∀i m gm H,W i m gm H->
 (J.stop i H/\Q (.ref D) H)\/(J.go i H/\∀x H',J.yld i H x H'->g x gm H' fun br H2=>tc br H2 fun b H3=>
  if b=true then te br H3 fun y H4=>∃ys m',H4 D=some (.lst ys)/\ys.length<lim/\m'<m/\W (i+1) m' br (upd H4 D (.lst (ys++[y])))else∃m',m'<m/\W (i+1) m' br H3)
open Classical in
noncomputable def kp{α:Type}(C D:Sto)(x:Option α):Option α:=if C<+:D then x else none
theorem aKQ{D:Sto}{x:Option α}(h:C<+:D):kp C D x=x:=if_pos h
theorem aDB{x:Option α}:kp C C x=x:=aKQ (List.prefix_refl _)
theorem aDI{D:Sto}{x:Option α}{y:α}(h:kp C D x=some y):C<+:D/\x=some y:=by
 unfold kp at h;split at h
 ·exact⟨by assumption,h⟩
 ·cases h
def jR(g:FG)(tc:FB)(fe:FE)(τ:TSt):List T->Sto->Option (List T×Sto)
 | [],C=>some ([],C)
 |t::ts,C=>(g t C τ).bind fun aq=>(tc aq C).bind fun b=>if b.1=true then(fe aq b.2).bind fun y=>kp C y.2 ((jR g tc fe τ ts y.2).map fun r=>(y.1::r.1,r.2))else kp C b.2 (jR g tc fe τ ts b.2)
noncomputable def scT(k:Nat)(is:List Nat)(τ:TSt):TSt:=aS k none++is.map fun i=>(τ[i]?).getD none
noncomputable def scV(k:Nat)(is:List Nat)(σ:St):St:=aS k none++is.map fun i=>(σ[i]?).getD none
def Own(k:Nat)(g:FG):Prop:=∀t C τ aq,g t C τ=some aq->aq.length=τ.length/\∀j,k<=j->aq[j]?=τ[j]?
theorem Rel.writeZ{Z:Addr->Prop}{ρ:Rho}{o:HO}(R:Rel K H₀ Z ρ τ C σ H)(hz:Z D)(h0:H₀ D=none)(ho:NT (some o)):Rel K H₀ Z ρ τ C σ (upd H D o)/\mask (upd H D o) Z ρ=mask H Z ρ:=by
 have em:mask (upd H D o) Z ρ=mask H Z ρ:=by
  funext b;unfold mask;split
  ·rfl
  ·rename_i q;rw[fK (by rintro rfl;exact q (.inl hz))]
 refine⟨⟨fun b u q=>?_,R.frs,R.nd,fun b z=>?_,fun i t e=>?_,fun d b e=>?_,R.len,R.lnt⟩,em⟩
 ·rw[fK (by rintro rfl;rw[h0]at q;cases q)]
  exact R.old b u q
 ·by_cases hb:b=D
  ·subst hb;rw[iY];exact ho
  ·rw[fK hb];exact R.zd b z
 ·rw[em];exact R.loc i t e
 ·rw[em];obtain⟨us,ws,ob,h1,h2,h4,h3⟩:=R.cel d b e
  refine⟨us,ws,ob,h1,?_,h4,h3⟩
  rw[fK]
  ·exact h2
  ·rintro rfl
   exact(R.frs b (bD e)).2 hz
theorem aBU{aq:TSt}(hl:aq.length=(scT k is τ).length)(h:∀j,k<=j->aq[j]?=(scT k is τ)[j]?):∀(i:Nat) t,(scT k is τ)[i]?=some (some t)->aq[i]?=some (some t):=fun i t e=>by
 by_cases hi:i<k
 ·unfold scT at e;rw[aY (by simpa using hi),cS,if_pos hi]at e;cases e
 ·rw[h i (by lia)];exact e
theorem sI{J:It}{Z:Addr->Prop}{ρ:Rho}{C':Sto}{P:Sto->Prop}{ts ys:List T}{H1:Hp}
 (R:Rel K H₀ Z ρ τ C σ H1)(hg:Own k g)(w:Wlk K J Z H1 ρ ts P)(hP:P C)(hPm:∀C C2:Sto,C<+:C2->P C->P C2)(hl:ts.length<lim)(e:jR g tc fe (scT k is τ) ts C=some (ys,C'))(hD:H1 D=none)
 (q:∀p H' ae vs,Rel K H₀ Z ae τ C' σ H'->H' p=none->RTs K (mask H' Z ae) ae ys vs->Step H1 H' ρ ae->Q (.ref p) (upd H' p (.lst vs))):
 ∃W:Nat->Nat->St->Hp->Prop,(∃m,W 0 m (scV k is σ) (upd H1 D (.lst [])))/\∀i m gm H,W i m gm H->
  (J.stop i H/\Q (.ref D) H)\/(J.go i H/\∀x H',J.yld i H x H'->trG K g x gm H' fun br H2=>trT K tc br H2 fun b H3=>
   if b=true then trE K fe br H3 fun y H4=>∃ys m',H4 D=some (.lst ys)/\ys.length<lim/\m'<m/\W (i+1) m' br (upd H4 D (.lst (ys++[y])))else∃m',m'<m/\W (i+1) m' br H3):=by
 obtain⟨nz,nr,n0⟩:=R.fresh_not hD;have hZD:∀a,Z a->a≠D:=fun a z h=>by subst h;exact nz z
 refine⟨fun i m gm H=>∃ae C1 done rest vs,m=rest.length/\ts.drop i=rest/\i<=ts.length/\done.length<=i/\Rel K H₀ (fun a=>Z a\/a=D) ae (scT k is τ) C1 gm H/\H D=some (.lst vs)/\
  RTs K (mask H (fun a=>Z a\/a=D) ae) ae done vs/\Step H1 H ρ ae/\P C1/\∃yr,jR g tc fe (scT k is τ) rest C1=some (yr,C')/\ys=done++yr,?_,?_⟩
 ·refine⟨ts.length,ρ,C,[],ts,[],rfl,rfl,d3 _,bG _,?_,iY,.nil,?_,hP,ys,e,rfl⟩
  ·have sm:Same (mask H1 Z ρ) (mask (upd H1 D (.lst [])) (fun a=>Z a\/a=D) ρ):=fun a o z=>by
    obtain⟨h1,h2,h3⟩:=lI.mp z;have ne:a≠D:=fun z=>by rw[z,hD]at h3;cases h3
    exact mG (by rintro(z|z);·exact h1 z
                 ·exact ne z) h2 (by rw[fK ne];exact h3)
   refine⟨fun b o z=>?_,fun a ha=>⟨(R.frs a ha).1,?_⟩,R.nd,fun a z=>?_,fun i t z=>?_,fun c a z=>?_,R.len,by simp[scT,scV]⟩
   ·rw[fK (by rintro rfl;rw[n0]at z;cases z)]
    exact R.old b o z
   ·rintro(z|z)
    ·exact(R.frs a ha).2 z
    ·subst z;exact nr ha
   ·by_cases ha:a=D
    ·subst ha;rw[iY];trivial
    ·rw[fK ha];rcases z with z|z
     ·exact R.zd a z
     ·exact absurd z ha
   ·unfold scT at z;by_cases hi:i<k
    ·rw[aY (by simpa using hi),cS,if_pos hi]at z;cases z
    ·rw[bH (by simpa using aOX hi),bM]at z;obtain⟨j,hj,z⟩:=aL.mp z;have oj:τ[j]?=some (some t):=by
      cases q:τ[j]?with
      |none=>rw[q]at z;cases z
      |some u=>rw[q]at z;exact congrArg some z
     obtain⟨v,h1,h2⟩:=R.loc j t oj
     refine⟨v,?_,h2.mono sm (fun c a z=>z)⟩
     unfold scV;rw[bH (by simpa using aOX hi),bM];simp only[aOz]at hj|-;rw[hj];simp[h1]
   ·obtain⟨us,vs,ob,h1,h2,h4,h3⟩:=R.cel c a z
    refine⟨us,vs,ob,h1,?_,h4,h3.mono sm (fun c a z=>z)⟩
    rw[fK (by rintro rfl;rw[hD]at h2;cases h2)]
    exact h2
  ·exact .of0 fun b o z=>by
    rw[fK (by rintro rfl;rw[hD]at z;cases z)]
    exact z
 ·rintro i m gm H ⟨ae,C1,done,rest,vs,rfl,hd,hi,hdl,R1,ze,rd,gn,nb,yr,e1,xw⟩;have ix:∀(c:Nat)(a:Addr),ρ[c]?=some a->ae[c]?=some a:=gn.idx;have smm:Same (mask H1 Z ρ) (mask H (fun a=>Z a\/a=D) ae):=fun a o z=>by
   obtain⟨h1,h2,h3⟩:=lI.mp z;have ne:a≠D:=fun z=>by rw[z,hD]at h3;cases h3
   refine mG (by rintro(z|z);·exact h1 z
                 ·exact ne z) (gn.kept a o h3 h2).1 (gn.kept a o h3 h2).2
  cases rest with
  |nil=>
   have ei:i=ts.length:=by
    have:ts.length<=i:=by simpa using hd
    lia
   subst ei;cases e1
   refine .inl ⟨w.stop _ _ _ _ _ _ _ R1 smm ix (.inl nb) gn.fz,?_⟩
   have hm:mask (fun b=>if b=D then none else H b) Z ae=mask H (fun a=>Z a\/a=D) ae:=by
    funext a;unfold mask;by_cases ha:a=D
    ·subst ha;rw[if_pos (show(Z a\/a=a)\/a∈ae from .inl (.inr rfl))];split
     ·rfl
     ·exact if_pos rfl
    ·by_cases hz:Z a\/a∈ae
     ·rw[if_pos hz,if_pos (by rcases hz with z|z;·exact .inl (.inl z)
                              ·exact .inr z)]
     ·rw[if_neg hz,if_neg (by rintro((z|z)|z);·exact hz (.inl z)
                              ·exact ha z
                              ·exact hz (.inr z))]
      exact if_neg ha
   have hu:upd (fun b=>if b=D then none else H b) D (.lst vs)=H:=by
    funext b;unfold upd;by_cases hb:b=D
    ·subst hb;rw[if_pos rfl,ze]
    ·rw[if_neg hb];exact if_neg hb
   have st:Step H1 (fun b=>if b=D then none else H b) ρ ae:=⟨fun b o z n=>⟨(gn.kept b o z n).1,by
    show(if b=D then none else H b)=some o;rw[if_neg (by rintro rfl;rw[hD]at z;cases z)]
    exact(gn.kept b o z n).2⟩,gn.pre,fun b ob u z=>by
    show(if b=D then none else H b)=_;rw[if_neg (by rintro rfl;rw[hD]at z;cases z)]
    exact gn.fz b ob u z⟩
   have R2:Rel K H₀ Z ae τ C' σ (fun b=>if b=D then none else H b):=by
    refine⟨fun b o z=>by
     show(if b=D then none else H b)=some o;rw[if_neg (by rintro rfl;rw[n0]at z;cases z)]
     exact R1.old b o z,fun a ha=>⟨(R1.frs a ha).1,fun z=>(R1.frs a ha).2 (.inl z)⟩,R1.nd,fun a z=>(by
     show NT (if a=D then none else H a);rw[if_neg (hZD a z)];exact R1.zd a (.inl z)),fun j t z=>?_,fun c a z=>?_,R1.len,R.lnt⟩
    ·obtain⟨v,h1,h2⟩:=R.loc j t z
     exact⟨v,h1,h2.step st⟩
    ·obtain⟨us,ws,ob,h1,h2,h4,h3⟩:=R1.cel c a z
     refine⟨us,ws,ob,h1,?_,h4,by rw[hm];exact h3⟩
     show(if a=D then none else H a)=_;rw[if_neg (fun z'=>(R1.frs a (bD z)).2 (.inr z'))]
     exact h2
   have fin:=q D (fun b=>if b=D then none else H b) ae vs R2 (if_pos rfl) (by rw[hm,xw,aV];exact rd) st;rw[hu]at fin
   exact fin
  |cons t rest=>
   have ht:ts[i]?=some t:=by
    have:=congrArg (fun l=>l[0]?) hd;simpa using this
   have bn:i<ts.length:=(aR.mp ht).1;have jm:ts.drop (i+1)=rest:=by
    have:=congrArg aQz hd;simpa using this
   obtain⟨g1,g2⟩:=w.go i t _ _ ae _ C1 gm H ht R1 smm ix (.inl nb) gn.fz
   refine .inr ⟨g1,fun x H' hy=>?_⟩
   obtain⟨smy,rx⟩:=g2 x H' hy;obtain⟨ux,ba⟩:=R1.same smy;unfold jR at e1;obtain⟨aq,eg,e1⟩:=aK.mp e1;obtain⟨⟨b,C2⟩,et,e1⟩:=aK.mp e1;obtain⟨o1,o2⟩:=hg _ _ _ _ eg
   refine⟨_,_,ae,_,C1,t,aq,ux,rx,eg,fun br R2=>?_⟩
   refine⟨_,_,ae,aq,C1,b,C2,R2,et,fun H3 bd R3 s3=>?_⟩
   have va:=ba.trans s3;have nD:D∉ae:=fun z=>(R1.frs D z).2 (.inr rfl)
   cases b with
   |false=>
    rw[if_neg (by simp)]at e1;obtain⟨yf,e1⟩:=aDI e1;dsimp only;rw[if_neg (by simp)]
    exact⟨rest.length,by simp,bd,C2,done,rest,vs,rfl,jm,bn,Nat.le_succ_of_le hdl,R3.weak (by rw[o1]) (aBU o1 o2),(va.kept _ _ ze nD).2,rd.step va,gn.trans va,hPm _ _ yf nb,yr,e1,xw⟩
   |true=>
    rw[if_pos rfl]at e1;dsimp only;rw[if_pos rfl];obtain⟨⟨ty,C3⟩,ee,e1⟩:=aK.mp e1;obtain⟨yf,e1⟩:=aDI e1;obtain⟨⟨yr',C4⟩,e3,e2⟩:=aL.mp e1;cases e2
    refine⟨_,_,bd,aq,C2,ty,C3,R3,ee,fun y H4 jt R4 hy4 s4=>?_⟩
    have ny:=va.trans s4;have rd4:=rd.step ny;obtain⟨R5,em⟩:=R4.writeZ (D:=D) (o:=.lst (vs++[y])) (.inr rfl) n0 trivial
    refine⟨vs,rest.length,(ny.kept _ _ ze nD).2,by rw[rd.length];lia,by simp,jt,C3,done++[ty],rest,vs++[y],rfl,jm,bn,by simp;lia,R5.weak (by rw[o1]) (aBU o1 o2),iY,?_,?_,hPm _ _ yf nb,yr',e3,by rw[xw];simp⟩
    ·rw[em]
     exact rd4.append (.cons hy4 .nil)
    ·exact⟨fun b o z n=>⟨((gn.trans ny).kept b o z n).1,by
      rw[fK (by rintro rfl;rw[hD]at z;cases z)]
      exact((gn.trans ny).kept b o z n).2⟩,(gn.trans ny).pre,fun b ob u z=>by
      rw[fK (by rintro rfl;rw[hD]at z;cases z)]
      exact(gn.trans ny).fz b ob u z⟩
theorem aNb{C2:Sto}{c:Nat}{ts:List T}(h:C<+:C2)(e:lc C c=some ts):lc C2 c=some ts:=by
 obtain⟨D,rfl⟩:=h;rw[gP]at e|-;rw[aY (aR.mp e).1];exact e
theorem tE{t:T}{ts:List T}(C C2:Sto)(h:C<+:C2)(e:stays t ts C):stays t ts C2:=by
 unfold stays at*;split
 ·exact aNb h e
 ·trivial
def jP(f:FE)(k:Nat)(is:List Nat)(g:FG)(tc:FB)(fe:FE):FN:=fun τ C=>(f τ C).bind fun p=>(liT p.2 p.1).bind fun ts=>if ts.length<lim then jR g tc fe (scT k is τ) ts p.2 else none
theorem aH3(hg:Own k g)(h:trN K (jP f k is g tc fe) σ H Q):aAc (aGv K (trE K f)) (scV k is) (trG K g) (trT K tc) (trE K fe) σ H Q:=by
 obtain⟨H₀,Z,ρ,τ,C,ys,C',R,e,q⟩:=h;unfold jP at e;obtain⟨⟨t,C1⟩,e1,e⟩:=aK.mp e;obtain⟨ts,e2,e⟩:=aK.mp e;split at e
 ·rename_i hl
  refine⟨H₀,Z,ρ,τ,C,t,C1,R,e1,fun v H1 af R1 h1 s1=>?_⟩
  obtain⟨a,vs,ev,qa,r⟩:=R1.li h1 e2;subst ev
  exact⟨a,rfl,⟨vs,qa⟩,fun D hD=>sI R1 hg (aBA R1 h1 e2) (pG e2) tE hl e hD fun p H' ae vs R' hp rv s'=>q p H' ae vs R' hp rv (s1.trans s')⟩
 ·cases e
def jO(f:FE)(k:Nat)(is:List Nat)(g:FG)(tc:FB)(fe:FE):FN:=fun τ C=>(f τ C).bind fun p=>match p.1 with
 | .int j=>if j<50000/\ -(2^62)<=j then jR g tc fe (scT k is τ) (uN 0 j.toNat) p.2 else none
 |_=>none
theorem vT(hg:Own k g)(h:trN K (jO f k is g tc fe) σ H Q):aAc (aG0 (trA K (eU f fB))) (scV k is) (trG K g) (trT K tc) (trE K fe) σ H Q:=by
 obtain⟨H₀,Z,ρ,τ,C,ys,C',R,e,q⟩:=h;unfold jO at e;obtain⟨⟨t,C1⟩,e1,e⟩:=aK.mp e;dsimp only at e;split at e
 ·split at e
  ·rename_i hj
   refine⟨H₀,Z,ρ,τ,C,_,C1,R,by simp[eU,fB,e1];rfl,fun vs H1 af R1 h1 s1=>?_⟩
   obtain⟨v,r,rfl,q1,q2⟩:=h1.cons_inv;rw[q2.nil_inv]
   refine⟨_,by rw[q1.int_inv],hj.2,by lia,fun D hD=>sI (P:=fun _=>True) R1 hg tS trivial (fun _ _ _ _=>trivial) (by simp[uN,lim];lia) e hD fun p H' ae vs R' hp rv s'=>q p H' ae vs R' hp rv (s1.trans s')⟩
  ·cases e
 ·cases e
theorem jB{i:Nat}(h:i<k):Own k (gN i):=fun t C τ aq e=>by
 cases e
 refine⟨by simp,fun j hj=>?_⟩
 rw[aU (by lia)]
theorem xP{k:Nat}:∀(is:List Nat)(ts:List T)(τ:TSt),(∀i∈is,i<k)->(setAll is ts τ).length=τ.length/\∀j,k<=j->(setAll is ts τ)[j]?=τ[j]?
 | [],_,_,_=>by simp[setAll]
 |i::is,[],_,_=>by simp[setAll]
 |i::is,t::ts,τ,h=>by
  obtain⟨h1,h2⟩:=xP (k:=k) is ts (τ.set i (some t)) (fun j hj=>h j (aZ _ hj));have hi:=h i bJ
  refine⟨by simp[setAll,h1],fun j hj=>?_⟩
  show(setAll is ts (τ.set i (some t)))[j]?=_;rw[h2 j hj,aU (by lia)]
theorem qR(h:∀i∈is,i<k):Own k (gU is):=fun t C τ aq e=>by
 unfold gU at e;obtain⟨ts,e1,e⟩:=aK.mp e;split at e
 ·cases e
  exact xP is ts τ h
 ·cases e
end
section
variable {K:aO}{σ:St}{H:Hp}
variable{Q:VK}{fa:FN}{fb:FE}{r:List V->Hp->VK->Prop}
theorem iM{f:FE}{Q':VK}(h:trE K f σ H Q)(hq:∀v H',Q v H'->Q' v H'):trE K f σ H Q':=by
 obtain⟨H₀,Z,ρ,τ,C,t,C',R,e,k⟩:=h
 exact⟨H₀,Z,ρ,τ,C,t,C',R,e,fun v H' ae a b c=>hq _ _ (k v H' ae a b c)⟩
theorem oX{f:FN}{Q Q':List V->Hp->Prop}(h:trA K f σ H Q)(hq:∀v H',Q v H'->Q' v H'):trA K f σ H Q':=by
 obtain⟨H₀,Z,ρ,τ,C,t,C',R,e,k⟩:=h
 exact⟨H₀,Z,ρ,τ,C,t,C',R,e,fun v H' ae a b c=>hq _ _ (k v H' ae a b c)⟩
theorem xW{fa:FE}{g:T->T->Sto->Option (T×Sto)}{r:R2}(ho:∀σ H Q x y,(∃t1 t2,trV K σ [t1,t2] [x,y] (g t1 t2) H Q)->r x y H Q)(h:trE K (iU fa fb g) σ H Q):tOp r (trE K fa) (trE K fb) σ H Q:=
 iM (aDN h) fun _ _ q=>iM q fun _ _ q=>ho _ _ _ _ _ q
theorem aN7{fa:FE}{g:T->T->Sto->Option (List T)}{r:R2}(ho:∀σ H Q x y,(∃t1 t2,trW K σ [t1,t2] [x,y] (g t1 t2) H Q)->r x y H Q)(h:trN K (vN fa fb g) σ H Q):tOp r (trE K fa) (trE K fb) σ H Q:=
 iM (aLh h) fun _ _ q=>iM q fun _ _ q=>ho _ _ _ _ _ q
theorem aNs{g:List T->Sto->Option (T×Sto)}(ho:∀σ H Q xs,(∃ts,trV K σ ts xs (g ts) H Q)->r xs H Q)(h:trE K (mX fa g) σ H Q):tCB r (trA K fa) σ H Q:=
 oX (aBy h) fun _ _ q=>ho _ _ _ _ q
theorem aNr{g:List T->Sto->Option (List T)}(ho:∀σ H Q xs,(∃ts,trW K σ ts xs (g ts) H Q)->r xs H Q)(h:trN K (uK fa g) σ H Q):tCB r (trA K fa) σ H Q:=
 oX (aIs h) fun _ _ q=>ho _ _ _ _ q
theorem aMU{n:Nat}{F:List T->Option T}{E:XK}(h:trE K (mX fa (gY n F)) σ H Q):aEu (spT K n F) [] E (trA K fa) σ H Q:=
 oX (aBy h) fun vs _ q=>by rw[aV];exact aMR q
noncomputable def gDm(ts:List T)(C:Sto):Option (T×Sto):=match ts with
 | [.int i,.int j]=>if 0<j/\j<1073741824 then some (.tup [.int (i/j),.int (i%j)],C)else none
 |_=>none
noncomputable def aDU(ts:List T)(C:Sto):Option (T×Sto):=match ts with
 | [.int i]=>some (.int i,C)
 | [.bl k]=>some (.int (if k then 1 else 0),C)
 |_=>none
theorem aMq{xs:List V}(h:∃ts,trV K σ ts xs (aDU ts) H Q):(∃i,xs=[.int i]/\Q (.int i) H)\/∃k,xs=[.bl k]/\Q (.int (if k then 1 else 0)) H:=by
 obtain⟨ts,H₀,Z,ρ,τ,C,t,C',R,r,e,k⟩:=h;unfold aDU at e;split at e
 ·obtain⟨v,_,rfl,r1,r⟩:=r.cons_inv;rw[r.nil_inv,r1.int_inv];cases e
  exact .inl ⟨_,rfl,k _ H ρ R .int .refl⟩
 ·obtain⟨v,_,rfl,r1,r⟩:=r.cons_inv;rw[r.nil_inv,r1.bl_inv];cases e
  exact .inr ⟨_,rfl,k _ H ρ R .int .refl⟩
 ·cases e
noncomputable def aHr(t:T)(C:Sto):Option (T×Sto):=match t with
 | .int i=>some (.int (-i),C)
 |_=>none
theorem aN4{x:V}(h:∃t,trV K σ [t] [x] (aHr t) H Q):∃i,x=.int i/\Q (.int (-i)) H:=by
 obtain⟨t0,H₀,Z,ρ,τ,C,t,C',R,r,e,k⟩:=h;obtain⟨_,_,z,r1,r⟩:=r.cons_inv;cases z;unfold aHr at e;split at e
 ·cases e
  exact⟨_,r1.int_inv,k _ H ρ R .int .refl⟩
 ·cases e
end
noncomputable def jY(i j:Int):Bool:= !(decide (Builtin.Int.intBits i>shortFactorBits)&&decide (Builtin.Int.intBits j>shortFactorBits)&&Builtin.Int.intTooBig (Builtin.Int.intBits i+Builtin.Int.intBits j))
noncomputable def insAt{α:Type}(xs:List α)(i:Int)(y:α):List α:=xs.take (if i<0 then(i+(xs.length:Int)).toNat else min i.toNat xs.length)++y::xs.drop (if i<0 then(i+(xs.length:Int)).toNat else min i.toNat xs.length)
def aBv(xs vs:List T):Option (List T):=match vs with
 | [y]=>if xs.length<lim then some (xs++[y])else none
 |_=>none
def aCh(xs vs:List T):Option (List T):=match vs with
 | [.int i,y]=>if xs.length<lim/\ -(2^63)<=i/\i<2^63 then some (insAt xs i y)else none
 |_=>none
noncomputable def tQ:List Int->Int
 | []=>0
 |n::ns=>ns.foldl (fun a b=>if b>a then b else a) n
noncomputable def tF:List Int->Int
 | []=>0
 |n::ns=>ns.foldl (fun a b=>if b<a then b else a) n
abbrev iD(a b:FE):FE:=iU a b (gI fun i j=>.int (i+j))
abbrev qW(a b:FE):FE:=iU a b (gI fun i j=>.int (i - j))
abbrev kU(a b:FE):FE:=iU a b (gIc jY fun i j=>.int (i*j))
abbrev gA(a b:FE):FE:=iU a b (gIc (fun _ j=>decide (0<j)) fun i j=>.int (i%j))
abbrev jI(a b:FE):FE:=iU a b (gIc (fun _ j=>decide (0<j/\j<1073741824)) fun i j=>.int (i/j))
abbrev aI2(a b:FE):FE:=iU a b (gIc (fun i j=>decide (0<=j/\j<=1000000/\i.natAbs<2^64)) fun i j=>.int (i^j.toNat))
abbrev fNeg(a:FE):FE:=fUn a aHr
abbrev fLt(a b:FE):FE:=iU a b (gI fun i j=>.bl (decide (i<j)))
abbrev fLe(a b:FE):FE:=iU a b (gI fun i j=>.bl (decide (i<=j)))
abbrev fGt(a b:FE):FE:=iU a b (gI fun i j=>.bl (decide (j<i)))
abbrev fGe(a b:FE):FE:=iU a b (gI fun i j=>.bl (decide (j<=i)))
abbrev fEq(a b:FE):FE:=iU a b (gEq false)
abbrev fNe(a b:FE):FE:=iU a b (gEq true)
abbrev fIn(a b:FE):FE:=iU a b (gIn false)
abbrev aG1(a b:FE):FE:=iU a b (gIn true)
abbrev fLeLt(a b c:FE):FE:=tJ a b c (fun i j=>decide (i<=j)) (fun i j=>decide (i<j))
abbrev fIx(a b:FE):FE:=iU a b gIx
abbrev xK(a b:FE):FN:=vN a b aFD
abbrev n6(a:FN):FE:=mX a aFG
abbrev aIr(a:FN):FN:=uK a aEc
abbrev aKI(a:FN):FE:=mX a (wJ (fun _=>true) aQB)
abbrev fMaxL(a:FN):FE:=mX a (wJ (fun ns=> !ns.isEmpty) tQ)
abbrev aGn(a:FN):FE:=mX a (wJ (fun ns=> !ns.isEmpty) tF)
abbrev aLD(a:FN):FE:=mX a (aGO fun bs=>bs.all id)
abbrev fMax2(a:FN):FE:=mX a (gI2 fun i j=>if j>i then j else i)
abbrev oR(a:FN):FE:=mX a (gI2 fun i j=>if j<i then j else i)
abbrev l7(a:FN):FE:=mX a aDU
abbrev fQ(n:Nat)(F:List T->Option T)(a:FN):FE:=mX a (gY n F)
noncomputable def aLf(c:String):T->Option Bool
 | .non=>some (c=="NoneType")
 | .bl _=>some (c=="bool"||c=="int")
 | .int _=>some (c=="int")
 | .str _=>some (c=="str")
 | .lst _=>some (c=="list")
 | .cell _=>none
 | .tup _=>some (c=="tuple")
 | .exc _=>none
def aBr(c:String)(a:FE):FE:=fUn a fun t C=>(aLf c t).map fun b=>(.bl b,C)
abbrev uT(o:FE)(a:FN):FS:=aFN o a aBv
abbrev aFn(o:FE)(a:FN):FS:=aFN o a aCh
noncomputable def gS:FB:=fun _ C=>some (true,C)
def iW(B:FS)(m:Nat)(ts:List T):Option T:=match B (st0 m ts) []with
 |some (.rt r,_,C)=>dr 3 C r
 |some (.nx,_,_)=>some .non
 |_=>none
theorem gC{B:FS}{m n:Nat}:∀ts t,ts.length=n->iW B m ts=some t->∃r,B (st0 m ts) []=some r/\EndT t r:=fun ts t _ e=>by
 unfold iW at e;split at e
 ·rename_i h;exact⟨_,h,e⟩
 ·rename_i h;cases e;exact⟨_,h,rfl⟩
 ·cases e
end TL
namespace L2
open PySem PySem.Spec PyProof.Rows
variable{X:Cx}{e:Expr}{t':TT}
theorem PE.imp{t t':TE}(h:PE X e t)(hi:∀σ H Q,t' σ H Q->t σ H Q):PE X e t':=fun aa s σ H Q I q=>h aa s σ H Q I (hi σ H Q q)
theorem PT.imp{t:TT}(h:PT X e t)(hi:∀σ H Q,t' σ H Q->t σ H Q):PT X e t':=fun aa s σ H Q I q=>h aa s σ H Q I (hi σ H Q q)
theorem PW.imp{t:TT}(h:PW X e t)(hi:∀σ H Q,t' σ H Q->t σ H Q):PW X e t':=fun wh aa s σ H Q I q=>h wh aa s σ H Q I (hi σ H Q q)
theorem PA.imp{e:List Expr}{t t':TA}(h:PA X e t)(hi:∀σ H Q,t' σ H Q->t σ H Q):PA X e t':=fun pos aa s σ H Q I q=>h pos aa s σ H Q I (hi σ H Q q)
theorem PS.imp{e:Stmt}{t t':TS}(h:PS X e t)(hi:∀D σ H,t' D σ H->t D σ H):PS X e t':=fun aa s σ H D I q=>h aa s σ H D I (hi D σ H q)
theorem PSs.imp{e:List Stmt}{t t':TS}(h:PSs X e t)(hi:∀D σ H,t' D σ H->t D σ H):PSs X e t':=fun aa s σ H D I q=>h aa s σ H D I (hi D σ H q)
theorem PG.imp{t t':TG}(h:PG X e t)(hi:∀v σ H Q,t' v σ H Q->t v σ H Q):PG X e t':=fun aa s σ H v u Q I r q=>h aa s σ H v u Q I r (hi v σ H Q q)
theorem PO.imp{e:Option Expr}{t t':TO}(h:PO X e t)(hi:∀σ H Q,t' σ H Q->t σ H Q):PO X e t':=fun aa s σ H Q I q=>h aa s σ H Q I (hi σ H Q q)
end L2
namespace TL
open PySem PySem.Spec PyProof.Rows L2
theorem lD:lim<=sizeLine:=by unfold lim;rw[sizeLine_eq];decide
section
variable {X:Cx}
theorem aJZ:OpR X (binaryOp .Add) (rCatL X.K):=by
 intro aa s σ H x y v u Q I rx ry h;obtain⟨l,b,xs,zs,rfl,rfl,hH,hB,hz,q⟩:=h;cases rx;cases ry;obtain⟨its,r,p,hl⟩:=I.list hH;obtain⟨ib,r2,p2,mw⟩:=I.list hB;obtain⟨⟨cls,dd,data,sl⟩,ho,hc,n,hd⟩:=id p.isList;obtain⟨⟨cls2,dd2,data2,sl2⟩,ho2,hc2,n2,hd2⟩:=id p2.isList;simp only at hc hd hc2 hd2;subst hc hd hc2 hd2;have e1:=r.length;have e2:=r2.length;have gi:=lD;have ea:its.toArray++ib.toArray=(its++ib).toArray:=by simp
 refine concat_meets ⟨_,ho,rfl⟩ ⟨_,ho2,rfl⟩ noFill_list_add seq_list_add PySem.F.slot_list_add PySem.F.entry_list_add (PySem.F.args_list_add_2 _ _)
  (list_addW l b its.toArray ib.toArray n n2 dd dd2 sl sl2 (by rw[bF,bF];lia)) ⟨ho,ho2,?_⟩
 rw[ea]
 exact⟨.ref _,_,I.lnew (t':=s.toks) (r.append r2) (by rw[bA];lia),rfl,q _ I.fresh⟩
def aGQ(xs vs:List V):Option (List V):=match vs with
 | [y]=>if xs.length<lim then some (xs++[y])else none
 |_=>none
theorem aLV{K:aO}:∀M ρ ts us ws vs xs,RTs K M ρ ts vs->RTs K M ρ us xs->aBv ts us=some ws->∃ys,aGQ vs xs=some ys/\RTs K M ρ ws ys:=by
 intro M ρ ts us ws vs xs h1 h2 e;unfold aBv at e;split at e
 ·obtain⟨v,_,rfl,r1,r2⟩:=h2.cons_inv;rw[r2.nil_inv];split at e
  ·rename_i hl;cases e
   refine⟨vs++[v],?_,h1.append (.cons r1 .nil)⟩
   show(if vs.length<lim then some (vs++[v])else none)=_;rw[if_pos (by rw[h1.length];exact hl)]
  ·cases e
 ·cases e
theorem aMs:MtR X "list.append" (aM0 aGQ):=by
 intro aa s σ H x vs v us Q I rx rv h;obtain⟨l,xs,ys,ex,hH,e,q⟩:=h;unfold aGQ at e;split at e
 ·split at e
  ·rename_i hl;cases e
   exact y4 aa s σ H x _ v us Q I rx rv ⟨l,xs,_,ex,rfl,hH,bS hl lD,q⟩
  ·cases e
 ·cases e
def aG9(xs vs:List V):Option (List V):=match vs with
 | [.int i,y]=>if xs.length<lim/\ -(2^63)<=i/\i<2^63 then some (insAt xs i y)else none
 |_=>none
theorem aMM{K:aO}:∀M ρ ts us ws vs xs,RTs K M ρ ts vs->RTs K M ρ us xs->aCh ts us=some ws->∃ys,aG9 vs xs=some ys/\RTs K M ρ ws ys:=by
 intro M ρ ts us ws vs xs h1 h2 e;unfold aCh at e;split at e
 ·obtain⟨v,_,rfl,r1,r2⟩:=h2.cons_inv;obtain⟨v',_,rfl,r2,r3⟩:=r2.cons_inv;rw[r3.nil_inv,r1.int_inv];split at e
  ·rename_i hl;cases e
   refine⟨insAt vs _ v',by
    show(if vs.length<lim/\_ then some (insAt vs _ v')else none)=_;rw[if_pos (by rw[h1.length];exact hl)],?_⟩
   unfold insAt;rw[h1.length]
   exact(h1.take _).append (.cons r2 (h1.drop _))
  ·cases e
 ·cases e
theorem aEY{α:Type}(xs:List α)(i:Int)(y:α):(insAt xs i y).length=xs.length+1:=by
 unfold insAt;rw[bA,aN,d7,aOW]
 lia
theorem Vals.insAt{xs:List V}{us:List Value}{y:V}{u:Value}(h:Vals xs us)(r:RelV y u)(i:Int):Vals (TL.insAt xs i y) (aPA us i u):=by
 unfold TL.insAt aPA;rw[h.length]
 exact(L2.Vals.take _ h).append (.cons r (L2.Vals.drop _ h))
theorem aMW:MtR X "list.insert" (aM0 aG9):=by
 intro aa s σ H x vs v us Q I rx rv h;obtain⟨l,xs,ys,ex,hH,e,q⟩:=h;subst ex;cases rx;unfold aG9 at e;split at e
 ·split at e
  ·rename_i hl;cases e;obtain⟨u1,u2,rfl,r1,r2⟩:=rv.two;obtain⟨t,rfl⟩:=r1;obtain⟨z,its,n,r,mw,eo⟩:=I.lstM hH;have gi:=lD
   refine call_meets PySem.F.slot_list_insert ⟨_,eo,rfl⟩ PySem.F.entry_list_insert (PySem.F.args_list_insert_3 _ _ _) (PySem.AutoSeq1.list_insert_list_int_val_1 l its.toArray n _ t u2 (by rw[fitsIndex_both hl.2.1 hl.2.2];exact b5) (by rw[bF];lia)) ⟨eo,?_⟩
   refine⟨.non,_,I.lset (its':=aPA its _ u2) hH eo ?_ (Vals.insAt r r2 _) ?_,rfl,q⟩
   ·show(its.toArray.extract 0 _).push u2++its.toArray.extract _=_;rw[PySem.W.kl_ins_eq,bF];rfl
   ·rw[aEY];lia
  ·cases e
 ·cases e
theorem aEG(hc:X.calm=true):m6 X (.builtin "sum") (aBb X.K (fun _=>true) (fun ns=>ns.sum)):=by
 intro aa s σ H xs us Q I r h;obtain⟨p,ns,rfl,hq,_,q⟩:=h;obtain⟨u,rfl,ru⟩:=vals1 r;cases ru;obtain⟨its,rv,pl,hz⟩:=I.list hq;have hi:=oI rv;obtain⟨ys,hx⟩:=hi.allInts.items;have eh:s.heap.IsList p (intItems ys):=hx ▸ pl.isList
 refine sum_intListG (I.ok.hd hc) eh fun h' tk t' hk=>?_
 have e1:ns=ys.toList.map (·.1):=by
  rw[<-nums_intItems,<-hx]
  exact(show numsOf its.toArray.toList=ns from hi.numsOf).symm
 have e2:preSum (numAt ys) ys.size=ns.sum:=by
  rw[preSum_eq,dZ (by simp),e1]
 rw[e2]
 exact⟨.int ns.sum,H,I.kept hk,⟨_,rfl⟩,q⟩
theorem yZ:∀{ns:List Int},ns≠[]->tQ ns∈ns/\∀a∈ns,a<=tQ ns:=by
 have key:∀(ns:List Int)(n:Int),(ns.foldl (fun a b=>if b>a then b else a) n=n\/ns.foldl (fun a b=>if b>a then b else a) n∈ns)/\n<=ns.foldl (fun a b=>if b>a then b else a) n/\∀a∈ns,a<=ns.foldl (fun a b=>if b>a then b else a) n:=by
  intro ns;induction ns with
  |nil=>intro n;simp
  |cons m ns ih=>
   intro n;rw[aO4];obtain⟨h1,h2,h3⟩:=ih (if m>n then m else n);by_cases hm:m>n
   ·rw[if_pos hm]at h1 h2 h3|-
    refine⟨?_,by lia,fun a ha=>?_⟩
    ·rcases h1 with h1|h1
     ·rw[h1];simp
     ·exact .inr (aZ _ h1)
    ·rcases bE.mp ha with rfl|ha
     ·exact h2
     ·exact h3 a ha
   ·rw[if_neg hm]at h1 h2 h3|-
    refine⟨?_,h2,fun a ha=>?_⟩
    ·rcases h1 with h1|h1
     ·exact .inl h1
     ·exact .inr (aZ _ h1)
    ·rcases bE.mp ha with rfl|ha
     ·lia
     ·exact h3 a ha
 intro ns bb;cases ns with
 |nil=>exact absurd rfl bb
 |cons n ns=>
  obtain⟨h1,h2,h3⟩:=key ns n
  refine⟨?_,fun a ha=>?_⟩
  ·rcases h1 with h1|h1
   ·show aPK (fun a b=>if b>a then b else a) n ns∈n::ns;rw[h1];simp
   ·exact aZ _ h1
  ·rcases bE.mp ha with rfl|ha
   ·exact h2
   ·exact h3 a ha
theorem aFt(hc:X.calm=true):m6 X (.builtin "max") (aBb X.K (fun ns=> !ns.isEmpty) tQ):=by
 intro aa s σ H xs us Q I r h;obtain⟨p,ns,rfl,hq,bb,q⟩:=h;obtain⟨u,rfl,ru⟩:=vals1 r;cases ru;obtain⟨its,rv,pl,hz⟩:=I.list hq;have hi:=oI rv;have iy:ns≠[]:=by rintro rfl;simp at bb
 obtain⟨ys,hx⟩:=hi.allInts.items;have eh:s.heap.IsList p (intItems ys):=hx ▸ pl.isList;have gf:ns=ys.toList.map (·.1):=by
  rw[<-nums_intItems,<-hx]
  exact(show numsOf its.toArray.toList=ns from hi.numsOf).symm
 have hsz:0<ys.size:=by
  have h3:0<ns.length:=eJ.mpr iy;rw[gf,aP,b9]at h3;exact h3
 refine max_intList (I.ok.hd hc) eh hsz fun v h' tk hv hk=>?_
 obtain⟨t,rfl⟩:=intItems_at hv;obtain⟨h1,h2⟩:=argBest_gt (numAt ys) (ys.size - 1);obtain⟨m1,m2⟩:=yZ iy;obtain⟨M,hM⟩:∃M,M=tQ ns:=⟨_,rfl⟩;rw[<-hM]at m1 m2 q;have e:numAt ys (argBest (fun i j=>decide (numAt ys i>numAt ys j)) (ys.size - 1))=M:=by
  apply eB
  ·refine m2 _ ?_
   rw[gf,numAt_eq];exact getD_mem (by rw[aP,b9];lia)
  ·have rj:=m1;rw[gf]at rj;obtain⟨j,hj,ej⟩:=mem_getD rj;rw[aP,b9]at hj;rw[<-ej,<-numAt_eq];exact h2 j (by lia)
 exact⟨.int M,H,I.kept hk,⟨_,by rw[e]⟩,q⟩
theorem aCm{bs:List Bool}:∀{us:List Value},Vals (bs.map V.bl) us->us=bs.map Value.bool:=by
 induction bs with
 |nil=>intro us r;rw[bB]at r;cases r;rfl
 |cons n ns ih=>
  intro us r;rw[aM]at r;cases r with
  |cons r1 r2=>
   cases r1;rw[ih r2];rfl
theorem aCF(bs:List Bool):((bL bs.length).all fun i=>(bs[i]?).getD true)=bs.all id:=by
 rw[aOw,aOF,aOF];constructor
 ·intro h b hb;obtain⟨i,hi,rfl⟩:=List.getElem_of_mem hb;have:=h i (c7.mpr hi);simpa[bC hi]using this
 ·intro h i hi;have ei:=c7.mp hi;simpa[bC ei]using h _ (d8 ei)
theorem aJF{s:Shared}{h':Heap}{o:Obj}(hk:∀b x,b∉[s.heap.objs.size]->(s.heap.push o).get? b=some x->h'.get? b=some x):∀b x,s.heap.get? b=some x->h'.get? b=some x:=
 fun b x e=>hk b x (fun hm=>by rw[bO.mp hm]at e;exact cV _ (Heap.lt_size e)) (Heap.get?_push_of_some _ e)
theorem aFy(hc:X.calm=true):m6 X (.builtin "all") (rBls X.K (fun bs=>bs.all id)):=by
 intro aa s σ H xs us Q I r h;obtain⟨p,bs,rfl,hq,q⟩:=h;obtain⟨u,rfl,ru⟩:=vals1 r;cases ru;obtain⟨its,rv,pl,hz⟩:=I.list hq;have hb:=aCm rv;subst hb;have bn:p<s.heap.objs.size:=pl.lt
 refine call_all_walk (wpAny_pyIter_list pl.isList ?_)
 refine⟨s.heap.objs.size,[s.heap.objs.size,p],[s.heap.objs.size],(bs.map Value.bool).toArray.size,_,_,fun i=>(bs[i]?).getD true,rfl,Walks.list (A:=X.A.in1) (I.ok.hd hc) _ p (bX bn) (bs.map Value.bool).toArray,
  ⟨⟨_,Heap.get?_push_size _ rfl,rfl,rfl⟩,pl.isList.push _⟩,fun i v s' Q' E' hP hQ=>?_,fun h' tk hk=>?_⟩
 ·simp only[List.getElem?_toArray,bM]at hP;cases e:bs[i]?with
  |none=>rw[e]at hP;cases hP
  |some b=>
   rw[e]at hP;cases hP;simp only[e,b8]at hQ
   exact wpAny_truthy_bool hQ
 ·have e:((bL (bs.map Value.bool).toArray.size).all fun i=>(bs[i]?).getD true)=bs.all id:=by
   rw[bF,aP];exact aCF bs
  rw[e]
  exact⟨.bl _,H,I.kept (aJF hk),rfl,q⟩
end
section
variable {X:Cx}{aa:List (Addr×Obj)}{σ:L2.St}{H:Hp}{s:Shared}
variable{t1 t2:T}{b:Bool}
theorem aHv{A:Around}{x y:V}{u v:Value}(h1:RT X.K H [] t1 x)(h2:RT X.K H [] t2 y)(r1:RelV x u)(r2:RelV y v)(e:eqF t1 t2=some b):SeqAt.EqAt A s u v b:=by
 unfold eqF at e;split at e<;>first
  | (cases e;done)
  | (cases e
     unfold RT at h1 h2;subst h1 h2;have q:=aLW (A:=A) (s:=s) r1 r2 rfl rfl
     exact q)
theorem aBg{x:V}(h1:RT X.K H [] t1 x)(h2:RT X.K H [] t2 x)(e:eqF t1 t2=some b):b=true:=by
 unfold eqF at e;split at e<;>first
  | (cases e;done)
  | (cases e
     unfold RT at h1 h2;rw[h1]at h2;first|rfl| (cases h2;simp)| (exact nomatch h2))
theorem aB6{e:T->T->Option Bool}{vs:List V}(he:∀t1 t2 x b,RT X.K H [] t1 x->RT X.K H [] t2 x->e t1 t2=some b->b=true):∀{ts us:List T}{vs:List V}{b:Bool},RTs X.K H [] ts vs->RTs X.K H [] us vs->eqL e ts us=some b->b=true
 | [],[],_,b,_,_,q=>by cases q;rfl
 |t::ts,u::us,vs,b,h1,h2,q=>by
  obtain⟨v,r,rfl,a1,a2⟩:=h1.cons_inv;obtain⟨v',r',z,b1,b2⟩:=h2.cons_inv;cases z;unfold eqL at q;obtain⟨c,q1,q⟩:=aK.mp q;obtain⟨d,q2,q⟩:=aL.mp q;rw[he _ _ _ _ a1 b1 q1,aB6 (vs:=vs) he a2 b2 q2]at q
  exact q.symm
 | [],_::_,_,_,_,_,q=>by cases q
 |_::_,[],_,_,_,_,q=>by cases q
theorem aGr(I:Inv X aa σ H s):∀(n:Nat)(t1 t2:T)(x:V)(b:Bool),RT X.K H [] t1 x->RT X.K H [] t2 x->eqT n t1 t2=some b->b=true:=by
 intro n;induction n with
 |zero=>intro t1 t2 x b h1 h2 e;exact aBg h1 h2 (by unfold eqT at e;exact e)
 |succ n ih=>
  intro t1 t2 x b h1 h2 e;by_cases hl:∃xs ys,t1=.lst xs/\t2=.lst ys
  ·obtain⟨xs,ys,rfl,rfl⟩:=hl;unfold RT at h1 h2;obtain⟨a,vs,e1,q1,r1⟩:=h1;obtain⟨a',vs',e2,q2,r2⟩:=h2;rw[e1]at e2;cases e2;have:=I.list_inj q1 q2;subst this;unfold eqT at e;rw[if_pos (by rw[<-r1.length,<-r2.length])]at e
   exact aB6 (vs:=vs) ih r1 r2 e
  ·have e':eqF t1 t2=some b:=by
    unfold eqT at e;split at e
    ·exact absurd ⟨_,_,rfl,rfl⟩ hl
    ·exact e
   exact aBg h1 h2 e'
theorem aAs{e:T->T->Option Bool}{A:Around}(he:∀t1 t2 x y u v b,RT X.K H [] t1 x->RT X.K H [] t2 y->RelV x u->RelV y v->e t1 t2=some b->SeqAt.EqAt A s u v b):
 ∀{ts us:List T}{vs ws:List V}{is js:List Value}{b:Bool},RTs X.K H [] ts vs->RTs X.K H [] us ws->Vals vs is->Vals ws js->eqL e ts us=some b->
  ∃f:Nat->Bool,(∀j u v,is[j]?=some u->js[j]?=some v->SeqAt.EqAt A s u v (f j))/\(bL is.length).all f=b
 | [],[],_,_,_,_,b,h1,h2,v1,v2,q=>by
   cases q;rw[h1.nil_inv]at v1;cases v1
   exact⟨fun _=>true,fun j u v z=>by simp at z,rfl⟩
 |t::ts,u::us,vs,ws,is,js,b,h1,h2,v1,v2,q=>by
  obtain⟨v,r,rfl,a1,a2⟩:=h1.cons_inv;obtain⟨v',r',rfl,b1,b2⟩:=h2.cons_inv;unfold eqL at q;obtain⟨c,q1,q⟩:=aK.mp q;obtain⟨d,q2,q⟩:=aL.mp q;cases v1 with
  |cons x1 y1=>
   cases v2 with
   |cons x2 y2=>
    obtain⟨f,f1,f2⟩:=aAs he a2 b2 y1 y2 q2
    refine⟨fun j=>match j with|0=>c|j+1=>f j,fun j u v z1 z2=>?_,?_⟩
    ·cases j with
     |zero=>
      simp at z1 z2;subst z1 z2
      exact he _ _ _ _ _ _ _ a1 b1 x1 x2 q1
     |succ j=>exact f1 j u v (by simpa using z1) (by simpa using z2)
    ·rw[aN,aOS,List.all_cons,aQh,<-q,<-f2];rfl
 | [],_::_,_,_,_,_,_,_,_,_,_,q=>by cases q
 |_::_,[],_,_,_,_,_,_,_,_,_,q=>by cases q
theorem aCQ(I:Inv X aa σ H s):∀(n:Nat)(A:Around)(t1 t2:T)(x y:V)(u v:Value)(b:Bool),A.units+n<cLine->RT X.K H [] t1 x->RT X.K H [] t2 y->RelV x u->RelV y v->eqT n t1 t2=some b->SeqAt.EqAt A s u v b:=by
 intro n;induction n with
 |zero=>intro A t1 t2 x y u v b hu h1 h2 r1 r2 e;exact aHv h1 h2 r1 r2 (by unfold eqT at e;exact e)
 |succ n ih=>
  intro A t1 t2 x y u v b hu h1 h2 r1 r2 e;by_cases hl:∃xs ys,t1=.lst xs/\t2=.lst ys
  ·obtain⟨xs,ys,rfl,rfl⟩:=hl;have sm:x=y->b=true:=fun z=>by subst z;exact aGr I _ _ _ _ _ h1 h2 e
   unfold RT at h1 h2;obtain⟨a,vs,e1,q1,k1⟩:=h1;obtain⟨c,ws,e2,q2,k2⟩:=h2;subst e1 e2;cases r1;cases r2;by_cases lq:a=c
   ·subst lq;rw[sm rfl]
    exact SeqAt.EqAt.same _
   ·obtain⟨is,v1,p1,z1⟩:=I.list q1;obtain⟨js,v2,p2,z2⟩:=I.list q2;have l1:=v1.length;have l2:=v2.length;unfold eqT at e;split at e
    ·rename_i aj;obtain⟨f,f1,f2⟩:=aAs (A:=A.in1) (fun t1 t2 x y u v b a1 a2 a3 a4 a5=>ih A.in1 t1 t2 x y u v b (by show A.units+1+n<cLine;lia) a1 a2 a3 a4 a5) k1 k2 v1 v2 e;have q:=SeqAt.EqAt.of_refs lq (SeqAt.RcAt.lists (A:=A) (s:=s) (e:=f) p1.isList p2.isList (by rw[bF,bF,<-l1,<-l2,k1.length,k2.length];exact aj) (by lia) fun j h1 h2=>
      f1 j _ _ (by simp) (by simp))
     rw[bF,f2]at q
     exact q
    ·rename_i aj;cases e
     refine SeqAt.EqAt.of_refs lq (SeqAt.RcAt.lists_lengths p1.isList p2.isList ?_ (by lia))
     rw[bF,bF,<-l1,<-l2,k1.length,k2.length];simpa using aj
  ·have e':eqF t1 t2=some b:=by
    unfold eqT at e;split at e
    ·exact absurd ⟨_,_,rfl,rfl⟩ hl
    ·exact e
   exact aHv h1 h2 r1 r2 e'
end
noncomputable def pC(cells:List (Str×Addr)):List (Str×NameKind)->List (Str×Addr)->Option (List (Str×Addr))
 | [],acc=>some acc
 | (n,k)::r,acc=>if(k==NameKind.free)=true then(match cells.lookup n with
  |some c=>pC cells r ((n,c)::acc)
  |none=>none)else pC cells r acc
theorem wD{env:Env}:∀(ns:List (Str×NameKind))(acc cl:List (Str×Addr)),pC env.cells ns acc=some cl->
 (forIn ns acc fun(x:Str×NameKind) (cs:List (Str×Addr))=>if(x.2==NameKind.free)=true then do let c<-cellOf env x.1;pure (ForInStep.yield ((x.1,c)::cs))else pure (ForInStep.yield cs):Sem (List (Str×Addr)))=pure cl
 | [],acc,cl,e=>by cases e;rfl
 | (n,k)::r,acc,cl,e=>by
   unfold pC at e;rw[List.forIn_cons];split at e
   ·rename_i hk;split at e
    ·rename_i c hc;have:=wD r _ cl e;simp only[hk,if_true];unfold cellOf;rw[hc]
     exact this
    ·cases e
   ·rename_i hk;have:=wD r _ cl e;simp only[hk,if_false]
    exact this
theorem aEp{env:Env}{scope:Scope}{cl:List (Str×Addr)}(e:pC env.cells scope.names []=some cl):closureFor scope env=pure cl:=by
 have h:=wD scope.names [] cl e;unfold closureFor;first
  |exact h
  | (simp only[bind_pure]at*;exact h)
  | (show(forIn scope.names [] _>>=fun r=>pure r)=pure cl;rw[bind_pure];exact h)
theorem sZ{cells:List (Str×Addr)}:∀(ns:List (Str×NameKind))(acc cl:List (Str×Addr)),pC cells ns acc=some cl->(∀x c,acc.lookup x=some c->cells.lookup x=some c)->
 (∀x c,cl.lookup x=some c->cells.lookup x=some c)
 | [],acc,cl,e,h=>by cases e;exact h
 | (n,k)::r,acc,cl,e,h=>by
   unfold pC at e;split at e
   ·split at e
    ·rename_i c hc
     refine sZ r _ cl e fun x d hx=>?_
     rw[b6]at hx;split at hx
     ·rename_i q;cases hx;rw[eq_of_beq q];exact hc
     ·exact h x d hx
    ·cases e
   ·exact sZ r _ cl e h
theorem qA{cells:List (Str×Addr)}:∀(ns:List (Str×NameKind))(acc cl:List (Str×Addr)),pC cells ns acc=some cl->∀x,((x,NameKind.free)∈ns\/∃c,acc.lookup x=some c)->∃c,cl.lookup x=some c
 | [],acc,cl,e,x,h=>by
   cases e;rcases h with h|h
   ·cases h
   ·exact h
 | (n,k)::r,acc,cl,e,x,h=>by
   unfold pC at e;split at e
   ·split at e
    ·rename_i c hc
     refine qA r _ cl e x ?_
     rcases h with h|h
     ·rcases bE.mp h with h|h
      ·cases h
       exact .inr ⟨c,by simp[b6]⟩
      ·exact .inl h
     ·obtain⟨d,hd⟩:=h;by_cases hx:(x==n)=true
      ·exact .inr ⟨c,by rw[b6,hx]⟩
      ·refine .inr ⟨d,?_⟩
       rw[b6];simp only[hx]
       exact hd
    ·cases e
   ·rename_i hk
    refine qA r _ cl e x ?_
    rcases h with h|h
    ·rcases bE.mp h with h|h
     ·cases h;exact absurd rfl hk
     ·exact .inl h
    ·exact .inr h
abbrev gJ(X:Cx)(N:List Str)(scope:Scope)(cl:List (Str×Addr))(C:Addr)(s3:Shared)(H3:Hp)(fp:List Addr):Cx:=
 {X with N:=N,s₀:=s3,H₀:=H3,env:=compEnvC scope cl C X.env,outer:=X.stack,stack:=X.stack,ex:=fp,fn:=fun _=>false,pn:=[],xe:=fun _ _=>False}
theorem mR{env:Env}:∀{names:List (Str×NameKind)}{x:Str},(∀y∈names,y.2≠ .cell)->
 ((names.map fun(n,k)=>if(k==NameKind.free&&env.scope.kind== .function&&env.kindOf n==some .cell)=true then(n,NameKind.cell)else(n,k)).lookup x=some .cell\/
  (names.map fun(n,k)=>if(k==NameKind.free&&env.scope.kind== .function&&env.kindOf n==some .cell)=true then(n,NameKind.cell)else(n,k)).lookup x=some .free)->(x,NameKind.free)∈names
 | [],x,_,h=>by rcases h with h|h<;>simp at h
 | (n,k)::r,x,hc,h=>by
   have ih:= @mR env r x (fun y hy=>hc y (aZ _ hy));have hk:k≠ .cell:=hc (n,k) bJ;rw[aM]at h;by_cases hx:(x==n)=true
   ·have lf:x=n:=eq_of_beq hx;subst lf;by_cases ie:(k==NameKind.free&&env.scope.kind== .function&&env.kindOf x==some .cell)=true
    ·have:k=.free:=by
      rw[aOE,aOE]at ie
      exact eq_of_beq ie.1.1
     subst this
     exact bJ
    ·simp only[if_neg ie,b6,hx]at h;rcases h with h|h
     ·cases h;exact absurd rfl hk
     ·cases h;exact bJ
   ·refine aZ _ (ih ?_)
    by_cases ie:(k==NameKind.free&&env.scope.kind== .function&&env.kindOf n==some .cell)=true
    ·simp only[if_pos ie,b6,hx]at h
     exact h
    ·simp only[if_neg ie,b6,hx]at h
     exact h
structure lX(X:Cx)(own fr:List Str)(is:List Nat)(scope:Scope)(cl:List (Str×Addr)):Prop where
 clos:pC X.env.cells scope.names []=some cl
 cell:∀y∈scope.names,y.2≠ .cell
 kind:scope.kind=.function
 names:∀y∈scope.names,y.2=.local->scope.names.lookup y.1=some .local
 pick:is.map (fun i=>X.N[i]?)=fr.map some
 kx:fr.all (fun x=>X.env.kindOf x==some .cell||X.env.kindOf x==some .free)=true
 ky:fr.all (fun x=>(relabel scope X.env).names.lookup x==some .cell||(relabel scope X.env).names.lookup x==some .free)=true
section
variable {X:Cx}{own fr:List Str}{is:List Nat}{scope:Scope}{cl:List (Str×Addr)}
variable{aa:List (Addr×Obj)}{σ:L2.St}{s:Shared}{fp:List Addr}{bh iter tg:Expr}{ifs:List Expr}{pos:Pos}{te:TE}{wi:TI}
theorem aD9{x:Option NameKind}(h:(x==some .cell||x==some .free)=true):x=some .cell\/x=some .free:=by
 rw[Bool.or_eq_true]at h;rcases h with h|h
 ·exact .inl (eq_of_beq h)
 ·exact .inr (eq_of_beq h)
theorem aGb{H:Hp}{bg:Heap}{tk:Nat}(k:lX X own fr is scope cl)(I:Inv X aa σ H s)(hf:∀b∈fp,tO X aa H b/\b<s.heap.objs.size)
 (hn:bg.Ns s.heap.objs.size (fun x=>([]:List (Str×Value)).reverse.lookup x))(hs:Heap.SameBut s.heap.objs.size (s.heap.push {cls:=.type "dict",data:=.dict #[]}) bg):
 Inv (gJ X (own++fr) scope cl s.heap.objs.size s H fp) [] (scV own.length is σ) H {s with heap:=bg,toks:=tk}:=by
 have hk:∀b o,s.heap.get? b=some o->bg.get? b=some o:=fun b o e=>(hs.2 b (bX (Heap.lt_size e))).trans (Heap.get?_push_of_some _ e)
 have sub:=sZ _ _ _ k.clos (fun x c z=>by simp at z);have lv:∀x c,cl.lookup x=some c->∃v,s.heap.IsCell c v:=fun x c e=>I.cell x c (sub x c e)
 have lw:∀{c v},s.heap.IsCell c v->bg.IsCell c v:=fun⟨o,ho,hd⟩=>⟨o,hk _ o ho,hd⟩
 have cne:∀x c,cl.lookup x=some c->c≠s.heap.objs.size:=fun x c e z=>by
  obtain⟨v,o,ho,_⟩:=lv x c e
  exact absurd (z ▸ Heap.lt_size ho) (cV _)
 refine⟨⟨I.ok.mod,k.kind,I.ok.glob,I.ok.blt,bG _,fun x y c h1 h2=>I.ok.inj x y c (sub x c h1) (sub y c h2),fun x hx=>?_,fun x c h=>(by cases h),I.ok.hd,I.ok.frames,.inl rfl,fun b hb=>⟨bX (hf b hb).2,fun x c e=>(hf b hb).1.2.2.2.2.1 x c (sub x c e)⟩,
  fun b o e=>I.bs b o e,cA I.ok.bsz I.sz,fun b o e hb=>?_,fun b hb z=>?_,I.stack,I.stkFree⟩,
  rfl,I.bare,Un.kept hk,⟨_,hn,fun i x v h1 h2 h3=>?_⟩,fun x c e=>?_,I.hok.fresh (bG _),fun x c e=>I.freeC x c (sub x c e),fun p hp=>absurd hp (by simp),I.hok.kept hk,?_⟩
 ·have lf:(relabel scope X.env).names.lookup x=some .cell\/(relabel scope X.env).names.lookup x=some .free:=hx
  exact qA _ _ _ k.clos x (.inl (mR k.cell lf))
 ·rcases(hf b hb).1.2.2.2.1 with z|z
  ·exact I.ok.noex b o e z
  ·exact absurd (bS (Heap.lt_size e) (cA I.ok.bsz z)) (cV _)
 ·rcases bE.mp (I.stkSub b z)with q|q
  ·exact(hf b hb).1.2.1 q
  ·exact(hf b hb).1.2.2.1 q
 ·
  have hi:¬i<own.length:=fun hi=>by
   unfold scV at h2;rw[aY (by simpa using hi),cS,if_pos hi]at h2;cases h2
  have ei:=aOX hi;unfold scV at h2;rw[bH (by simpa using ei),bM]at h2;simp only[aOz]at h2;obtain⟨j,hj,z⟩:=aL.mp h2;have hσ:σ[j]?=some (some v):=by
   cases q:σ[j]?with
   |none=>rw[q]at z;cases z
   |some u=>rw[q]at z;exact congrArg some z
  have jf:fr[i - own.length]?=some x:=by
   have:(own++fr)[i]?=some x:=h1;rw[bH ei]at this
   exact this
  have hN:X.N[j]?=some x:=by
   have:=congrArg (fun l=>l[i - own.length]?) k.pick;simp only[bM,hj,jf,aOP]at this
   exact cH.inj this
  have mh:x∈fr:=bD jf;have kx:=aD9 (aOF.mp k.kx x mh);have ky:=aD9 (aOF.mp k.ky x mh);obtain⟨m,_,hl⟩:=I.loc
  obtain⟨u,r,l⟩:=hl j x v hN hσ (by rcases kx with z|z;·exact .inr (.inl z)
                                    ·exact .inr (.inr z))
  refine⟨u,r,.inr ⟨ky,?_⟩⟩
  rcases l with⟨z,_⟩| ⟨_,c,e,q⟩
  ·rcases kx with w|w<;>(rw[w]at z;cases z)
  ·obtain⟨d,hd⟩:=qA _ _ _ k.clos x (.inl (mR k.cell ky));have:=sub x d hd;rw[e]at this;cases this
   exact⟨c,hd,lw q⟩
 ·obtain⟨v,q⟩:=lv x c e
  exact⟨v,lw q⟩
 ·unfold scV;show _=(own++fr).length;have:=congrArg aP3 k.pick;simp only[aP]at this;simp[this]
theorem aE2{gm:L2.St}{H H':Hp}{s':Shared}{h':Heap}(I:Inv X aa σ H s)(hf:∀b∈fp,tO X aa H b)
 (J:Inv (gJ X (own++fr) scope cl s.heap.objs.size s H fp) [] gm H' s')(hs:Heap.SameBut s.heap.objs.size s'.heap h'):Inv X aa σ H' {s' with heap:=h'}:=by
 have u:Un (frs X.stack) fp H H' s.heap s'.heap:=J.base;have ne:∀b o,s.heap.get? b=some o->b≠s.heap.objs.size:=fun b o e=>bX (Heap.lt_size e)
 have u':Un (frs X.stack) fp H H' s.heap h':=⟨fun b o e n h1 h2=>(hs.2 b (ne b o e)).trans (u.keep b o e n h1 h2),fun b o e n h1 h2=>by
  obtain⟨sl,q⟩:=u.slot b o e n h1 h2
  exact⟨sl,(hs.2 b (ne b o e)).trans q⟩,u.free,fun b o e h2=>by
  obtain⟨o',q⟩:=u.there b o e h2
  exact⟨o',(hs.2 b (ne b o e)).trans q⟩,u.tups,u.frzs,u.tbls⟩
 have dn:H' s.heap.objs.size=none:=J.free;have hok:HOk X.prog X.w H' h':=fun b ob e=>by
  refine(J.hok b ob e).stay (fun c w' hc q=>(hs.2 c ?_).trans q) (fun _ q=>q) fun _ _ q=>q
  rintro rfl;rcases hc with rfl|hc
  ·rw[dn]at e;cases e
  ·rw[dn]at hc;cases hc
 exact I.call' (s':={s' with heap:=h'}) J.os u' hok J.bare fun b hb=>⟨(hf b hb).2.2.2.1,(hf b hb).2.1,(hf b hb).2.2.2.2.1,(hf b hb).2.2.2.2.2⟩
theorem xN{prog:Program}{w:World}{A:Around}{R:Result->Shared->Prop}{target:Expr}{scope:Scope}{it acc:Value}{env:Env}(I:Nat->Shared->Prop)
 (turn:∀n s,I n s->wpAny (model prog w) A (pyNext it) (fun r ak=>match r with
  |none=>R (.ok .next) ak
  |some v=>wpAny (model prog w) A (letOwnedTupleGo target it v) (fun _ ak=>wpAny (model prog w) A (assign target env v) (fun _ cb=>
   wpAny (model prog w) A (forIn ifs true fun c r=>if r=true then do let ok<-isTrue c env (eval c env);pure (ForInStep.yield ok)else pure (ForInStep.yield r)) (fun ok db=>
    if ok=true then wpAny (model prog w) A (eval bh env) (fun x jw=>
     wpAny (model prog w) A (call (.builtin "list.append") [acc,x]) (fun _ qq=>∃m,m<n/\I m qq) (fun _ _=>False) jw) (fun _ _=>False) db
    else∃m,m<n/\I m db) (fun _ _=>False) cb) (fun _ _=>False) ak) (fun _ _=>False) ak) (fun _ _=>False) s)
 (n:Nat)(h:I n s):
 codeAny (model prog w) A (.compLoop (.ListComp bh [⟨target,iter,ifs,0⟩] scope pos) 0 it acc env) R s:=by
 refine codeAny_loop rfl I (fun n s hI=>?_) n h
 show wpAny _ A ((compTurn (.ListComp bh [⟨target,iter,ifs,0⟩] scope pos) 0 it acc env).onRaise (fun x=>do noteFrame x env;theTreesLotGoes x)) _ _ s
 refine wpAny_noted ?_
 rw[compTurn_list]
 refine wpAny_bind (wpAny_standAt (wpAny_bind (wpAny_mono (turn n s hI) (fun r ak bg=>?_) fun _ _ h'=>h'.elim)))
 cases r with
 |none=>exact wpAny_pure bg
 |some v=>
  refine wpAny_bind (wpAny_mono bg (fun _ ak bg=>?_) fun _ _ h'=>h'.elim)
  refine wpAny_bind (wpAny_mono bg (fun _ cb cy=>wpAny_bind (wpAny_mono cy (fun ok db jx=>?_) fun _ _ h'=>h'.elim)) fun _ _ h'=>h'.elim)
  cases ok with
  |false=>exact wpAny_pure ⟨rfl,jx⟩
  |true=>
   exact wpAny_bind (wpAny_bind (wpAny_mono jx (fun x jw xr=>wpAny_bind (wpAny_mono xr (fun _ qq xq=>wpAny_pure (wpAny_pure ⟨rfl,xq⟩)) fun _ _ h'=>h'.elim)) fun _ _ h'=>h'.elim))
def PTs(X:Cx)(ifs:List Expr)(t:TT):Prop:=
 ∀(aa:List (Addr×Obj))(s:Shared)(σ:L2.St)(H:Hp)(Q:Bool->Hp->Prop),Inv X aa σ H s->t σ H Q->
  wpAny (model X.prog X.w) X.A (forIn ifs true fun c r=>if r=true then do let ok<-isTrue c X.env (eval c X.env);pure (ForInStep.yield ok)else pure (ForInStep.yield r)) (TP X aa σ Q) X.xe s
theorem aJx:PTs X [] (fun _ H Q=>Q true H):=fun _ _ _ H _ I h=>wpAny_tests_nil ⟨H,I,h⟩
theorem aIX{c:Expr}{t:TT}(h:PT X c t):PTs X [c] t:=fun aa s σ H Q I q=>wpAny_tests_one (h aa s σ H Q I q)
theorem v9{g:TG}{tc:TT}{H2:Hp}{s2:Shared}{it:Addr}{tn:Nat->Heap->Prop}{J:It}{Q:VK}
 {RR:Value->Addr->Result->Shared->Prop}{E:Value->Shared->Prop}
 (hc:X.calm=true)(k:lX X own fr is scope cl)
 (hg:∀C s3 H3 fp,PG (gJ X (own++fr) scope cl C s3 H3 fp) tg g)(ht:∀C s3 H3 fp,PTs (gJ X (own++fr) scope cl C s3 H3 fp) ifs tc)(he:∀C s3 H3 fp,PE (gJ X (own++fr) scope cl C s3 H3 fp) bh te)
 (I2:Inv X aa σ H2 s2)(T:Turn X.prog X.w X.K tg J fp it tn)(kz:tn 0 s2.heap)(f2:∀b∈fp,tO X aa H2 b)
 (q:∀D,H2 D=none->∃W:Nat->Nat->L2.St->Hp->Prop,(∃m,W 0 m (scV own.length is σ) (upd H2 D (.lst [])))/\∀i m gm H,W i m gm H->
  (J.stop i H/\Q (.ref D) H)\/(J.go i H/\∀x H',J.yld i H x H'->g x gm H' fun br H2=>tc br H2 fun b H3=>
   if b=true then te br H3 fun y H4=>∃ys m',H4 D=some (.lst ys)/\ys.length<lim/\m'<m/\W (i+1) m' br (upd H4 D (.lst (ys++[y])))else∃m',m'<m/\W (i+1) m' br H3))
 (hRR:∀D C H' s',(∃m,s'.heap.Ns C m)->(∀h',Heap.SameBut C s'.heap h'->Inv X aa σ H' {s' with heap:=h'})->H' C=none->s2.heap.objs.size<=C->Q (.ref D) H'->RR (.ref D) C (.ok .next) s'):
 wpAny (model X.prog X.w) X.A (newList []) (fun acc db=>wpAny (model X.prog X.w) X.A (newFunctionEnv scope X.env.globals cl [] X.env.qual none .none (some X.env)) (fun uu jw=>
  codeAny (model X.prog X.w) X.A (.compStart (.ListComp bh [⟨tg,iter,ifs,0⟩] scope pos) 0 (.ref it) acc {uu with scope:=relabel scope X.env}) (RR acc uu.locals) jw) E db) E s2:=by
 refine wpAny_newObj_type (wpAny_newFunctionEnv k.cell (by intro y hy;simp at hy) (fun bg ms iq=>?_) k.kind)
 have I3:Inv X aa σ (upd H2 s2.heap.objs.size (.lst [])) {s2 with heap:=s2.heap.push {cls:=.type "list",data:=.seq ([]:List Value).toArray}}:=I2.lnew (t':=s2.toks) (its:=[]) .nil (d3 _);have hD:H2 s2.heap.objs.size=none:=I2.fresh;obtain⟨W,⟨m0,w0⟩,turn⟩:=q _ hD;have bn:∀b∈fp,b<s2.heap.objs.size:=fun b hb=>by
  obtain⟨o,e,_⟩:=T.obj _ _ kz b hb
  exact Heap.lt_size e
 have f3:∀b∈fp,tO X aa (upd H2 s2.heap.objs.size (.lst [])) b/\b<(s2.heap.push {cls:=.type "list",data:=.seq ([]:List Value).toArray}).objs.size:=fun b hb=>
  ⟨⟨by rw[fK (bX (bn b hb))];exact(f2 b hb).1,(f2 b hb).2⟩,by rw[Heap.size_push];exact aPh (bn b hb)⟩
 have J0:=aGb (tk:=s2.toks+([]:List (Str×Value)).length) k I3 f3 ms iq;have kept:∀b o,s2.heap.get? b=some o->bg.get? b=some o:=fun b o e=>(iq.2 b (by
  show b≠(s2.heap.push _).objs.size;rw[Heap.size_push]
  exact bX (aPh (Heap.lt_size e)))).trans (Heap.get?_push_of_some _ (Heap.get?_push_of_some _ e))
 have st4:tn 0 bg:=T.keep _ _ _ kz fun b _ o e=>kept b o e
 have fq:∀{H':Hp},(∀b∈fp,H' b=none)->∀b∈fp,tO (gJ X (own++fr) scope cl (s2.heap.push {cls:=.type "list",data:=.seq ([]:List Value).toArray}).objs.size {s2 with heap:=s2.heap.push {cls:=.type "list",data:=.seq ([]:List Value).toArray}} (upd H2 s2.heap.objs.size (.lst [])) fp) [] H' b:=fun hn b hb=>
  ⟨hn b hb,bX (f3 b hb).2,fun z=>J0.ok.exfs b hb z,.inl hb,fun x c e=>(J0.ok.exf b hb).2 x c e,fun p hp=>absurd hp (by simp)⟩
 have loop:codeAny (model X.prog X.w) X.A (.compLoop (.ListComp bh [⟨tg,iter,ifs,0⟩] scope pos) 0 (.ref it) (.ref s2.heap.objs.size) (compEnvC scope cl (s2.heap.push {cls:=.type "list",data:=.seq ([]:List Value).toArray}).objs.size X.env))
  (RR (.ref s2.heap.objs.size) (s2.heap.push {cls:=.type "list",data:=.seq ([]:List Value).toArray}).objs.size) {s2 with heap:=bg,toks:=s2.toks+([]:List (Str×Value)).length}:=by
  refine xN (fun n s'=>∃i ai H',Inv (gJ X (own++fr) scope cl (s2.heap.push {cls:=.type "list",data:=.seq ([]:List Value).toArray}).objs.size {s2 with heap:=s2.heap.push {cls:=.type "list",data:=.seq ([]:List Value).toArray}} (upd H2 s2.heap.objs.size (.lst [])) fp) [] ai H' s'/\tn i s'.heap/\(∀b∈fp,H' b=none)/\W i n ai H') ?_ m0
   ⟨0,_,_,J0,st4,fun b hb=>(f3 b hb).1.1,w0⟩
  rintro n s3 ⟨i,cq,H3,I3',qt,uo,w3⟩;rcases turn i n cq H3 w3 with⟨stop,qn⟩| ⟨go,step⟩
  ·refine thn (T.done (gJ X (own++fr) scope cl _ _ _ fp) rfl rfl rfl hc i [] s3 cq H3 (fun _ _=>False) I3' (fq uo) qt stop) fun r s4 ⟨hr,I4⟩=>?_
   subst hr;obtain⟨m,hm,_⟩:=I4.loc
   refine hRR _ _ H3 s4 ⟨m,hm⟩ (fun h' ot=>?_) I4.free ?_ qn
   ·have:=aE2 I3 (fun b hb=>(f3 b hb).1) I4 ot
    exact this
   ·show s2.heap.objs.size<=(s2.heap.push _).objs.size;rw[Heap.size_push]
    exact aQt _
  ·refine thn (T.item (gJ X (own++fr) scope cl _ _ _ fp) rfl rfl rfl hc i [] s3 cq H3 (fun _ _=>False) I3' (fq uo) qt go) fun r s4 ⟨u,hr,h4⟩=>?_
   subst hr
   refine thn h4 fun _ s5 zz=>?_
   obtain⟨x,H5,I5,r5,y5,ly,zf⟩:=zz;have I5':=I5.pinned (fq zf) (T.obj _ _ ly)
   refine thn (hg _ _ _ _ _ s5 cq H5 x u _ I5' r5 (step x H5 y5)) fun _ s6 zz=>?_
   obtain⟨nu,H6,I6,q6⟩:=zz
   refine thn (ht _ _ _ _ _ s6 nu H6 _ I6 q6) fun ok s7 ⟨H7,I7,q7⟩=>?_
   have back:∀{ed:L2.St}{H7:Hp}{s7:Shared}{m':Nat},Inv (gJ X (own++fr) scope cl (s2.heap.push {cls:=.type "list",data:=.seq ([]:List Value).toArray}).objs.size {s2 with heap:=s2.heap.push {cls:=.type "list",data:=.seq ([]:List Value).toArray}} (upd H2 s2.heap.objs.size (.lst [])) fp) ([]++xX fp s5.heap) ed H7 s7->m'<n->W (i+1) m' ed H7->
    ∃m,m<n/\∃i ai H',Inv (gJ X (own++fr) scope cl (s2.heap.push {cls:=.type "list",data:=.seq ([]:List Value).toArray}).objs.size {s2 with heap:=s2.heap.push {cls:=.type "list",data:=.seq ([]:List Value).toArray}} (upd H2 s2.heap.objs.size (.lst [])) fp) [] ai H' s7/\tn i s7.heap/\(∀b∈fp,H' b=none)/\W i m ai H':=fun {ed H7 s7 m'} I7 hm w7=>by
    refine⟨m',hm,i+1,ed,H7,I7.unpinned,T.keep _ _ _ ly fun b hb o e=>(I7.pin (b,o) (cF _ (cF _ (oJ hb e)))).1,fun b hb=>?_,w7⟩
    obtain⟨o,e,d⟩:=T.obj _ _ ly b hb
    exact(I7.pin (b,o) (cF _ (cF _ (oJ hb e)))).2.1
   cases ok with
   |false=>
    try dsimp only at q7
    try dsimp only
    rw[if_neg (by simp)]at q7|-;obtain⟨m',hm,w7⟩:=q7
    exact back I7 hm w7
   |true=>
    try dsimp only at q7
    try dsimp only
    rw[if_pos rfl]at q7|-
    refine thn (he _ _ _ _ _ s7 nu H7 _ I7 q7) fun y s8 zz=>?_
    obtain⟨v,H8,I8,r8,ys,m',e8,l8,hm,w8⟩:=zz
    refine thn (y4 _ s8 nu H8 (.ref s2.heap.objs.size) [v] (.ref s2.heap.objs.size) [y] (fun _ H9=>W (i+1) m' nu H9) I8 rfl (.cons r8 .nil) ⟨_,ys,v,rfl,rfl,e8,bS l8 lD,w8⟩) fun _ s9 zz=>?_
    obtain⟨_,H9,I9,_,w9⟩:=zz
    exact back I9 hm w9
 exact codeAny_compStart_list loop (T.self X.A 0 _ _ _ st4 loop)
theorem u4{g:TG}{tc:TT}(hc:X.calm=true)(k:lX X own fr is scope cl)(hi:PI X tg iter wi)
 (hg:∀C s3 H3 fp,PG (gJ X (own++fr) scope cl C s3 H3 fp) tg g)(ht:∀C s3 H3 fp,PTs (gJ X (own++fr) scope cl C s3 H3 fp) ifs tc)(he:∀C s3 H3 fp,PE (gJ X (own++fr) scope cl C s3 H3 fp) bh te)
 (hs:∀x,foldedSetIterable iter X.env x=pure x:=by intro _;rfl):PE X (.ListComp bh [⟨tg,iter,ifs,0⟩] scope pos) (aAc wi (scV own.length is) g tc te):=by
 intro aa s σ H Q I h;rw[eval_ListComp]
 refine wpAny_comprehension_free (use:=none) rfl hs (aEp k.clos) k.kind k.names (thn (hi aa s σ H _ I h) fun v s1 h1=>thn h1 fun vm s2 h2=>?_)
 obtain⟨it,fp,tn,J,H2,e,I2,T,kz,f2,q⟩:=h2;subst e
 refine v9 (RR:=fun acc C=>compPost (model X.prog X.w) X.A X.xe none (EP X aa σ Q) acc C) hc k hg ht he I2 T kz f2 q ?_
 intro D C H' s' hm hI _ _ qD;obtain⟨m,hm⟩:=hm
 exact⟨m,hm,fun h' ot=>⟨.ref D,H',hI h' ot,rfl,qD⟩⟩
theorem q8{ar ci:Pos}{g:TG}{tc:TT}{i:Nat}{x:Str}(hN:X.N.Nodup)(hx:X.N[i]?=some x)(tm:X.env.scope.names.lookup x=some .local)
 (hc:X.calm=true)(k:lX X own fr is scope cl)(hi:PI X tg iter wi)
 (hg:∀C s3 H3 fp,PG (gJ X (own++fr) scope cl C s3 H3 fp) tg g)(ht:∀C s3 H3 fp,PTs (gJ X (own++fr) scope cl C s3 H3 fp) ifs tc)(he:∀C s3 H3 fp,PE (gJ X (own++fr) scope cl C s3 H3 fp) bh te)
 (jj:swapsWith (.ListComp bh [⟨tg,iter,ifs,0⟩] scope pos) (some (.Name x ar)) ci.line X.env=pure true)
 (hs:∀x,foldedSetIterable iter X.env x=pure x:=by intro _;rfl):PS X (.Assign [.Name x ar] (.ListComp bh [⟨tg,iter,ifs,0⟩] scope pos) ci) (aC8 (aAc wi (scV own.length is) g tc te) (sL i)):=by
 intro aa s σ H D I h;rw[exec_Assign_Name_used _ _ _ _ jj]
 refine wpAny_bind (wpAny_standAt (wpAny_bind ?_))
 show wpAny _ X.A (do let _<-comprehension (.ListComp bh [⟨tg,iter,ifs,0⟩] scope pos) scope X.env _ (newList []) false (eval iter X.env) (some (assign (.Name x ar) X.env))) _ _ s
 refine wpAny_bind (wpAny_mono (wpAny_comprehension_free (use:=some (assign (.Name x ar) X.env)) (Q:=fun _ s'=>SP X aa D .next s') rfl hs (aEp k.clos) k.kind k.names
  (thn (hi aa s σ H _ I h) fun v s1 h1=>thn h1 fun vm s2 h2=>?_)) (fun _ s' hq=>wpAny_pure (wpAny_pure hq)) fun _ _ e=>e)
 obtain⟨it,fp,tn,J,H2,e,I2,T,kz,f2,q⟩:=h2;subst e
 refine v9 (Q:=fun v H1=>D.nx (σ.set i (some v)) H1) (RR:=fun acc C=>compPost (model X.prog X.w) X.A X.xe (some (assign (.Name x ar) X.env)) (fun _ s'=>SP X aa D .next s') acc C) hc k hg ht he I2 T kz f2 q ?_
 intro A C H' s' hm hI hC bb qD;obtain⟨m,hm⟩:=hm;show wpAny _ X.A (assign (.Name x ar) X.env (.ref A)) _ _ _;have I':Inv X aa σ H' s':=hI s'.heap (Heap.SameBut.refl ..)
 refine wpAny_assign_Name (z9 (v:=.ref A) I' hN hx (.inl tm) rfl (fun qv I'' bv=>?_) (.inr tm))
 obtain⟨a,sb,ha⟩:=bv;have old:∀b o,s2.heap.get? b=some o->C≠b:=fun b o e z=>by
  subst z
  exact absurd (bS (Heap.lt_size e) bb) (cV _)
 have hl:∃o,s2.heap.get? X.env.locals=some o:=let ⟨_,⟨o,_,_,ho,_⟩,_⟩:=I2.loc;⟨o,ho⟩
 have wd:∀y c,X.env.cells.lookup y=some c->C≠c:=fun y c e=>by
  obtain⟨v,o,ho,_⟩:=I2.cell y c e
  exact old c o ho
 have haC:C≠a:=by
  rcases ha with rfl|ha
  ·obtain⟨o,ho⟩:=hl
   exact old _ o ho
  ·exact wd x a ha
 refine⟨m,hm.sameBut sb haC,fun h3 hs3=>⟨σ.set i (some (.ref A)),H',?_,qD⟩⟩
 refine I''.turned (t':=qv.toks) (fun b o hb e=>(hs3.2 b hb).trans e) hC ?_ (.inr (cA I2.sz bb)) (fun y c e=>Ne.symm (wd y c e)) fun p hp=>?_
 ·obtain⟨o,ho⟩:=hl
  exact old _ o ho
 ·exact Ne.symm (old _ _ (I2.pin p hp).1)
end
section
variable {X:Cx}
variable{A:Around}{s:Shared}{rs:List (Value×Bool)}
theorem aIi(hu:X.A.units+20<cLine):OpR X (compareOp .Eq) (aLH X.K false):=by
 intro aa s σ H x y u v Q I rx ry h;obtain⟨t1,t2,b,h1,h2,e,q⟩:=h;have q':Q (.bl b) H:=q;have fin:EP X aa σ Q (.bool b) s:=⟨.bl b,H,I,rfl,q'⟩;by_cases hl:∃xs ys,t1=.lst xs/\t2=.lst ys
 ·obtain⟨xs,ys,rfl,rfl⟩:=hl;unfold RT at h1 h2;obtain⟨a,vs,e1,q1,k1⟩:=h1;obtain⟨c,ws,e2,q2,k2⟩:=h2;subst e1 e2;cases rx;cases ry;obtain⟨is,v1,p1,z1⟩:=I.list q1;obtain⟨js,v2,p2,z2⟩:=I.list q2;have l1:=v1.length;have l2:=v2.length;unfold eqT at e;split at e
  ·rename_i aj;obtain⟨f,f1,f2⟩:=aAs (A:=X.A.in1) (fun t1 t2 x y u v b a1 a2 a3 a4 a5=>aCQ I _ X.A.in1 t1 t2 x y u v b (by show X.A.units+1+4<cLine;lia) a1 a2 a3 a4 a5) k1 k2 v1 v2 e
   refine SeqAt.eq_listAt (e:=f) p1.isList p2.isList (by rw[bF,bF,<-l1,<-l2,k1.length,k2.length];exact aj) (by lia) (fun j h1 h2=>
    f1 j _ _ (by simp) (by simp)) ?_
   rw[bF,f2]
   exact fin
  ·rename_i aj;cases e
   refine SeqAt.eq_list_lengthsAt p1.isList p2.isList ?_ (by lia) fin
   rw[bF,bF,<-l1,<-l2,k1.length,k2.length];simpa using aj
 ·have e':eqF t1 t2=some b:=by
   unfold eqT at e;split at e
   ·exact absurd ⟨_,_,rfl,rfl⟩ hl
   ·exact e
  unfold eqF at e';split at e'
  ·cases e';unfold RT at h1 h2;subst h1 h2;cases rx;cases ry;exact SeqAt.RcAt.bool_bool _ _ _ _ _ _ fin
  ·cases e';unfold RT at h1 h2;subst h1 h2;obtain⟨t,rfl⟩:=rx;obtain⟨t',rfl⟩:=ry;exact SeqAt.RcAt.int_int _ _ _ _ _ _ _ _ fin
  ·cases e';unfold RT at h1 h2;subst h1 h2;obtain⟨t,rfl⟩:=rx;obtain⟨t',rfl⟩:=ry;exact SeqAt.RcAt.str_str _ _ _ _ _ _ _ _ fin
  ·cases e'
theorem aLP(hu:X.A.units+20<cLine):OpR X (compareOp .NotEq) (aLH X.K true):=by
 intro aa s σ H x y u v Q I rx ry h;obtain⟨t1,t2,b,h1,h2,e,q⟩:=h;have q':Q (.bl (!b)) H:=q;have fin:EP X aa σ Q (.bool (!b)) s:=⟨.bl (!b),H,I,rfl,q'⟩;by_cases hl:∃xs ys,t1=.lst xs/\t2=.lst ys
 ·obtain⟨xs,ys,rfl,rfl⟩:=hl;unfold RT at h1 h2;obtain⟨a,vs,e1,q1,k1⟩:=h1;obtain⟨c,ws,e2,q2,k2⟩:=h2;subst e1 e2;cases rx;cases ry;obtain⟨is,v1,p1,z1⟩:=I.list q1;obtain⟨js,v2,p2,z2⟩:=I.list q2;have l1:=v1.length;have l2:=v2.length;unfold eqT at e;split at e
  ·rename_i aj;obtain⟨f,f1,f2⟩:=aAs (A:=X.A.in1) (fun t1 t2 x y u v b a1 a2 a3 a4 a5=>aCQ I _ X.A.in1 t1 t2 x y u v b (by show X.A.units+1+4<cLine;lia) a1 a2 a3 a4 a5) k1 k2 v1 v2 e
   refine SeqAt.RcNeAt.lists (e:=f) p1.isList p2.isList (by rw[bF,bF,<-l1,<-l2,k1.length,k2.length];exact aj) (by lia) (fun j h1 h2=>
    f1 j _ _ (by simp) (by simp)) _ _ _ _ ?_
   rw[bF,f2]
   exact fin
  ·rename_i aj;cases e
   refine SeqAt.RcNeAt.lists_lengths p1.isList p2.isList ?_ (by lia) _ _ _ _ fin
   rw[bF,bF,<-l1,<-l2,k1.length,k2.length];simpa using aj
 ·have e':eqF t1 t2=some b:=by
   unfold eqT at e;split at e
   ·exact absurd ⟨_,_,rfl,rfl⟩ hl
   ·exact e
  unfold eqF at e';split at e'
  ·cases e';unfold RT at h1 h2;subst h1 h2;exact aG3 aa s σ H _ _ u v Q I rx ry ⟨rfl,by rw[aGD];exact q'⟩
  ·cases e';unfold RT at h1 h2;subst h1 h2;exact aG3 aa s σ H _ _ u v Q I rx ry ⟨rfl,by rw[aEq];exact q'⟩
  ·cases e';unfold RT at h1 h2;subst h1 h2;exact aG3 aa s σ H _ _ u v Q I rx ry ⟨rfl,by rw[aEr];exact q'⟩
  ·cases e'
theorem aC1{t:T}{x:V}{u:Value}{A:Around}{aa:List (Addr×Obj)}{s:Shared}{σ:L2.St}{H:Hp}(I:Inv X aa σ H s)(hu:A.units+5<cLine)(h:RT X.K H [] t x)(r:RelV x u):
 ∀{ts:List T}{vs:List V}{is:List Value}{b:Bool},RTs X.K H [] ts vs->Vals vs is->inL (fun y=>eqT 5 y t) ts=some b->∃rs:List (Value×Bool),rs.map (·.1)=is/\(∀p∈rs,SeqAt.EqAt A s p.1 u p.2)/\b=rs.any (·.2)
 | [],_,_,b,h1,v1,q=>by
   cases q;rw[h1.nil_inv]at v1;cases v1
   exact⟨[],rfl,(fun p hp=>nomatch hp),rfl⟩
 |t'::ts,_,_,b,h1,v1,q=>by
  obtain⟨v,r',rfl,a1,a2⟩:=h1.cons_inv;unfold inL at q;obtain⟨c,q1,q⟩:=aK.mp q;obtain⟨d,q2,q⟩:=aL.mp q;cases v1 with
  |cons x1 y1=>
   obtain⟨rs,w1,w2,w3⟩:=aC1 I hu h r a2 y1 q2
   refine⟨(_,c)::rs,by rw[aM,w1],fun p hp=>?_,by rw[aOY,<-w3,q]⟩
   rcases bE.mp hp with rfl|hp
   ·exact aCQ I 5 A t' t _ _ _ _ c hu a1 h x1 r q1
   ·exact w2 p hp
open Classical in
noncomputable def o4(rs:List (Value×Bool))(y:Value):Bool:=if∃p∈rs,p.1=y/\p.2=true then true else false
theorem aHm{u y:Value}(h:∀p∈rs,SeqAt.EqAt A s p.1 u p.2)(hy:y∈rs.map (·.1)):SeqAt.EqAt A s y u (o4 rs y):=by
 unfold o4;split
 ·rename_i he;obtain⟨p,hp,rfl,e⟩:=he;rw[<-e];exact h p hp
 ·rename_i hn;obtain⟨p,hp,rfl⟩:=bI.mp hy;have:p.2=false:=by
   cases e:p.2 with
   |false=>rfl
   |true=>exact absurd ⟨p,hp,rfl,e⟩ hn
  rw[<-this];exact h p hp
theorem aEi:(rs.map (·.1)).any (o4 rs)=rs.any (·.2):=by
 rw[aOw,aP1,aP1];constructor
 ·rintro⟨y,hy,e⟩;unfold o4 at e;split at e
  ·rename_i he;obtain⟨p,hp,_,e⟩:=he
   exact⟨p,hp,e⟩
  ·cases e
 ·rintro⟨p,hp,e⟩
  refine⟨p.1,bI.mpr ⟨p,hp,rfl⟩,?_⟩
  unfold o4;rw[if_pos ⟨p,hp,rfl,e⟩]
theorem aGh(hu:X.A.units+20<cLine):OpR X (compareOp .In) (aL0 X.K false):=by
 intro aa s σ H x y u v Q I rx ry h;obtain⟨t,p,vs,ts,b,h1,rfl,hq,hs,e,q⟩:=h;cases ry;obtain⟨is,v1,p1,z1⟩:=I.list hq;obtain⟨rs,w1,w2,w3⟩:=aC1 (A:=X.A.in1) I (by show X.A.units+1+5<cLine;lia) h1 rx hs v1 e;subst w1
 refine SeqAt.in_listAt (o4 rs) p1.isList (fun y hy=>aHm w2 (by simpa using hy)) ?_
 rw[show(rs.map (·.1)).toArray.any (o4 rs)=(rs.map (·.1)).any (o4 rs)by simp,aEi,<-w3]
 exact⟨.bl b,H,I,rfl,q⟩
theorem aFI(hu:X.A.units+20<cLine):OpR X (compareOp .NotIn) (aL0 X.K true):=by
 intro aa s σ H x y u v Q I rx ry h;obtain⟨t,p,vs,ts,b,h1,rfl,hq,hs,e,q⟩:=h;cases ry;obtain⟨is,v1,p1,z1⟩:=I.list hq;obtain⟨rs,w1,w2,w3⟩:=aC1 (A:=X.A.in1) I (by show X.A.units+1+5<cLine;lia) h1 rx hs v1 e;subst w1
 refine SeqAt.notIn_listAt (o4 rs) p1.isList (fun y hy=>aHm w2 (by simpa using hy)) ?_
 rw[show(rs.map (·.1)).toArray.any (o4 rs)=(rs.map (·.1)).any (o4 rs)by simp,aEi,<-w3]
 exact⟨.bl (!b),H,I,rfl,q⟩
theorem zW{prog:Program}{w:World}{A:Around}{E:Value->Shared->Prop}{it t:Addr}{items:Array Value}(bb:t≠it):∀(n i:Nat)(s:Shared)(Q:List Value->Shared->Prop),s.heap.IsListIter it t i->s.heap.IsList t items->i+n<=items.size->
 (∀h',h'.IsListIter it t (i+n)->Heap.SameBut it s.heap h'->Q ((items.toList.drop i).take n) {s with heap:=h'})->wpAny (model prog w) A (draw (.ref it) n) Q E s
 |0,i,s,Q,hit,_,_,hQ=>by
  show wpAny _ _ (pure []) Q E s
  exact wpAny_pure (by simpa using hQ s.heap hit (Heap.SameBut.refl ..))
 |n+1,i,s,Q,hit,ht,hle,hQ=>by
  have bn:i<items.size:=by lia
  show wpAny _ _ (pyNext (.ref it)>>=_) Q E s
  refine wpAny_bind (wpAny_pyNext_list_item hit ht (x:=items[i]) (by simp[bn]) fun bg gj di=>?_)
  refine wpAny_bind (wpAny_holding (zW bb n (i+1) _ _ gj (ht.extBut di.extBut bb) (by lia) fun cy my si=>wpAny_pure ?_))
  have hd:items.toList.drop i=items[i]::items.toList.drop (i+1):=by simp[aOJ,bn]
  have:=hQ cy (by rw[show i+(n+1)=i+1+n by lia];exact my) (di.trans si);rw[hd,aPG]at this
  exact this
theorem tH{prog:Program}{w:World}{E:Value->Shared->Prop}{t:Addr}{items:Array Value}{Q:List Value->Shared->Prop}(hh:A.handled=none)(ht:s.heap.IsList t items)
 (hQ:∀h',Heap.ExtBut s.heap.objs.size s.heap h'->Q items.toList {s with heap:=h'}):wpAny (model prog w) A (unpackItems (.ref t) items.size none) Q E s:=by
 have bn:t≠s.heap.objs.size:=by obtain⟨o,ho,_⟩:=ht;exact bX (Heap.lt_size ho)
 unfold unpackItems
 refine wpAny_bind ?_
 ·unfold notIterableAtAll
  refine wpAny_bind (wpAny_specialOf ht.typeIs slot_list_iter.lookup ?_)
  refine wpAny_pure ?_
  simp only[cD,if_false]
  refine wpAny_bind (wpAny_holding (wpAny_pyIter_list ht ?_))
  refine wpAny_bind (wpAny_holding (zW bn items.size 0 _ _ ⟨_,Heap.get?_push_size _ rfl,rfl,rfl⟩ (ht.push _) (by lia) fun bg gj di=>?_))
  have jd:List.take items.size (List.drop 0 items.toList)=items.toList:=by
   rw[aP8];exact dZ (by simp)
  rw[jd];rw[if_neg (by simp)];have se:bg.IsList t items:=(ht.push _).extBut di.extBut bn
  refine wpAny_bind (wpAny_holding (wpAny_pyNext_list_end hh gj se (by simp) fun cy ud=>?_))
  simp only[Option.isSome_none,cD,if_false]
  refine wpAny_pure (hQ cy fun b o hb e=>ud b o hb (di.extBut b o hb (Heap.get?_push_of_some _ e)))
noncomputable def gLst(K:aO)(n:Nat)(t:TGs):TG:=fun v σ H Q=>∃a xs,v=.ref a/\(SqL K H a xs\/SqT K H a xs)/\xs.length=n/\t xs σ H Q
theorem aLg{es:List Expr}{k:Nat}{t:TGs}{n:Nat}{pos:Pos}(hc:X.calm=true)(h:PGs X es t)
 (hn:(assignEach es X.env).length=n:=by rfl)(bj:(assignEach es X.env).findIdx? (·.1)=none:=by rfl):PG X (.Tuple es k pos) (gLst X.K n t):=by
 intro aa s σ H v u Q I r hw;obtain⟨a,xs,e1,hq,hl,hw⟩:=hw;rcases hq with hq|hq
 ·subst e1;cases r;obtain⟨its,rv,ht,hz⟩:=I.list hq;rw[assign_Tuple]
  refine wpAny_bind (wpAny_standAt ?_)
  unfold unpack;have jl:(assignEach es X.env).length=its.toArray.size:=by simp[hn,<-hl,rv.length]
  rw[jl,bj]
  refine wpAny_bind (wpAny_holding (tH (I.ok.hd hc) ht.isList fun h' hx=>?_))
  have I1:Inv X aa σ H {s with heap:=h'}:=I.kept (t':=s.toks) fun b o e=>hx b o (bX (Heap.lt_size e)) e
  exact h aa _ σ H xs _ Q I1 (by simpa using rv) hw
 ·exact aLx hc h hn bj aa s σ H v u Q I r ⟨a,xs,e1,hq,hl,hw⟩
end
end TL
namespace TL
open PySem L2
def Itz(K:aO)(l1 l2:Addr):It:=
 ⟨fun i H=>∃xs ys x y,SqL K H l1 xs/\SqL K H l2 ys/\xs[i]?=some x/\ys[i]?=some y,
  fun i H v H'=>∃p x y,H p=none/\v=.ref p/\H'=upd H p (.tup [x,y])/\(∀xs,SqL K H l1 xs->xs[i]?=some x)/\∀ys,SqL K H l2 ys->ys[i]?=some y,
  fun i H=>∃xs ys,SqL K H l1 xs/\SqL K H l2 ys/\(xs[i]?=none\/ys[i]?=none)⟩
def iZip(K:aO)(t:TA):TI:=fun σ H R=>t σ H fun vs H1=>∃l1 l2,vs=[.ref l1,.ref l2]/\(∃xs,SqL K H1 l1 xs)/\(∃ys,SqL K H1 l2 ys)/\R (Itz K l1 l2) H1
noncomputable def yI(ts us:List T):List T:=(ts.zip us).map fun p=>.tup [p.1,p.2]
section
variable {K:aO}{σ:L2.St}{H:Hp}{Q:VK}
variable{H1:Hp}{af:Rho}
theorem lL{Z:Addr->Prop}{H₀:Hp}{τ:TSt}{C:Sto}{σ:L2.St}{t:T}{ts:List T}{a:Addr}(R1:Rel K H₀ Z af τ C σ H1)(h1:RT K (mask H1 Z af) af t (.ref a))(e2:liT C t=some ts)
 {jg:Hp}{Z':Addr->Prop}{ae:Rho}{ag:TSt}{C':Sto}{ai:L2.St}{H:Hp}(R':Rel K jg Z' ae ag C' ai H)(sm:Same (mask H1 Z af) (mask H Z' ae))(ix:∀(c:Nat)(a:Addr),af[c]?=some a->ae[c]?=some a)(ba:stays t ts C'\/Same H1 H):
  ∃ws,SqL K H a ws/\RTs K (mask H Z' ae) ae ts ws:=by
 rcases ba with ba|ba
 ·have h2:=h1.mono sm ix;have e3:liT C' t=some ts:=by
   cases t with
   |cell c=>exact ba
   |lst us=>exact e2
   |_=>cases e2
  obtain⟨a',ws,im,q',r'⟩:=R'.li h2 e3;cases im
  exact⟨ws,q',r'⟩
 ·obtain⟨a',ws,im,q',r'⟩:=R1.li h1 e2;cases im
  exact⟨ws,ba.seq q',r'.mono sm ix⟩
theorem aJW{Z:Addr->Prop}{H₀:Hp}{τ:TSt}{C:Sto}{σ:L2.St}{t u:T}{ts us:List T}{a b:Addr}(R1:Rel K H₀ Z af τ C σ H1)(h1:RT K (mask H1 Z af) af t (.ref a))(e1:liT C t=some ts)
 (h2:RT K (mask H1 Z af) af u (.ref b))(e2:liT C u=some us):Wlk K (Itz K a b) Z H1 af (yI ts us) (fun C=>stays t ts C/\stays u us C):=by
 refine⟨fun i t' H₀ Z' ae ag C' σ H ht R' sm ix ba _=>?_,fun H₀ Z' ae ag C' σ H R' sm ix ba _=>?_⟩
 ·obtain⟨ws,q1,r1⟩:=lL R1 h1 e1 R' sm ix (ba.imp (·.1) id);obtain⟨xs,q2,r2⟩:=lL R1 h2 e2 R' sm ix (ba.imp (·.2) id);unfold yI at ht;rw[bM]at ht;obtain⟨⟨x1,x2⟩,hz,rfl⟩:=aL.mp ht;obtain⟨z1,z2⟩:=eA.mp hz;obtain⟨v1,mm,wz⟩:=r1.get z1;obtain⟨v2,hv2,oa⟩:=r2.get z2
  refine⟨⟨ws,xs,v1,v2,q1,q2,mm,hv2⟩,fun x H' hy=>?_⟩
  obtain⟨p,y1,y2,hp,rfl,rfl,k1,k2⟩:=hy;have w1:=k1 ws q1;have w2:=k2 xs q2;rw[mm]at w1;cases w1;rw[hv2]at w2;cases w2
  exact⟨fun b u h=>by rw[fK (fun z=>by rw[z,hp]at h;cases h)];exact h,R'.alloc_tup hp (.cons wz (.cons oa .nil))⟩
 ·obtain⟨ws,q1,r1⟩:=lL R1 h1 e1 R' sm ix (ba.imp (·.1) id);obtain⟨xs,q2,r2⟩:=lL R1 h2 e2 R' sm ix (ba.imp (·.2) id)
  refine⟨ws,xs,q1,q2,?_⟩
  have hl:(yI ts us).length=min ts.length us.length:=by simp[yI]
  rw[hl];rcases Nat.le_total ts.length us.length with h|h
  ·exact .inl (dE (by rw[r1.length,aPt h];exact bG _))
  ·exact .inr (dE (by rw[r2.length,aPn h];exact bG _))
def qV(f1 f2:FE)(k:Nat)(is:List Nat)(g:FG)(tc:FB)(fe:FE):FN:=fun τ C=>(f1 τ C).bind fun p=>(f2 τ p.2).bind fun q=>(liT q.2 p.1).bind fun ts=>(liT q.2 q.1).bind fun us=>
 if(yI ts us).length<lim then jR g tc fe (scT k is τ) (yI ts us) q.2 else none
theorem aKw{f1 f2:FE}{k:Nat}{is:List Nat}{g:FG}{tc:FB}{fe:FE}(hg:Own k g)(h:trN K (qV f1 f2 k is g tc fe) σ H Q):aAc (iZip K (trA K (eU f1 (eU f2 fB)))) (scV k is) (trG K g) (trT K tc) (trE K fe) σ H Q:=by
 obtain⟨H₀,Z,ρ,τ,C,ys,C',R,e,q⟩:=h;unfold qV at e;obtain⟨⟨t,C1⟩,e1,e⟩:=aK.mp e;obtain⟨⟨u,C2⟩,e2,e⟩:=aK.mp e;obtain⟨ts,e3,e⟩:=aK.mp e;obtain⟨us,e4,e⟩:=aK.mp e;split at e
 ·rename_i hl
  refine⟨H₀,Z,ρ,τ,C,[t,u],C2,R,by simp[eU,fB,e1,e2],fun vs H1 af R1 h1 s1=>?_⟩
  obtain⟨v,r,rfl,q1,q2⟩:=h1.cons_inv;obtain⟨v',r',rfl,q3,q4⟩:=q2.cons_inv;rw[q4.nil_inv];obtain⟨a,vs,ea,qa,ra⟩:=R1.li q1 e3;obtain⟨b,ws,eb,qb,rb⟩:=R1.li q3 e4;subst ea eb
  exact⟨a,b,rfl,⟨vs,qa⟩,⟨ws,qb⟩,fun D hD=>sI R1 hg (aJW R1 q1 e3 q3 e4) ⟨pG e3,pG e4⟩ (fun C C2 h z=>⟨tE C C2 h z.1,tE C C2 h z.2⟩) hl e hD fun p H' ae vs R' hp rv s'=>q p H' ae vs R' hp rv (s1.trans s')⟩
 ·cases e
end
def jQ(d:Int)(ns:List Int):Int:=if ns.isEmpty then d else tQ ns
def aBO(t1 t2:T)(C:Sto):Option (T×Sto):=match t2 with
 | .int d=>(liT C t1).bind fun us=>(ints? us).map fun ns=>(.int (jQ d ns),C)
 |_=>none
abbrev aHu(a b:FE):FE:=iU a b aBO
def frz1(C:Sto):Option T->Option (Option T)
 |none=>some none
 |some t=>(dr 3 C t).map some
def frz(C:Sto):TSt->Option TSt
 | []=>some []
 |o::τ=>(frz1 C o).bind fun o'=>(frz C τ).map (o':: ·)
section
variable {K:aO}{σ:St}{H:Hp}{D:Ends}{F G:FS}{Q:VK}
end
end TL
namespace TL
open PySem PySem.Spec PyProof.Rows L2
section
variable {P:Program}{w:World}{H H':Hp}{h h':Heap}{a:Addr}{o:HO}
end
def Named(K:aO)(c:String)(C:Addr):Prop:=bZ K mainGlobals (Str.ofString c)=some (some (.ref C))
structure Aloft(P:Program)(w:World)(K:aO)(l:List Env)(H:Hp)(s:Shared)(c:String)(H':Hp)(C:Addr)(B:Heap)(s':Shared):Prop where
 nm:Named K c C
 os:s'.os=s.os
 bare:AllBare s'.gens
 un:Un (frs l) [] H H' s.heap s'.heap
 hok:HOk P w H' s'.heap
 keepB:∀b o,s.heap.get? b=some o->H b=none->b∉frs l->B.get? b=some o
 trkB:∀b u o,H' b=some u->s'.heap.get? b=some o->B.get? b=some o
 thereB:∀b o,s.heap.get? b=some o->b∉frs l->∃o',B.get? b=some o'
def Flies(B:Heap)(l:List Env)(a C:Addr)(s':Shared):Prop:=∃t,Heap.FlyingW B l a (.ref C) (.ref t) s'.heap
def Made(B:Heap)(l:List Env)(a C:Addr)(s':Shared):Prop:=∃h vs,B.StaysIn h/\h.FunFrames B l/\Heap.MadeExcOf h s'.heap a (.ref C) vs
noncomputable def wish(X:Cx):XW:=fun c σ H'=>∀aa H s a C B s',Inv X aa σ H s->Aloft X.prog X.w X.K X.stack H s c H' C B s'->(Made B X.stack a C s'\/Flies B X.stack a C s')->X.xe (.ref a) s'
section
variable {X:Cx}{aa:List (Addr×Obj)}{σ:L2.St}{H H':Hp}{s s':Shared}{c:String}{C a:Addr}{B:Heap}
end
section
variable {P:Program}{w:World}{K:aO}{mg:Str->Option Value}{base:Heap}{N:List Str}{qual:Str}{scope:Scope}{f:Addr}{cd:Value}{A:Around}{outer:List Env}{s:Shared}{H:Hp}{E:XK}
end
abbrev QE(X:Cx)(e:Expr)(f:FE):Prop:=PE X e (trE X.K f)
abbrev QN(X:Cx)(e:Expr)(f:FN):Prop:=PE X e (trN X.K f)
abbrev QA(X:Cx)(e:List Expr)(f:FN):Prop:=PA X e (trA X.K f)
abbrev QT(X:Cx)(e:Expr)(f:FB):Prop:=PT X e (trT X.K f)
abbrev QW(X:Cx)(e:Expr)(f:FB):Prop:=PW X e (trT X.K f)
abbrev QO(X:Cx)(e:Option Expr)(f:FO):Prop:=PO X e (trO X.K f)
abbrev QS(X:Cx)(e:Stmt)(f:FS):Prop:=PS X e (trS X.K (wish X) f)
abbrev QSs(X:Cx)(e:List Stmt)(f:FS):Prop:=PSs X e (trS X.K (wish X) f)
abbrev QG(X:Cx)(e:Expr)(g:FG):Prop:=PG X e (trG X.K g)
abbrev QTs(X:Cx)(e:List Expr)(f:FB):Prop:=PTs X e (trT X.K f)
theorem PTs.imp{X:Cx}{e:List Expr}{t t':TT}(h:PTs X e t)(hi:∀σ H Q,t' σ H Q->t σ H Q):PTs X e t':=fun aa s σ H Q I q=>h aa s σ H Q I (hi σ H Q q)
theorem aIx{i j:Int}(h:jY i j=true):IntMulOk i j:=by
 unfold jY at h;unfold IntMulOk;intro z;rw[z]at h;cases h
section
variable {X:Cx}{a b c e:Expr}{es:List Expr}{fa fb fc f:FE}{fr fn:FN}{ga gb:FB}{pos p p2:Pos}{j:Nat}
variable{op:CmpOp}{r:R2}
theorem eS(i:Nat){x:Str}(hN:X.N[i]?=some x:=by rfl)(hv:Vis X.env.scope x:=by first|exact aQi rfl|exact aP9 (aQi rfl)|exact aP9 (aP9 rfl))(hd:(x==("__debug__":Str))=false:=by decide)
 (jc:(x==("__classdict__":Str))=false:=by decide):QE X (.Name x pos) (j4 i):=(aMJ hN hv hd jc).imp fun _ _ _=>aNG
theorem fA{i:Int}{k}:QE X (.Constant (.int i) k pos) (fC (.int i)):=aCB.imp fun _ _ _=>i_C fun _ _=>.int
theorem aFv{i:Bool}{k}:QE X (.Constant (.bool i) k pos) (fC (.bl i)):=aNq.imp fun _ _ _=>i_C fun _ _=>.bl
theorem aGA{k}:QE X (.Constant .none k pos) (fC .non):=aMu.imp fun _ _ _=>i_C fun _ _=>.non
theorem hX(ha:QE X a fa)(hb:QE X b fb):QE X (.BinOp a .Add b pos) (iU fa fb (gI fun i j=>.int (i+j))):=(t6 aLl ha hb).imp fun _ _ _=>xW fun _ _ _ _ _=>o_I fun _ _ _ _=>.int
theorem qI(ha:QE X a fa)(hb:QE X b fb):QE X (.BinOp a .Sub b pos) (iU fa fb (gI fun i j=>.int (i - j))):=(t6 aMo ha hb).imp fun _ _ _=>xW fun _ _ _ _ _=>o_I fun _ _ _ _=>.int
theorem aJB:OpR X (binaryOp .Mult) (rI IntMulOk fun i j=>.int (i*j)):=opI fun _ _ _ _ _ _ _ hc q=>mul_int q hc
theorem jU(ha:QE X a fa)(hb:QE X b fb):QE X (.BinOp a .Mult b pos) (iU fa fb (gIc jY fun i j=>.int (i*j))):=(t6 aJB ha hb).imp fun _ _ _=>xW fun _ _ _ _ _ h=>by
 obtain⟨i,j,h1,h2,h3,q⟩:=aGk (g:=fun i j=>.int (i*j)) (fun _ _ _ _=>.int) h
 exact⟨i,j,h1,h2,aIx h3,q⟩
theorem gL(ha:QE X a fa)(hb:QE X b fb):QE X (.BinOp a .Mod b pos) (iU fa fb (gIc (fun _ j=>decide (0<j)) fun i j=>.int (i%j))):=(t6 aMb ha hb).imp fun _ _ _=>xW fun _ _ _ _ _ h=>by
 obtain⟨i,j,h1,h2,h3,q⟩:=aGk (g:=fun i j=>.int (i%j)) (fun _ _ _ _=>.int) h
 exact⟨i,j,h1,h2,of_decide_eq_true h3,q⟩
theorem iQ(ha:QE X a fa)(hb:QE X b fb):QE X (.BinOp a .FloorDiv b pos) (iU fa fb (gIc (fun _ j=>decide (0<j/\j<1073741824)) fun i j=>.int (i/j))):=(t6 aKx ha hb).imp fun _ _ _=>xW fun _ _ _ _ _ h=>by
 obtain⟨i,j,h1,h2,h3,q⟩:=aGk (g:=fun i j=>.int (i/j)) (fun _ _ _ _=>.int) h;have h4:0<j/\j<1073741824:=of_decide_eq_true h3
 exact⟨i,j,h1,h2,h4,q⟩
theorem aHH(ha:QE X a fa)(hb:QE X b fb):QE X (.BinOp a .Pow b pos) (iU fa fb (gIc (fun i j=>decide (0<=j/\j<=1000000/\i.natAbs<2^64)) fun i j=>.int (i^j.toNat))):=(t6 aLt ha hb).imp fun _ _ _=>xW fun _ _ _ _ _ h=>by
 obtain⟨i,j,h1,h2,h3,q⟩:=aGk (g:=fun i j=>.int (i^j.toNat)) (fun _ _ _ _=>.int) h;have h4:0<=j/\j<=1000000/\i.natAbs<2^64:=of_decide_eq_true h3
 exact⟨i,j,h1,h2,h4,q⟩
theorem aNw(ha:QE X a fa):QE X (.UnaryOp .USub a pos) (fUn fa aHr):=(aNp aMF ha).imp fun _ _ _ h=>iM (aMe h) fun _ _ q=>aN4 q
theorem aB5{g:T->T->Sto->Option (T×Sto)}(ho:OpR X (compareOp op) r)(hg:∀σ H Q x y,(∃t1 t2,trV X.K σ [t1,t2] [x,y] (g t1 t2) H Q)->r x y H Q)(ha:QE X a fa)(hb:QE X b fb)(hm:behindInMarks op b=false):
 QE X (.Compare a [op] [b] pos) (iU fa fb g):=(aJr ho ha hb hm).imp fun _ _ _=>xW hg
theorem xY{g:T->T->Sto->Option (T×Sto)}(ho:OpR X (compareOp op) r)(hg:∀σ H Q x y,(∃t1 t2,trV X.K σ [t1,t2] [x,y] (g t1 t2) H Q)->r x y H Q)(ha:QE X a fa)(hb:QE X b fb)(hm:behindInMarks op b=false):
 QT X (.Compare a [op] [b] pos) (iJ (iU fa fb g)):=(aKh ho ha hb hm).imp fun _ _ _=>aHb fun _ _ _=>xW hg
abbrev gLt:=gI fun i j=>.bl (decide (i<j))
abbrev gLe:=gI fun i j=>.bl (decide (i<=j))
abbrev gGt:=gI fun i j=>.bl (decide (j<i))
abbrev gGe:=gI fun i j=>.bl (decide (j<=i))
theorem aOq(ha:QE X a fa)(hb:QE X b fb):QE X (.Compare a [.Lt] [b] pos) (iU fa fb gLt):=aB5 aH4 (fun _ _ _ _ _=>o_I fun _ _ _ _=>.bl) ha hb (nomark _)
theorem aE5(ha:QE X a fa)(hb:QE X b fb):QE X (.Compare a [.Gt] [b] pos) (iU fa fb gGt):=aB5 aK9 (fun _ _ _ _ _=>o_I fun _ _ _ _=>.bl) ha hb (nomark _)
theorem aOo(ha:QE X a fa)(hb:QE X b fb):QE X (.Compare a [.GtE] [b] pos) (iU fa fb gGe):=aB5 aNK (fun _ _ _ _ _=>o_I fun _ _ _ _=>.bl) ha hb (nomark _)
theorem aKB(ha:QE X a fa)(hb:QE X b fb):QT X (.Compare a [.Lt] [b] pos) (iJ (iU fa fb gLt)):=xY aH4 (fun _ _ _ _ _=>o_I fun _ _ _ _=>.bl) ha hb (nomark _)
theorem aOk(ha:QE X a fa)(hb:QE X b fb):QT X (.Compare a [.LtE] [b] pos) (iJ (iU fa fb gLe)):=xY aKV (fun _ _ _ _ _=>o_I fun _ _ _ _=>.bl) ha hb (nomark _)
theorem aBM(ha:QE X a fa)(hb:QE X b fb):QT X (.Compare a [.Gt] [b] pos) (iJ (iU fa fb gGt)):=xY aK9 (fun _ _ _ _ _=>o_I fun _ _ _ _=>.bl) ha hb (nomark _)
theorem aN3(hu:X.A.units+20<cLine)(ha:QE X a fa)(hb:QE X b fb):QE X (.Compare a [.Eq] [b] pos) (iU fa fb (gEq false)):=aB5 (aIi hu) (fun _ _ _ _ _=>aMv) ha hb (nomark _)
theorem aBQ(hu:X.A.units+20<cLine)(ha:QE X a fa)(hb:QE X b fb):QT X (.Compare a [.Eq] [b] pos) (iJ (iU fa fb (gEq false))):=xY (aIi hu) (fun _ _ _ _ _=>aMv) ha hb (nomark _)
theorem aND(hu:X.A.units+20<cLine)(ha:QE X a fa)(hb:QE X b fb):QT X (.Compare a [.NotEq] [b] pos) (iJ (iU fa fb (gEq true))):=xY (aLP hu) (fun _ _ _ _ _=>aMv) ha hb (nomark _)
theorem aNP(hu:X.A.units+20<cLine)(ha:QE X a fa)(hb:QE X b fb)(hm:behindInMarks .In b=false:=by rfl):QE X (.Compare a [.In] [b] pos) (iU fa fb (gIn false)):=aB5 (aGh hu) (fun _ _ _ _ _=>aMp) ha hb hm
theorem aOs(hu:X.A.units+20<cLine)(ha:QE X a fa)(hb:QE X b fb)(hm:behindInMarks .In b=false:=by rfl):QT X (.Compare a [.In] [b] pos) (iJ (iU fa fb (gIn false))):=xY (aGh hu) (fun _ _ _ _ _=>aMp) ha hb hm
theorem aGx(hu:X.A.units+20<cLine)(ha:QE X a fa)(hb:QE X b fb)(hm:behindInMarks .NotIn b=false:=by rfl):QT X (.Compare a [.NotIn] [b] pos) (iJ (iU fa fb (gIn true))):=xY (aFI hu) (fun _ _ _ _ _=>aMp) ha hb hm
theorem yT(ha:QE X a fa)(hb:QE X b fb)(hc:QE X c fc)(hm:lastMarks [.LtE,.Lt] [b,c]=false:=by with_unfolding_all rfl):QE X (.Compare a [.LtE,.Lt] [b,c] pos) (tJ fa fb fc (fun i j=>decide (i<=j)) (fun i j=>decide (i<j))):=
 (aGt aKV aH4 ha hb hc hm).imp fun _ _ _=>aKd
theorem aK4{op}(ha:QE X a fa):QE X (.BoolOp op [a] pos) fa:=aM1 ha
theorem aHF(ha:QE X a fa)(hb:QE X (.BoolOp .And (b::es) pos) fb):QE X (.BoolOp .And (a::b::es) pos) (uF fa fb):=(aLj ha hb).imp fun _ _ _=>aLs
theorem aNT(ha:QE X a fa):QE X (.UnaryOp .Not a pos) (y6 fa):=(aMX ha).imp fun _ _ _=>aNi
theorem sQ(ha:QT X a ga):QW X (.BoolOp .And [a] pos) ga:=aJ0 ha
theorem aNM(ha:QT X a ga):QW X (.BoolOp .Or [a] pos) ga:=aM4 ha
theorem y3(ha:QT X a ga)(hb:QW X (.BoolOp .And (b::es) pos) gb):QW X (.BoolOp .And (a::b::es) pos) (nU ga gb):=(aLp ha hb).imp fun _ _ _=>aMH
theorem aOp(ha:QT X a ga)(hb:QW X (.BoolOp .Or (b::es) pos) gb):QW X (.BoolOp .Or (a::b::es) pos) (aCA ga gb):=(aN5 ha hb).imp fun _ _ _=>aN2
theorem t_w(h:QW X a ga):QT X a ga:=h.pt
theorem aD7(ha:QT X a ga):QT X (.UnaryOp .Not a pos) (oU ga):=(aLi ha).imp fun _ _ _=>aLZ
theorem rY(ha:QE X a fa)(he:∀whole,isTrue a X.env whole=(do let v<-whole;standAt a.pos;holding [v] (truthy v)):=by intro _;rfl):QT X a (nY fa):=(aGV ha he).imp fun _ _ _=>aN1
theorem gW(ha:QE X a fa)(hb:QE X b fb)(hs:PlainIx b:=by exact fun _ _=>rfl):QE X (.Subscript a b pos) (iU fa fb gIx):=(aNU aL7 ha hb hs).imp fun _ _ _=>xW fun _ _ _ _ _=>aOm
theorem o6:QO X none kF:=aKF.imp fun _ _ _=>aIa
theorem yG(ha:QE X a fa):QO X (some a) (m5 fa):=(aAz ha).imp fun _ _ _=>aL4
theorem sF{lo hi:Option Expr}{fl fh:FO}(ha:QE X a fa)(hl:QO X lo fl)(hh:QO X hi fh):QN X (.Subscript a (.Slice lo hi none p2) pos) (fSl fa fl fh):=(aGg aKa ha hl hh).imp fun _ _ _=>aOn
theorem eX:QA X [] fB:=aC4.imp fun _ _ _=>aK8
theorem eT(ha:QE X e f)(hr:QA X es fr)(hs:starEach (e::es) X.env=(false,eval e X.env)::starEach es X.env:=by rfl):QA X (e::es) (eU f fr):=(vD ha hr hs).imp fun _ _ _=>aLq
theorem f6(h:QA X es fr):QN X (.List es pos) (fU fr):=(aLQ h).imp fun _ _ _=>aLu lD
theorem rL(ha:QE X a fa)(hb:QE X b fb):QN X (.BinOp a .Add b pos) (vN fa fb aFD):=(t6 aJZ ha hb).imp fun _ _ _=>aN7 fun _ _ _ _ _=>aNH
theorem fP(h:QN X a fn):QE X a (fL fn):=PE.imp h fun _ _ _=>aHE
theorem lM(h:QN X a fn):QE X a (iP fn):=PE.imp h fun _ _ _=>aHq
section
variable {x:Str}{id:String}
theorem aCK{r:List V->Hp->VK->Prop}{g:List T->Sto->Option (T×Sto)}(hc:m6 X (.builtin id) r)(ho:∀σ H Q xs,(∃ts,trV X.K σ ts xs (g ts) H Q)->r xs H Q)(hv:bootBuiltins x=some (.builtin id))(hm:X.mg x=none)(hg:Gl X x)(ha:QA X (e::es) fr)(hn:x≠"__name__":=by decide)(dq:(x==("__debug__":Str))=false:=by decide)
 (he:starEach (e::es) X.env=(false,eval e X.env)::starEach es X.env:=by rfl)(ay:(backTo pos (starEach es X.env)).any (·.1)=false:=by rfl):QE X (.Call (.Name x p) (e::es) [] pos) (mX fr g):=
 (aBN hc hg hm hv ha hn dq he ay).imp fun _ _ _=>aNs ho
end
theorem mS(hm:X.mg "len"=none)(ha:QA X (e::es) fr)(hg:Gl X "len":=by rfl)(he:starEach (e::es) X.env=(false,eval e X.env)::starEach es X.env:=by rfl)(ay:(backTo pos (starEach es X.env)).any (·.1)=false:=by rfl):
 QE X (.Call (.Name "len" p) (e::es) [] pos) (mX fr aFG):=aCK aAZ (fun _ _ _ _=>aNt) PySem.boot_len hm hg ha (by decide) (by decide) he ay
theorem aED(hc:X.calm=true):m6 X (.builtin "sum") (aBb X.K (fun _=>true) aQB):=aEG hc
theorem aGU(hm:X.mg "sum"=none)(hc:X.calm=true)(ha:QA X (e::es) fr)(hg:Gl X "sum":=by rfl)(he:starEach (e::es) X.env=(false,eval e X.env)::starEach es X.env:=by rfl)(ay:(backTo pos (starEach es X.env)).any (·.1)=false:=by rfl):
 QE X (.Call (.Name "sum" p) (e::es) [] pos) (aKI fr):=aCK (aED hc) (fun _ _ _ _=>aDg) boot_sum hm hg ha (by decide) (by decide) he ay
theorem aLr(hm:X.mg "max"=none)(hc:X.calm=true)(ha:QA X (e::es) fr)(hg:Gl X "max":=by rfl)(he:starEach (e::es) X.env=(false,eval e X.env)::starEach es X.env:=by rfl)(ay:(backTo pos (starEach es X.env)).any (·.1)=false:=by rfl):
 QE X (.Call (.Name "max" p) (e::es) [] pos) (fMaxL fr):=aCK (aFt hc) (fun _ _ _ _=>aDg) boot_max hm hg ha (by decide) (by decide) he ay
theorem aLS(hm:X.mg "max"=none)(hc:X.calm=true)(ha:QA X (e::es) fr)(hg:Gl X "max":=by rfl)(he:starEach (e::es) X.env=(false,eval e X.env)::starEach es X.env:=by rfl)(ay:(backTo pos (starEach es X.env)).any (·.1)=false:=by rfl):
 QE X (.Call (.Name "max" p) (e::es) [] pos) (fMax2 fr):=aCK (aFE hc) (fun _ _ _ _=>aNy) boot_max hm hg ha (by decide) (by decide) he ay
theorem tP(hm:X.mg "min"=none)(hc:X.calm=true)(ha:QA X (e::es) fr)(hg:Gl X "min":=by rfl)(he:starEach (e::es) X.env=(false,eval e X.env)::starEach es X.env:=by rfl)(ay:(backTo pos (starEach es X.env)).any (·.1)=false:=by rfl):
 QE X (.Call (.Name "min" p) (e::es) [] pos) (oR fr):=aCK (aEV hc) (fun _ _ _ _=>aNy) boot_min hm hg ha (by decide) (by decide) he ay
theorem aNQ(hm:X.mg "all"=none)(hc:X.calm=true)(ha:QA X (e::es) fr)(hg:Gl X "all":=by rfl)(he:starEach (e::es) X.env=(false,eval e X.env)::starEach es X.env:=by rfl)(ay:(backTo pos (starEach es X.env)).any (·.1)=false:=by rfl):
 QE X (.Call (.Name "all" p) (e::es) [] pos) (aLD fr):=aCK (aFy hc) (fun _ _ _ _=>aOa) boot_all hm hg ha (by decide) (by decide) he ay
theorem oZ(hm:X.mg "int"=none)(ha:QA X (e::es) fr)(hg:Gl X "int":=by rfl)(he:starEach (e::es) X.env=(false,eval e X.env)::starEach es X.env:=by rfl)(ay:(backTo pos (starEach es X.env)).any (·.1)=false:=by rfl):
 QE X (.Call (.Name "int" p) (e::es) [] pos) (l7 fr):=(zB aE6 hg hm boot_int ha (by decide) (by decide) he ay).imp fun _ _ _=>aNs fun _ _ _ _=>aMq
theorem aHs(hm:X.mg "list"=none)(ha:QA X (e::es) fr)(hg:Gl X "list":=by rfl)(he:starEach (e::es) X.env=(false,eval e X.env)::starEach es X.env:=by rfl)(ay:(backTo pos (starEach es X.env)).any (·.1)=false:=by rfl):
 QN X (.Call (.Name "list" p) (e::es) [] pos) (aIr fr):=(zB aAq hg hm boot_list ha (by decide) (by decide) he ay).imp fun _ _ _=>aNr fun _ _ _ _=>aMY
structure jA(P:Program)(w:World)(K:aO)(mg:Str->Option Value)(base:Heap)(k:Nat)(x:Str)(n:Nat)(F:List T->Option T):Prop where
 ex:∃f fd ps,mW P w K mg base CX0 k f fd ps (spT K n F)/\mg x=some (.ref f)/\cR K (.ref f)=true/\Binds K fd ps []
theorem fR{k n:Nat}{x:Str}{F:List T->Option T}(D:jA X.prog X.w X.K X.mg X.base k x n F)(hr:Room k X.A)(ha:QA X (e::es) fr)(hg:Gl X x:=by rfl)(dq:(x==("__debug__":Str))=false:=by decide)
 (he:starEach (e::es) X.env=(false,eval e X.env)::starEach es X.env:=by rfl)(ay:(backTo pos (starEach es X.env)).any (·.1)=false:=by rfl):QE X (.Call (.Name x p) (e::es) [] pos) (fQ n F fr):=by
 obtain⟨f,fd,ps,G,hm,hk,hb⟩:=D.ex
 exact(aAp (E:=fun _ _ _=>False) G hr hg hm hk hb .nil (fun _ _ _ _ _ _ _ h=>h.elim) ha dq he ay).imp fun _ _ _=>aMU
theorem hu20{k:Nat}{A:Around}(hr:Room k A):A.units+20<cLine:=by have:=hr.un;lia
theorem jL{x:Str}(hN:X.N.Nodup)(i:Nat)(hi:X.N[i]?=some x:=by rfl)(hx:Loc X.env.scope x:=by first|exact aQi rfl|exact aP9 rfl)(hf:X.fn x=true\/X.env.scope.names.lookup x=some .local:=by first|exact .inl rfl|exact .inr rfl):QG X (.Name x pos) (gN i):=
 (aDD hN hi hx hf).imp fun _ _ _ _=>aAL
structure NG(X:Cx)(ts:List Expr)(is:List Nat):Prop where
 h:PGs X ts (is.foldr (fun i g=>aEv (sL i) g) aJz)
theorem nN:NG X [] []:=⟨aJd⟩
theorem iI{x:Str}{ts:List Expr}{is:List Nat}(hN:X.N.Nodup)(i:Nat)(h:NG X ts is)(hi:X.N[i]?=some x:=by rfl)(hx:Loc X.env.scope x:=by first|exact aQi rfl|exact aP9 rfl)(hf:X.fn x=true\/X.env.scope.names.lookup x=some .local:=by first|exact .inl rfl|exact .inr rfl)
 (hs:(assignEach (.Name x pos::ts) X.env).map (·.2)=assign (.Name x pos) X.env::(assignEach ts X.env).map (·.2):=by rfl):NG X (.Name x pos::ts) (i::is):=⟨aGa (aDD hN hi hx hf) h.h hs⟩
theorem aOb{K:aO}{is:List Nat}{v:V}{σ:L2.St}{H:Hp}{Q:L2.St->Hp->Prop}(h:trG K (gU is) v σ H Q):gLst K is.length (is.foldr (fun i g=>aEv (sL i) g) aJz) v σ H Q:=by
 obtain⟨H₀,Z,ρ,τ,C,t,ag,R,r,e,k⟩:=h;unfold gU at e;obtain⟨ts,e1,e⟩:=aK.mp e;split at e
 ·rename_i hl;cases e;obtain⟨a,vs,ea,qa,ra⟩:=R.sq r e1
  exact⟨a,vs,ea,qa,by rw[ra.length];exact hl,Rel.setAll R ra hl k⟩
 ·cases e
theorem nK{ts:List Expr}{is:List Nat}{k:Nat}(hc:X.calm=true)(h:NG X ts is)(hn:(assignEach ts X.env).length=is.length:=by rfl)(bj:(assignEach ts X.env).findIdx? (·.1)=none:=by rfl):QG X (.Tuple ts k pos) (gU is):=
 (aLg hc h.h hn bj).imp fun _ _ _ _=>aOb
theorem cok(own fr:List Str)(is:List Nat){scope:Scope}{cl:List (Str×Addr)}(h1:pC X.env.cells scope.names []=some cl:=by with_unfolding_all rfl)(h2:∀y∈scope.names,y.2≠ .cell:=by decide+kernel)(h3:scope.kind=.function:=by rfl)
 (h4:∀y∈scope.names,y.2=.local->scope.names.lookup y.1=some .local:=by decide+kernel)(h5:is.map (fun i=>X.N[i]?)=fr.map some:=by rfl)
 (h6:fr.all (fun x=>X.env.kindOf x==some .cell||X.env.kindOf x==some .free)=true:=by rfl)(h7:fr.all (fun x=>(relabel scope X.env).names.lookup x==some .cell||(relabel scope X.env).names.lookup x==some .free)=true:=by rfl):lX X own fr is scope cl:=
 ⟨h1,h2,h3,h4,h5,h6,h7⟩
theorem hV:QTs X [] gS:=aJx.imp fun σ H Q h=>by
 obtain⟨H₀,Z,ρ,τ,C,b,C',R,e,k⟩:=h;cases e
 exact k H ρ R .refl
theorem vF(h:QT X c ga):QTs X [c] ga:=aIX h
section
variable {own frs:List Str}{is:List Nat}{scope:Scope}{cl:List (Str×Addr)}{tg iter bh:Expr}{ifs:List Expr}{fi fe:FE}{g:FG}{gt:FB}{ci ar:Pos}{x:Str}
variable{W:XW}{te:TE}{i:Nat}{σ:L2.St}
theorem kJ(hc:X.calm=true)(k:lX X own frs is scope cl)(hi:QE X iter fi)(ho:Own own.length g)(hg:∀C s3 H3 fp,QG (gJ X (own++frs) scope cl C s3 H3 fp) tg g)(ht:∀C s3 H3 fp,QTs (gJ X (own++frs) scope cl C s3 H3 fp) ifs gt)
 (he:∀C s3 H3 fp,QE (gJ X (own++frs) scope cl C s3 H3 fp) bh fe)(hs:∀x,foldedSetIterable iter X.env x=pure x:=by intro _;rfl):QN X (.ListComp bh [⟨tg,iter,ifs,0⟩] scope pos) (jP fi own.length is g gt fe):=
 (u4 hc k (aAI hi) hg ht he hs).imp fun _ _ _=>aH3 ho
theorem aGf(hm:X.mg "range"=none)(hc:X.calm=true)(k:lX X own frs is scope cl)(hi:QE X iter fi)(ho:Own own.length g)(hg:∀C s3 H3 fp,QG (gJ X (own++frs) scope cl C s3 H3 fp) tg g)(ht:∀C s3 H3 fp,QTs (gJ X (own++frs) scope cl C s3 H3 fp) ifs gt)
 (he:∀C s3 H3 fp,QE (gJ X (own++frs) scope cl C s3 H3 fp) bh fe)(ck:Gl X "range":=by rfl)(hs:∀x,foldedSetIterable (.Call (.Name "range" p) [iter] [] p2) X.env x=pure x:=by intro _;rfl)(bj:starEach [iter] X.env=[(false,eval iter X.env)]:=by rfl):
 QN X (.ListComp bh [⟨tg,.Call (.Name "range" p) [iter] [] p2,ifs,0⟩] scope pos) (jO fi own.length is g gt fe):=
 (u4 hc k (pV ck hm (eT hi eX (by rw[bj];rfl)) bj) hg ht he hs).imp fun _ _ _=>vT ho
theorem asgT{K:aO}{fn:FN}{D:Ends}{H:Hp}(hi:∀σ H Q,trN K fn σ H Q->te σ H Q)(h:trS K W (fM (fL fn) (gN i)) D σ H):aC8 te (sL i) D σ H:=
 hi _ _ _ (aHE (iM (aDK h) fun _ _ q=>aAL q))
theorem asgC{K:aO}{fn:FN}{D:Ends}{H:Hp}(hi:∀σ H Q,trN K fn σ H Q->te σ H Q)(h:trS K W (fM (iP fn) (gN i)) D σ H):aC8 te (sL i) D σ H:=
 hi _ _ _ (aHq (iM (aDK h) fun _ _ q=>aAL q))
theorem aAX(hN:X.N.Nodup)(i:Nat)(hc:X.calm=true)(k:lX X own frs is scope cl)(hi:QE X iter fi)(ho:Own own.length g)(hg:∀C s3 H3 fp,QG (gJ X (own++frs) scope cl C s3 H3 fp) tg g)(ht:∀C s3 H3 fp,QTs (gJ X (own++frs) scope cl C s3 H3 fp) ifs gt)
 (he:∀C s3 H3 fp,QE (gJ X (own++frs) scope cl C s3 H3 fp) bh fe)(hx:X.N[i]?=some x:=by rfl)(hl:X.env.scope.names.lookup x=some .local:=by rfl)
 (jj:swapsWith (.ListComp bh [⟨tg,iter,ifs,0⟩] scope pos) (some (.Name x ar)) ci.line X.env=pure true:=by rfl)(hs:∀x,foldedSetIterable iter X.env x=pure x:=by intro _;rfl):
 QS X (.Assign [.Name x ar] (.ListComp bh [⟨tg,iter,ifs,0⟩] scope pos) ci) (fM (fL (jP fi own.length is g gt fe)) (gN i)):=
 (q8 hN hx hl hc k (aAI hi) hg ht he jj hs).imp fun _ _ _=>asgT fun _ _ _=>aH3 ho
theorem aFr(hN:X.N.Nodup)(i:Nat)(hm:X.mg "range"=none)(hc:X.calm=true)(k:lX X own frs is scope cl)(hi:QE X iter fi)(ho:Own own.length g)(hg:∀C s3 H3 fp,QG (gJ X (own++frs) scope cl C s3 H3 fp) tg g)(ht:∀C s3 H3 fp,QTs (gJ X (own++frs) scope cl C s3 H3 fp) ifs gt)
 (he:∀C s3 H3 fp,QE (gJ X (own++frs) scope cl C s3 H3 fp) bh fe)(ck:Gl X "range":=by rfl)(hx:X.N[i]?=some x:=by rfl)(hl:X.env.scope.names.lookup x=some .local:=by rfl)
 (jj:swapsWith (.ListComp bh [⟨tg,.Call (.Name "range" p) [iter] [] p2,ifs,0⟩] scope pos) (some (.Name x ar)) ci.line X.env=pure true:=by rfl)(hs:∀x,foldedSetIterable (.Call (.Name "range" p) [iter] [] p2) X.env x=pure x:=by intro _;rfl)(bj:starEach [iter] X.env=[(false,eval iter X.env)]:=by rfl):
 QS X (.Assign [.Name x ar] (.ListComp bh [⟨tg,.Call (.Name "range" p) [iter] [] p2,ifs,0⟩] scope pos) ci) (fM (fL (jO fi own.length is g gt fe)) (gN i)):=
 (q8 hN hx hl hc k (pV ck hm (eT hi eX (by rw[bj];rfl)) bj) hg ht he jj hs).imp fun _ _ _=>asgT fun _ _ _=>vT ho
theorem nM(hN:X.N.Nodup)(i:Nat)(hm:X.mg "range"=none)(hc:X.calm=true)(k:lX X own frs is scope cl)(hi:QE X iter fi)(ho:Own own.length g)(hg:∀C s3 H3 fp,QG (gJ X (own++frs) scope cl C s3 H3 fp) tg g)(ht:∀C s3 H3 fp,QTs (gJ X (own++frs) scope cl C s3 H3 fp) ifs gt)
 (he:∀C s3 H3 fp,QE (gJ X (own++frs) scope cl C s3 H3 fp) bh fe)(ck:Gl X "range":=by rfl)(hx:X.N[i]?=some x:=by rfl)(hl:X.env.scope.names.lookup x=some .local:=by rfl)
 (jj:swapsWith (.ListComp bh [⟨tg,.Call (.Name "range" p) [iter] [] p2,ifs,0⟩] scope pos) (some (.Name x ar)) ci.line X.env=pure true:=by rfl)(hs:∀x,foldedSetIterable (.Call (.Name "range" p) [iter] [] p2) X.env x=pure x:=by intro _;rfl)(bj:starEach [iter] X.env=[(false,eval iter X.env)]:=by rfl):
 QS X (.Assign [.Name x ar] (.ListComp bh [⟨tg,.Call (.Name "range" p) [iter] [] p2,ifs,0⟩] scope pos) ci) (fM (iP (jO fi own.length is g gt fe)) (gN i)):=
 (q8 hN hx hl hc k (pV ck hm (eT hi eX (by rw[bj];rfl)) bj) hg ht he jj hs).imp fun _ _ _=>asgC fun _ _ _=>vT ho
end
section
variable {st:Stmt}{dg qr:List Stmt}{F G:FS}{tg iter:Expr}{g:FG}
variable{ao al:Pos}
theorem iK:QSs X [] iC:=aI9.imp fun _ _ _=>aHg
theorem fD(h:QS X st F):QSs X [st] F:=aIM h
theorem eV(h:QS X st F)(h2:QSs X dg G):QSs X (st::dg) (fE F G):=(aF9 h h2).imp fun _ _ _=>aNY
theorem aKE:QS X (.Pass pos) iC:=aKv.imp fun _ _ _=>aHg
theorem aBL:QS X st aAH:=fun _ _ _ _ _ _ h=>(aKj h).elim
theorem fV(h:QE X a fa):QS X (.Return (some a) pos) (gT fa):=(aM9 h).imp fun _ _ _=>aNL
theorem m9(h:QE X a fa)(hs:swapsWith a none pos.line X.env=pure false:=by rfl):QS X (.Expr a pos) (mO fa):=(aAU h hs).imp fun _ _ _=>aMO
theorem kG(hc:QT X c ga)(ha:QSs X dg F)(hb:QSs X qr G):QS X (.If c dg qr pos) (fIf ga F G):=(aNV hc ha hb).imp fun _ _ _=>aOl
theorem fG{x:Str}{ar:Pos}(hN:X.N.Nodup)(i:Nat)(h:QE X a fa)(hi:X.N[i]?=some x:=by rfl)(hx:Loc X.env.scope x:=by first|exact aQi rfl|exact aP9 rfl)(hs:swapsWith a (some (.Name x ar)) pos.line X.env=pure false:=by rfl)
 (hf:X.fn x=true\/X.env.scope.names.lookup x=some .local:=by first|exact .inl rfl|exact .inr rfl):QS X (.Assign [.Name x ar] a pos) (fM fa (gN i)):=(aMI hN hi hx h hs hf).imp fun _ _ _ h=>iM (aDK h) fun _ _ q=>aAL q
theorem aGT(h:QE X a fa)(hg:QG X tg g)(hs:swapsWithSole [tg] a pos.line X.env=pure false:=by rfl)(hw:swappedStores [tg] a X.env=pure none:=by rfl)(h1:(assignEach [tg] X.env).map (·.2)=[assign tg X.env]:=by rfl):QS X (.Assign [tg] a pos) (fM fa g):=
 (aIe h hg hs hw h1).imp fun _ _ _=>aDK
theorem pY(hv:QE X a fa)(ho:QE X b fb)(hi:QE X c fc)(hs:swapsWithSole [.Subscript b c p] a pos.line X.env=pure false:=by rfl)(hw:swappedStores [.Subscript b c p] a X.env=pure none:=by rfl)
 (h1:(assignEach [.Subscript b c p] X.env).map (·.2)=[assign (.Subscript b c p) X.env]:=by rfl)
 (ha:∀v,assign (.Subscript b c p) X.env v=(do
  let ov<-holding [v] (eval b X.env)
  let iv<-holding [v,ov] (eval c X.env)
  standAt p
  holding [v,ov,iv] (setItem ov iv v)
  release [v,ov,iv] []):=by intro _;rfl):QS X (.Assign [.Subscript b c p] a pos) (oY fa fb fc):=
 (aIe hv (aLF ho hi aCc ha) hs hw h1).imp fun _ _ _=>aLT
theorem l4(hc:X.calm=true)(hi:QE X iter fa)(hg:QG X tg g)(hb:QSs X dg F)(hp:PassesOwn (model X.prog X.w) X.A X.env X.xe:=by first|exact PassesOwn.never|exact PassesOwn.leaving|exact PassesOwn.looking)(hs:∀x,foldedSetIterable iter X.env x=pure x:=by intro _;rfl):QS X (.For tg iter dg [] pos) (oE fa g F):=
 (aAo hp hc (aAI hi) hg hb hs).imp fun _ _ _=>aNn
theorem lT(hm:X.mg "range"=none)(hc:X.calm=true)(hi:QE X iter fa)(hg:QG X tg g)(hb:QSs X dg F)(hp:PassesOwn (model X.prog X.w) X.A X.env X.xe:=by first|exact PassesOwn.never|exact PassesOwn.leaving|exact PassesOwn.looking)(ck:Gl X "range":=by rfl)
 (hs:∀x,foldedSetIterable (.Call (.Name "range" p) [iter] [] p2) X.env x=pure x:=by intro _;rfl)(bj:starEach [iter] X.env=[(false,eval iter X.env)]:=by rfl):QS X (.For tg (.Call (.Name "range" p) [iter] [] p2) dg [] pos) (kA fa g F):=
 (aAo hp hc (pV ck hm (eT hi eX (by rw[bj];rfl)) bj) hg hb hs).imp fun _ _ _=>aJV
theorem aCo(hm:X.mg "range"=none)(hc:X.calm=true)(h1:QE X a fa)(h2:QE X b fb)(hg:QG X tg g)(hb:QSs X dg F)(hp:PassesOwn (model X.prog X.w) X.A X.env X.xe:=by first|exact PassesOwn.never|exact PassesOwn.leaving|exact PassesOwn.looking)(ck:Gl X "range":=by rfl)
 (hs:∀x,foldedSetIterable (.Call (.Name "range" p) [a,b] [] p2) X.env x=pure x:=by intro _;rfl)(bj:starEach [a,b] X.env=[(false,eval a X.env),(false,eval b X.env)]:=by rfl)(gd:starEach [b] X.env=[(false,eval b X.env)]:=by rfl):QS X (.For tg (.Call (.Name "range" p) [a,b] [] p2) dg [] pos) (o8 fa fb g F):=
 (aAo hp hc (aE4 ck hm (eT h1 (eT h2 eX (by rw[gd];rfl)) (by rw[bj,gd])) bj gd) hg hb hs).imp fun _ _ _=>aJo
theorem nO(n:Nat)(hc:QT X c ga)(hb:QSs X dg F)(hp:PassesOwn (model X.prog X.w) X.A X.env X.xe:=by first|exact PassesOwn.never|exact PassesOwn.leaving|exact PassesOwn.looking):QS X (.While c dg [] pos) (lH ga F n):=(aG5 hp hc hb).imp fun _ _ _=>aJL
theorem qX(ho:QE X a fa)(ha:QA X (e::es) fr)(hs:swapsWith (.Call (.Attribute a "append" ao) (e::es) [] al) none pos.line X.env=pure false:=by rfl)(dv:attributeBase a "append" X.env (eval a X.env)=eval a X.env:=by rfl)
 (ja:((backTo al (starEach (e::es) X.env)).all (fun x=> !x.1)&&(backToKw al (keywordEach [] X.env)).all (fun x=>x.1.isSome)
  &&decide ((e::es).length+([]:List Keyword).length+(if([]:List Keyword).isEmpty then 0 else 1)<30))=true:=by rfl)
 (dm:(ao.endLine==al.line)=true:=by rfl)(bj:starEach (e::es) X.env=(false,eval e X.env)::starEach es X.env:=by rfl)(ce:(backTo al (starEach es X.env)).any (·.1)=false:=by rfl):
 QS X (.Expr (.Call (.Attribute a "append" ao) (e::es) [] al) pos) (uT fa fr):=
 (aAU (aLd PySem.F.plainAttrs_list PySem.F.slot_list_append PySem.F.type_list_append aMs ho ha dv ja dm bj ce) hs).imp fun _ _ _=>aK5 aLV
theorem aDd(ho:QE X a fa)(ha:QA X (e::es) fr)(hs:swapsWith (.Call (.Attribute a "insert" ao) (e::es) [] al) none pos.line X.env=pure false:=by rfl)(dv:attributeBase a "insert" X.env (eval a X.env)=eval a X.env:=by rfl)
 (ja:((backTo al (starEach (e::es) X.env)).all (fun x=> !x.1)&&(backToKw al (keywordEach [] X.env)).all (fun x=>x.1.isSome)
  &&decide ((e::es).length+([]:List Keyword).length+(if([]:List Keyword).isEmpty then 0 else 1)<30))=true:=by rfl)
 (dm:(ao.endLine==al.line)=true:=by rfl)(bj:starEach (e::es) X.env=(false,eval e X.env)::starEach es X.env:=by rfl)(ce:(backTo al (starEach es X.env)).any (·.1)=false:=by rfl):
 QS X (.Expr (.Call (.Attribute a "insert" ao) (e::es) [] al) pos) (aFn fa fr):=
 (aAU (aLd PySem.F.plainAttrs_list PySem.F.slot_list_insert PySem.F.type_list_insert aMW ho ha dv ja dm bj ce) hs).imp fun _ _ _=>aK5 aMM
end
end
section
variable {X:Cx}{aa:List (Addr×Obj)}{σ:L2.St}{H:Hp}{s:Shared}
variable{ch:List Addr}{h':Heap}{t':Nat}
theorem aBl{p:Addr}{o:HO}(I:Inv X aa σ H s)(bv:∀b∈ch,tO X aa H b)(k:∀b ob,b∉ch->s.heap.get? b=some ob->h'.get? b=some ob)(hp:s.heap.objs.size<=p)
 (new:jK X.prog X.w (upd H p o) h' p o):Inv X aa σ (upd H p o) {s with heap:=h',toks:=t'}:=by
 have hn:H p=none:=I.hok.fresh hp;have ne:∀b u,H b=some u->b≠p:=fun b u e z=>by rw[z,hn]at e;cases e
 have io:∀b u,H b=some u->b∉ch:=fun b u e z=>by rw[(bv b z).1]at e;cases e
 refine I.step (g':=s.gens) (d':=s.drawn) (ch:=ch) (fun b hb=>⟨(bv b hb).2.2.2.1,(bv b hb).2.1,(bv b hb).2.2.2.2.1,(bv b hb).2.2.2.2.2⟩) (fun b o _ _ hc e _=>k b o hc e) (fun b o _ _ hc e _=>⟨o.slots,k b o hc e⟩)
  (fun b ob _ e n=>by rw[fK (bX (bS (Heap.lt_size e) hp))];exact n) (fun b ob hc e=>⟨ob,k b ob hc e⟩)
  (fun b xs e=>by rw[fK (ne _ _ e)];exact e) (fun b ob u e=>by rw[fK (ne _ _ e)];exact e) (fun b ps e=>⟨#[],by rw[fK (ne _ _ e),e];simp⟩) (fun m hm=>?_) (fun b u e=>?_) I.bare
 ·obtain⟨ob,es,ep,ho,r⟩:=hm
  exact⟨ob,es,ep,k _ ob (fun z=>(bv _ z).2.1 rfl) ho,r⟩
 ·by_cases hb:b=p
  ·subst hb;rw[iY]at e;cases e
   exact new
  ·rw[fK hb]at e
   refine(I.hok b u e).stay (fun c v hc q=>k c v ?_ q) (fun c q=>by rw[fK (ne _ _ q)];exact q) fun c xs q=>by rw[fK (ne _ _ q)];exact q
   rcases hc with z|z
   ·rw[z];exact io b u e
   ·exact io c _ z
theorem aAd(I:Inv X aa σ H s)(bv:∀b∈ch,tO X aa H b)(k:∀b ob,b∉ch->s.heap.get? b=some ob->h'.get? b=some ob):Inv X aa σ H {s with heap:=h',toks:=t'}:=by
 have io:∀b u,H b=some u->b∉ch:=fun b u e z=>by rw[(bv b z).1]at e;cases e
 refine I.step (g':=s.gens) (d':=s.drawn) (ch:=ch) (fun b hb=>⟨(bv b hb).2.2.2.1,(bv b hb).2.1,(bv b hb).2.2.2.2.1,(bv b hb).2.2.2.2.2⟩) (fun b o _ _ hc e _=>k b o hc e) (fun b o _ _ hc e _=>⟨o.slots,k b o hc e⟩)
  (fun b ob _ e n=>n) (fun b ob hc e=>⟨ob,k b ob hc e⟩) (fun b xs e=>e) (fun b ob u e=>e) (fun b ps e=>⟨#[],by rw[e];simp⟩) (fun m hm=>?_) (fun b u e=>?_) I.bare
 ·obtain⟨ob,es,ep,ho,r⟩:=hm
  exact⟨ob,es,ep,k _ ob (fun z=>(bv _ z).2.1 rfl) ho,r⟩
 ·refine(I.hok b u e).stay (fun c v hc q=>k c v ?_ q) (fun c q=>q) fun c xs q=>q
  rcases hc with z|z
  ·rw[z];exact io b u e
  ·exact io c _ z
end
theorem aHP{P:Program}{w:World}{K:aO}{ts:List Expr}{k:Nat}{pos:Pos}(z TI TO i1 i2 l1 l2:Addr)(D:ZipApart z TI TO i1 i2 l1 l2):
 Turn P w K (.Tuple ts k pos) (Itz K l1 l2) [z,TI,TO,i1,i2] z (fun i h=>IsZip h z TI TO .none/\IsPair h TI (.ref i1) (.ref i2)/\(∃a b,IsPair h TO a b)/\h.IsListIter i1 l1 i/\h.IsListIter i2 l2 i) where
 mem:=by simp
 obj:=fun i h st b hb=>by
  obtain⟨hz,je,⟨a,b',jo⟩,⟨o1,e1,c1,d1⟩,⟨o2,e2,c2,d2⟩⟩:=st;simp only[bE,cN,or_false]at hb;rcases hb with rfl|rfl|rfl|rfl|rfl
  ·exact⟨_,hz,fun v z=>by simp at z⟩
  ·exact⟨_,je,fun v z=>by simp at z⟩
  ·exact⟨_,jo,fun v z=>by simp at z⟩
  ·exact⟨o1,e1,fun v z=>by rw[d1]at z;cases z⟩
  ·exact⟨o2,e2,fun v z=>by rw[d2]at z;cases z⟩
 keep:=fun i h h' st kk=>by
  obtain⟨hz,je,⟨a,b',jo⟩,h1,h2⟩:=st
  exact⟨kk z (by simp) _ hz,kk TI (by simp) _ je,⟨a,b',kk TO (by simp) _ jo⟩,h1.at fun o e=>kk i1 (by simp) o e,h2.at fun o e=>kk i2 (by simp) o e⟩
 item:=by
  intro X hP hw hK hc i aa s σ H E I hf st hg;subst hP hw hK;obtain⟨hz,je,⟨a,b',jo⟩,h1,h2⟩:=st;obtain⟨xs,ys,x,y,q1,q2,g1,g2⟩:=hg;obtain⟨its,rv,p1,z1⟩:=I.list q1;obtain⟨ib,oa,p2,z2⟩:=I.list q2;obtain⟨u,hu,ru⟩:=rv.get g1;obtain⟨u2,rq,lz⟩:=oa.get g2
  refine wpAny_pyNext_zip_item D hz je jo h1 h2 p1.isList p2.isList (x:=u) (y:=u2) (by simpa using hu) (by simpa using rq) fun h' a1 a2 a3 a4 a5 a6 hk=>?_
  refine⟨_,rfl,wpAny_letOwnedTupleGo_zip (s:={s with heap:=h'}) a1 fun kl xu cj=>?_⟩
  have zlt:z≠s.heap.objs.size:=bX (Heap.lt_size hz);have kk:∀b ob,b∉[z,TI,TO,i1,i2]->s.heap.get? b=some ob->kl.get? b=some ob:=fun b ob hb e=>by
   simp only[bE,cN,or_false,not_or]at hb
   exact(cj.2 b hb.1).trans (hk b ob hb.1 hb.2.2.1 hb.2.2.2.1 hb.2.2.2.2 e)
  have hT:kl.get? s.heap.objs.size=some {cls:=.type "tuple",data:=.seq #[u,u2]}:=(cj.2 _ (Ne.symm zlt)).trans a5;have I1:Inv X aa σ (upd H s.heap.objs.size (.tup [x,y])) {s with heap:=kl,toks:=s.toks}:=aBl I hf kk (bG _)
   (show jK X.prog X.w _ kl _ (.tup [x,y])from⟨by show 2<=sizeLine;decide,[u,u2],.cons ru (.cons lz .nil),⟨_,hT,rfl,_,rfl⟩⟩)
  have hn:H s.heap.objs.size=none:=I.fresh
  refine⟨.ref s.heap.objs.size,_,I1,rfl,⟨_,x,y,hn,rfl,rfl,fun zs hz=>by rw[I.list_inj hz q1];exact g1,fun zs hz=>by rw[I.list_inj hz q2];exact g2⟩,?_,fun b hb=>?_⟩
  ·refine⟨xu,(cj.2 _ D.TIz).trans (hk _ _ D.TIz D.TITO D.TIi1 D.TIi2 je),⟨u,u2,(cj.2 _ D.TOz).trans a2⟩,a3.at fun o e=>(cj.2 _ D.i1z).trans e,a4.at fun o e=>(cj.2 _ D.i2z).trans e⟩
  ·have ui:=(hf b hb).1;rw[fK]
   ·exact ui
   ·rintro rfl;have:∃o,s.heap.get? s.heap.objs.size=some o:=by
     simp only[bE,cN,or_false]at hb;obtain⟨o1,e1,_⟩:=h1;obtain⟨o2,e2,_⟩:=h2;rcases hb with h|h|h|h|h
     ·rw[h];exact⟨_,hz⟩
     ·rw[h];exact⟨_,je⟩
     ·rw[h];exact⟨_,jo⟩
     ·rw[h];exact⟨_,e1⟩
     ·rw[h];exact⟨_,e2⟩
    obtain⟨o,e⟩:=this
    exact absurd (Heap.lt_size e) (cV _)
 done:=by
  intro X hP hw hK hc i aa s σ H E I hf st hg;subst hP hw hK;obtain⟨hz,je,⟨a,b',jo⟩,h1,h2⟩:=st;obtain⟨xs,ys,q1,q2,ue⟩:=hg;obtain⟨its,rv,p1,z1⟩:=I.list q1;obtain⟨ib,oa,p2,z2⟩:=I.list q2;have l1:=rv.length;have l2:=oa.length
  refine wpAny_pyNext_zip_end (I.ok.hd hc) D hz je jo h1 h2 p1.isList p2.isList ?_ fun h' hk=>⟨rfl,aAd (t':=s.toks) I hf fun b ob hb e=>?_⟩
  ·rcases ue with h|h
   ·exact .inl (by simp at h|-;lia)
   ·exact .inr (by simp at h|-;lia)
  ·simp only[bE,cN,or_false,not_or]at hb
   exact hk b ob hb.1 hb.2.2.1 hb.2.2.2.1 hb.2.2.2.2 e
 self:=fun _ _ _ _ _ st h=>wpAny_pyIter_zip st.1 h
section
variable {X:Cx}{a b e:Expr}{es:List Expr}{fa fb:FE}{fr:FN}{pos p p2:Pos}
theorem aLO{ts:List Expr}{k:Nat}{az:Pos}{ta:TA}(hg:Gl X "zip")(hm:X.mg "zip"=none)(ha:PA X [a,b] ta)(hs:starEach [a,b] X.env=[(false,eval a X.env),(false,eval b X.env)]:=by rfl)(lg:starEach [b] X.env=[(false,eval b X.env)]:=by rfl):
 PI X (.Tuple ts k az) (.Call (.Name "zip" p) [a,b] [] pos) (iZip X.K ta):=by
 intro aa s σ H R I h
 refine Call_ (o7 I hg hm boot_zip (dI (thn (ha pos aa s σ H _ I h) fun us s1 ⟨vs,H1,I1,r1,q1⟩=>?_) (by rw[hs,lg]) (by rw[lg];rfl)))
 obtain⟨l1,l2,e,⟨xs,qx⟩,⟨ys,qy⟩,q⟩:=q1;subst e;obtain⟨u,u2,rfl,ru,lz⟩:=r1.two;cases ru;cases lz;obtain⟨its,rv,p1,z1⟩:=I1.list qx;obtain⟨ib,oa,p2,z2⟩:=I1.list qy;have a1:l1<s1.heap.objs.size:=p1.lt;have a2:l2<s1.heap.objs.size:=p2.lt
 refine call_zip_2 p1.isList p2.isList fun h' hz je jo hi1 hi2 hsz hk=>wpAny_pyIter_zip hz ?_
 have I2:Inv X aa σ H1 {s1 with heap:=h'}:=I1.kept (t':=s1.toks) hk
 refine⟨s1.heap.objs.size+4,[s1.heap.objs.size+4,s1.heap.objs.size+2,s1.heap.objs.size+3,s1.heap.objs.size,s1.heap.objs.size+1],_,_,H1,rfl,I2,aHP _ _ _ _ _ l1 l2 (zipApart_new a1 a2),⟨hz,je,⟨_,_,jo⟩,hi1,hi2⟩,fun b hb=>?_,q⟩
 have hle:s1.heap.objs.size<=b:=by
  simp only[bE,cN,or_false]at hb;rcases hb with rfl|rfl|rfl|rfl|rfl
  ·exact eL _ _
  ·exact eL _ _
  ·exact eL _ _
  ·exact bG _
  ·exact eL _ _
 exact I1.fpOk hle (I1.hok.fresh hle)
section
variable {own frs:List Str}{is:List Nat}{scope:Scope}{cl:List (Str×Addr)}{ts:List Expr}{tk:Nat}{az:Pos}{bh:Expr}{ifs:List Expr}{fe:FE}{g:FG}{gt:FB}
theorem aDY(hm:X.mg "zip"=none)(hc:X.calm=true)(k:lX X own frs is scope cl)(h1:QE X a fa)(h2:QE X b fb)(ho:Own own.length g)(hg:∀C s3 H3 fp,QG (gJ X (own++frs) scope cl C s3 H3 fp) (.Tuple ts tk az) g)(ht:∀C s3 H3 fp,QTs (gJ X (own++frs) scope cl C s3 H3 fp) ifs gt)
 (he:∀C s3 H3 fp,QE (gJ X (own++frs) scope cl C s3 H3 fp) bh fe)(ck:Gl X "zip":=by rfl)(hs:∀x,foldedSetIterable (.Call (.Name "zip" p) [a,b] [] p2) X.env x=pure x:=by intro _;rfl)
 (bj:starEach [a,b] X.env=[(false,eval a X.env),(false,eval b X.env)]:=by rfl)(gd:starEach [b] X.env=[(false,eval b X.env)]:=by rfl):
 QN X (.ListComp bh [⟨.Tuple ts tk az,.Call (.Name "zip" p) [a,b] [] p2,ifs,0⟩] scope pos) (qV fa fb own.length is g gt fe):=
 (u4 hc k (aLO ck hm (eT h1 (eT h2 eX (by rw[gd];rfl)) (by rw[bj,gd])) bj gd) hg ht he hs).imp fun _ _ _=>aKw ho
end
variable{c:String}
def IsiV(K:aO)(H:Hp)(x:V)(c:String)(b:Bool):Prop:=match x with
 | .non=>c8 K (.type "NoneType") (.type c)=some b
 | .bl _=>c8 K (.type "bool") (.type c)=some b
 | .int _=>c8 K (.type "int") (.type c)=some b
 | .str _=>c8 K (.type "str") (.type c)=some b
 | .ref a=>((∃xs,SqL K H a xs)/\c8 K (.type "list") (.type c)=some b)\/((∃xs,SqT K H a xs)/\c8 K (.type "tuple") (.type c)=some b)
 |_=>False
theorem aF2:m6 X (.builtin "isinstance") (fun xs H Q=>∃x c b,xs=[x,.ty c]/\IsiV X.K H x c b/\Q (.bl b) H):=by
 intro aa s σ H xs us Q I r h;obtain⟨x,c,b,rfl,hi,q⟩:=h;obtain⟨u,u2,rfl,ru,lz⟩:=r.two;cases lz;have fin:∀tk,EP X aa σ Q (.bool b) {s with toks:=tk}:=fun tk=>⟨.bl b,H,I.tok tk,rfl,q⟩
 cases x with
 |non=>cases ru;exact aOx PySem.W.kitx_none I.kIn True.intro hi (fun z=>nomatch z) fin
 |bl y=>cases ru;exact aOx PySem.W.kitx_bool I.kIn True.intro hi (fun z=>nomatch z) fin
 |int i=>obtain⟨t,q⟩:=ru;cases q;exact aOx PySem.W.kitx_int I.kIn True.intro hi (fun z=>nomatch z) fin
 |str y=>obtain⟨t,q⟩:=ru;cases q;exact aOx PySem.W.kitx_str I.kIn True.intro hi (fun z=>nomatch z) fin
 |ref a=>
  cases ru;rcases hi with⟨⟨xs,hq⟩,hi⟩| ⟨⟨xs,hq⟩,hi⟩
  ·obtain⟨its,_,⟨o,n,e,c,_⟩,_⟩:=I.list hq
   exact aOx PySem.W.kitx_list I.kIn ⟨o,e,c⟩ hi (fun z=>nomatch z) fin
  ·obtain⟨its,_,⟨o,e,c,_⟩,_⟩:=I.tuple hq
   exact aOx PySem.W.kitx_tuple I.kIn ⟨o,e,c⟩ hi (fun z=>nomatch z) fin
 |_=>exact False.elim hi
def aDP(c:String):Prop:=∀(K:aO),c8 K (.type "NoneType") (.type c)=some (c=="NoneType")/\c8 K (.type "bool") (.type c)=some (c=="bool"||c=="int")/\c8 K (.type "int") (.type c)=some (c=="int")/\
 c8 K (.type "str") (.type c)=some (c=="str")/\c8 K (.type "list") (.type c)=some (c=="list")/\c8 K (.type "tuple") (.type c)=some (c=="tuple")
theorem aJy:aDP "int":=fun K=>⟨rfl,rfl,rfl,rfl,rfl,rfl⟩
theorem aIb:aDP "bool":=fun K=>⟨rfl,rfl,rfl,rfl,rfl,rfl⟩
theorem aNX{K:aO}{σ:L2.St}{H:Hp}{Q:VK}(hc:aDP c)(h:trE K (aBr c fa) σ H Q):trE K fa σ H fun x H1=>∃b,IsiV K H1 x c b/\Q (.bl b) H1:=by
 obtain⟨h1,h2,h3,h4,h5,h6⟩:=hc K
 refine iM (aMe h) fun x H1 q=>?_
 obtain⟨t0,H₀,Z,ρ,τ,C,t,C',R,r,e,k⟩:=q;obtain⟨_,_,z,r1,r⟩:=r.cons_inv;cases z;obtain⟨b,e1,e⟩:=aL.mp e;cases e
 refine⟨b,?_,k _ H1 ρ R .bl .refl⟩
 cases t0 with
 |non=>rw[r1.non_inv];exact h1.trans e1
 |bl y=>rw[r1.bl_inv];exact h2.trans e1
 |int i=>rw[r1.int_inv];exact h3.trans e1
 |str y=>
  unfold RT at r1;rw[r1];exact h4.trans e1
 |exc y=>cases e1
 |lst ts=>
  obtain⟨a,vs,ea,qa,ra⟩:=R.li r1 rfl;rw[ea];exact .inl ⟨⟨vs,qa⟩,h5.trans e1⟩
 |tup ts=>
  unfold RT at r1;obtain⟨a,vs,ea,qa,ra⟩:=r1;rw[ea];exact .inr ⟨⟨vs,SqT.msk (.of qa)⟩,h6.trans e1⟩
 |cell c=>cases e1
theorem aLe{x:Str}(hc:aDP c)(hm:X.mg "isinstance"=none)(tj:X.mg x=none)(hv:bootBuiltins x=some (.type c))(ha:QE X a fa)(hg:Gl X "isinstance":=by rfl)(uc:Gl X x:=by rfl)(hn:x≠"__name__":=by decide)(hd:(x==("__debug__":Str))=false:=by decide)
 (h1:starEach [a,.Name x p2] X.env=(false,eval a X.env)::starEach [.Name x p2] X.env:=by rfl)(h2:(backTo pos (starEach [.Name x p2] X.env)).any (·.1)=false:=by rfl):
 QE X (.Call (.Name "isinstance" p) [a,.Name x p2] [] pos) (aBr c fa):=
 (aBN aF2 hg hm boot_isinstance (vD ha (vD (aJT (v:=.ty c) uc tj hv rfl hn hd) aC4 rfl) h1) (by decide) (by decide) h1 h2).imp fun σ H Q h=>iM (aNX hc h) fun x H1 q=>by
  obtain⟨b,h1,h2⟩:=q
  exact⟨x,c,b,rfl,h1,h2⟩
theorem aE7(hm:X.mg "isinstance"=none)(tj:X.mg "int"=none)(ha:QE X a fa)(hg:Gl X "isinstance":=by rfl)(uc:Gl X "int":=by rfl)(h1:starEach [a,.Name "int" p2] X.env=(false,eval a X.env)::starEach [.Name "int" p2] X.env:=by rfl)(h2:(backTo pos (starEach [.Name "int" p2] X.env)).any (·.1)=false:=by rfl):
 QE X (.Call (.Name "isinstance" p) [a,.Name "int" p2] [] pos) (aBr "int" fa):=aLe aJy hm tj boot_int ha hg uc (by decide) (by decide) h1 h2
theorem aC6(hm:X.mg "isinstance"=none)(tj:X.mg "bool"=none)(ha:QE X a fa)(hg:Gl X "isinstance":=by rfl)(uc:Gl X "bool":=by rfl)(h1:starEach [a,.Name "bool" p2] X.env=(false,eval a X.env)::starEach [.Name "bool" p2] X.env:=by rfl)(h2:(backTo pos (starEach [.Name "bool" p2] X.env)).any (·.1)=false:=by rfl):
 QE X (.Call (.Name "isinstance" p) [a,.Name "bool" p2] [] pos) (aBr "bool" fa):=aLe aIb hm tj boot_bool ha hg uc (by decide) (by decide) h1 h2
end
end TL
namespace TL
open PySem PySem.W PySem.Calls PyProof.Rows L2
theorem bitsW{n:Int}(h:(WData.int n).layable=true):Builtin.Int.intBits n<=2^20:=by
 obtain⟨_,_,h3⟩:=layableW_iff.mp h;unfold WData.weight at h3;unfold Builtin.Int.intBits
 exact h3
theorem aBi{ns:List Int}(h:WData.layableAll [WData.list (ns.map WData.int)]=true):∀n∈ns,Builtin.Int.intBits n<=2^20:=fun n hn=>
 bitsW (layableW_item (layableW_arg h _ bJ) _ (bI.mpr ⟨n,hn,rfl⟩))
theorem aEK{l:aP4}{k:Nat}{q:Program}{loose:List Str}{XP:(Str->Option Value)->Heap->Prop}{YP:World->Heap->Prop}{d:DefRec}{K:Params->aO}{x:Str}{R:List T->Option T}
 (hn:l.most=some 63)(hdf:d.params.defaults=[])(hr:Room k callerA)
 (hY:∀(w:World)(h:Heap),YP w h->(K w.params).In h)
 (hR:∀ns:List Int,ns.length<=63->(∀n∈ns,Builtin.Int.intBits n<=2^20)->R [.lst (ns.map T.int)]=some (.bl true))
 (F:∀(w:World)(mg:Str->Option Value)(fa:Addr)(h:Heap),(K w.params).In h->h.Ns mainGlobals mg->mg d.name=some (.ref fa)->
  ∃fd:FuncData,(∀(s:Shared)(u:Value),BindsTo s fd ⟨[u],[]⟩ [(x,u)])/\
   ∀base:Heap,(K w.params).In base->base.Ns mainGlobals mg->mW l.prog w (K w.params) mg base CX0 k fa fd [x] (spT (K w.params) 1 R)):
 PySem.W.WalkO q loose XP YP l.row.toRowW d [] (fun f vs=>PySem.call f vs):=by
 intro w s₀ ak mg mb G Y fa o pm cd doc dV kV ho hd jc hD ym hg args vals as ir tt sr ip hlo;obtain rfl:dV=.none:=Dflts.none hD hdf;obtain rfl:kV=.none:=Dflts.noKw hD;obtain⟨a,vs,ns,rfl,rfl,sw,hints,aj⟩:=Att.aFe hn ir ip;have KX:=hY w _ Y;obtain⟨fd,hb,hF⟩:=F w mg fa _ KX G.T.g ym;have il:∀H:Hp,Only H->SqL (K w.params) H a (ns.map V.int)->spT (K w.params) 1 R [.ref a] H (fun v _=>v=.bl true) fun _ _ _=>False:=fun H _ hS=>by
  refine⟨fun _=>False,[.lst (ns.map T.int)],.bl true,rfl,fun _ z=>z.elim,.cons ?_ .nil,hR ns aj (aBi tt),fun v H' _ r=>r.bl_inv⟩
  unfold RT;have sm:Same H (mask H (fun _=>False) []):=fun b o e=>mG (fun z=>z) (by simp) e
  refine⟨a,_,rfl,sm.seq hS,?_⟩
  clear hS sw hints aj tt ir sr ip;induction ns with
  |nil=>exact .nil
  |cons n ns ih=>exact .cons .int ih
 refine enter_call (codeAny_mono (aHj KX G.T.g G.T.b G.T.builtins G.T.nolimit hg sw hints (cA aj (by decide)) hr hF hb il (fun H e s' z=>z)) fun r s' hq=>?_)
 obtain⟨rfl,h2,h3,h4⟩:=hq
 exact⟨.inl ⟨.bool true,.bool true,[],rfl,fun _=>rfl,.bool true,Att.aET l _,fun _=>⟨List.Pairwise.nil,fun _ hm=>(nomatch hm)⟩⟩,h2,h3,h4⟩
end TL
namespace TL
open PySem PySem.Spec PyProof.Rows L2
theorem aFF(a d:Value):argsOk "max" ⟨[a],[("default",d)]⟩:=by unfold argsOk;kernel_rfl
noncomputable abbrev aDx(us:Array Value)(c:Nat):Obj:={cls:=.type "list",dict:=none,data:=.seq us c,slots:=#[]}
section
variable {P:Program}{w:World}{A:Around}{R:Result->Shared->Prop}{it bs:Addr}{fp wr:List Addr}{n:Nat}{Pr:Nat->Value->Prop}{St:Nat->Heap->Prop}{lb:List (Str×Value)}{bt:Nat->Nat->Bool}
variable{s:Shared}{c:Nat}
theorem aAM:(toString "max"++toString ".loop":String)="max.loop":=by decide
theorem aFu(W:Walks P w A.in1 it fp wr n Pr St)(na:CmpOf P w A.in1 .Gt Pr bt)(jn:bs∉fp):∀(k j:Nat)(s:Shared)(vb:Value)(c:Nat),n - (j+1)=k->j+1<=n->St (j+1) s.heap->Pr (argBest bt j) vb->s.heap.get? bs=some (aDx #[vb,vb] c)->
 (∀v g tk,Pr (argBest bt (n - 1)) v->(∀b o,b∉wr->b≠bs->s.heap.get? b=some o->g.get? b=some o)->R (.ok (.ret v)) {s with heap:=g,toks:=tk})->codeAny (model P w) A (.builtin "max.loop" ⟨[.ref it,.none,.ref bs],lb⟩) R s:=by
 have nw:bs∉wr:=fun q=>jn (W.sub _ q)
 intro k;induction k with
 |zero=>
  intro j s vb c ek ej st pb eb fin;have en:j+1=n:=by lia
  refine codeAny_builtin PySem.F.entry_max_loop (by
   rw[Around.under_plainId PySem.F.plain_max_loop _];show wpAny _ A.in1 (seqItems? (.ref bs)>>=_) _ _ s
   refine wpAny_bind (wpAny_seqItems eb rfl ?_)
   show wpAny _ A.in1 (tryCatch (pyNext (.ref it)) _>>=_) _ _ s
   refine wpAny_bind (wpAny_tryCatch (W.done s _ _ (en ▸ st) fun g tk kp=>?_))
   have lr:=kp bs _ nw eb;show wpAny _ A.in1 (updateSeq bs (fun _=>#[])>>=_) _ _ _
   exact wpAny_bind (wpAny_updateSeq lr rfl (wpAny_bind (wpAny_letGo (wpAny_pure (fin vb _ tk (by rw[<-en];exact pb) fun b o z1 z2 e=>(Heap.get?_update_other _ _ (Ne.symm z2)).trans (kp b o z1 e)))))))
 |succ k ih=>
  intro j s vb c ek ej st pb eb fin;have lt:j+1<n:=by lia
  refine codeAny_builtin PySem.F.entry_max_loop (by
   rw[Around.under_plainId PySem.F.plain_max_loop _];show wpAny _ A.in1 (seqItems? (.ref bs)>>=_) _ _ s
   refine wpAny_bind (wpAny_seqItems eb rfl ?_)
   show wpAny _ A.in1 (tryCatch (pyNext (.ref it)) _>>=_) _ _ s
   refine wpAny_bind (wpAny_tryCatch (W.item (j+1) s _ _ lt st fun v g tk pv ba kp=>?_))
   have lr:=kp bs _ nw eb;show wpAny _ A.in1 (tryCatch (holding [v,v] (richCompare .Gt v vb>>=_)) _>>=_) _ _ _
   refine wpAny_bind (wpAny_tryCatch (wpAny_holding (wpAny_bind (na (j+1) (argBest bt j) v vb _ _ _ pv pb (wpAny_bind (wpAny_holding (wpAny_truthy_bool (wpAny_bind (wpAny_letGo (wpAny_pure ?_))))))))))
   cases hb:bt (j+1) (argBest bt j)with
   |true=>
    simp only[if_true]
    refine wpAny_bind (wpAny_updateSeq lr rfl (wpAny_bind (wpAny_letGo ?_)))
    rw[aAM]
    refine wpAny_pure ⟨plainId_quiet PySem.F.plain_max_loop _,ih (j+1) _ v _ (by lia) lt (W.frame _ _ _ ba fun b z o e=>?_) (by simp only[argBest,hb,if_true];exact pv) (Heap.get?_update_self _ lr rfl) fun v' g' qp ma rm=>?_⟩
    ·exact(Heap.get?_update_other _ _ (fun q:bs=b=>jn (by rw[q];exact z))).trans e
    ·exact fin v' g' qp ma fun b o z1 z2 e=>rm b o z1 z2 ((Heap.get?_update_other _ _ (Ne.symm z2)).trans (kp b o z1 e))
   |false=>
    simp only[cD,if_false]
    refine wpAny_bind (wpAny_letGo ?_)
    rw[aAM]
    refine wpAny_pure ⟨plainId_quiet PySem.F.plain_max_loop _,ih (j+1) _ vb c (by lia) lt ba (by simp only[argBest,hb,cD,if_false];exact pb) lr fun v' g' qp ma rm=>?_⟩
    exact fin v' g' qp ma fun b o z1 z2 e=>rm b o z1 z2 (kp b o z1 e))
theorem aCX(W:Walks P w A.in1 it fp wr n Pr St)(na:CmpOf P w A.in1 .Gt Pr bt)(jn:bs∉fp)(hn:0<n)(st:St 0 s.heap)(eb:s.heap.get? bs=some (aDx #[] c))
 (fin:∀v g tk,Pr (argBest bt (n - 1)) v->(∀b o,b∉wr->b≠bs->s.heap.get? b=some o->g.get? b=some o)->R (.ok (.ret v)) {s with heap:=g,toks:=tk}):codeAny (model P w) A (.builtin "max.loop" ⟨[.ref it,.none,.ref bs],lb⟩) R s:=by
 have nw:bs∉wr:=fun q=>jn (W.sub _ q)
 refine codeAny_builtin PySem.F.entry_max_loop (by
  rw[Around.under_plainId PySem.F.plain_max_loop _];show wpAny _ A.in1 (seqItems? (.ref bs)>>=_) _ _ s
  refine wpAny_bind (wpAny_seqItems eb rfl ?_)
  show wpAny _ A.in1 (tryCatch (pyNext (.ref it)) _>>=_) _ _ s
  refine wpAny_bind (wpAny_tryCatch (W.item 0 s _ _ hn st fun v g tk pv ba kp=>?_))
  have lr:=kp bs _ nw eb;show wpAny _ A.in1 (updateSeq bs (fun _=>#[v,v])>>=_) _ _ _
  refine wpAny_bind (wpAny_updateSeq lr rfl ?_)
  rw[aAM]
  refine wpAny_pure ⟨plainId_quiet PySem.F.plain_max_loop _,aFu W na jn _ 0 _ v _ rfl hn (W.frame _ _ _ ba fun b z o e=>?_) pv (Heap.get?_update_self _ lr rfl) fun v' g' qp ma rm=>?_⟩
  ·exact(Heap.get?_update_other _ _ (fun q:bs=b=>jn (by rw[q];exact z))).trans e
  ·exact fin v' g' qp ma fun b o z1 z2 e=>rm b o z1 z2 ((Heap.get?_update_other _ _ (Ne.symm z2)).trans (kp b o z1 e)))
theorem aFh{d:Value}{nm:Str}(W:Walks P w A.in1 it fp wr 0 Pr St)(jn:bs∉fp)(st:St 0 s.heap)(eb:s.heap.get? bs=some (aDx #[] c))
 (fin:∀g tk,(∀b o,b∉wr->b≠bs->s.heap.get? b=some o->g.get? b=some o)->R (.ok (.ret d)) {s with heap:=g,toks:=tk}):codeAny (model P w) A (.builtin "max.loop" ⟨[.ref it,.none,.ref bs],[(nm,d)]⟩) R s:=by
 refine codeAny_builtin PySem.F.entry_max_loop (by
  rw[Around.under_plainId PySem.F.plain_max_loop _];show wpAny _ A.in1 (seqItems? (.ref bs)>>=_) _ _ s
  refine wpAny_bind (wpAny_seqItems eb rfl ?_)
  show wpAny _ A.in1 (tryCatch (pyNext (.ref it)) _>>=_) _ _ s
  refine wpAny_bind (wpAny_tryCatch (W.done s _ _ st fun g tk kp=>?_))
  exact wpAny_bind (wpAny_rule (wpAny_pure (fin g tk fun b o z1 _ e=>kp b o z1 e))))
end
section
variable {X:Cx}{aa:List (Addr×Obj)}{σ:L2.St}{H:Hp}{s:Shared}{Q:VK}
theorem aEN{p:Addr}{ns:List Int}{d:Int}{t:Tok}(hc:X.calm=true)(I:Inv X aa σ H s)(hq:SqL X.K H p (ns.map V.int))(q:Q (.int (jQ d ns)) H):
 wpAny (model X.prog X.w) X.A (call (.builtin "max") [.ref p] [("default",.int d t)]) (EP X aa σ Q) X.xe s:=by
 obtain⟨its,rv,pl,hz⟩:=I.list hq;have hi:=oI rv;obtain⟨ys,hx⟩:=hi.allInts.items;have eh:s.heap.IsList p (intItems ys):=hx ▸ pl.isList;have gf:ns=ys.toList.map (·.1):=by
  rw[<-nums_intItems,<-hx]
  exact(show numsOf its.toArray.toList=ns from hi.numsOf).symm
 refine kmk_tree PySem.F.kind_max PySem.F.plain_max PySem.F.entry_max (aFF _ _) ?_
 show wpAny _ X.A.in1 (Builtin.Builtins.bindParams "max" ["key","default"] 0 ⟨[],[("default",.int d t)]⟩>>=_) _ _ s
 refine wpAny_bind (wpAny_of_eq (show Builtin.Builtins.bindParams "max" ["key","default"] 0 ⟨[],[("default",.int d t)]⟩=pure [none,some (.int d t)]from rfl) (wpAny_bind (wpAny_pure ?_)))
 refine wpAny_bind (iter_intList eh fun s2 e2 st fp ne=>?_)
 subst e2;have W:=Walks.list (prog:=X.prog) (w:=X.w) (A:=X.A.in1) (I.ok.hd hc) s.heap.objs.size p ne (intItems ys);have jn:(s.heap.push {cls:=.type "list_iterator",data:=.fields #[.ref p,.int 0 0]}).objs.size∉[s.heap.objs.size,p]:=fun z=>cV _ (fp _ z)
 refine wpAny_bind (wpAny_newObj_type ?_)
 rw[aAM]
 refine wpAny_pure ⟨plainId_quiet PySem.F.plain_max_loop _,?_⟩
 by_cases he:ns=[]
 ·have hsz:(intItems ys).size=0:=by
   have h3:ns.length=0:=by rw[he];rfl
   rw[gf,aP,b9]at h3;simpa[intItems]using h3
  rw[hsz]at W
  refine aFh W jn (W.frame _ _ _ st fun b _ o e=>Heap.get?_push_of_some _ e) (Heap.get?_push_size _ rfl) fun g tk kp=>?_
  refine⟨.int d,H,I.kept fun b o e=>kp b o (fun z=>?_) (bX (aPq (Heap.lt_size e) (by rw[Heap.size_push];exact eK _))) (Heap.get?_push_of_some _ (Heap.get?_push_of_some _ e)),⟨_,rfl⟩,?_⟩
  ·exact cV _ (bO.mp z ▸ Heap.lt_size e)
  ·have:jQ d ns=d:=by unfold jQ;rw[he];rfl
   rw[this]at q;exact q
 ·have hsz:0<ys.size:=by
   have h3:0<ns.length:=eJ.mpr he;rw[gf,aP,b9]at h3;exact h3
  refine aCX W (bt:=fun i j=>decide (numAt ys i>numAt ys j)) (CmpOf.ints_gt (numAt ys) (fun _ _=>intItems_at)) jn (by simpa[intItems]using hsz) (W.frame _ _ _ st fun b _ o e=>Heap.get?_push_of_some _ e) (Heap.get?_push_size _ rfl) fun v g tk pv kp=>?_
  have ma:(intItems ys)[argBest (fun i j=>decide (numAt ys i>numAt ys j)) (ys.size - 1)]?=some v:=by simpa[intItems]using pv
  obtain⟨t',rfl⟩:=intItems_at ma;obtain⟨h1,h2⟩:=argBest_gt (numAt ys) (ys.size - 1);obtain⟨m1,m2⟩:=yZ he;have eM:numAt ys (argBest (fun i j=>decide (numAt ys i>numAt ys j)) (ys.size - 1))=tQ ns:=by
   apply eB
   ·refine m2 _ ?_
    generalize argBest (fun i j=>decide (numAt ys i>numAt ys j)) (ys.size - 1)=j at*;rw[gf,numAt_eq];exact getD_mem (by rw[aP,b9];lia)
   ·generalize tQ ns=M at*;rw[gf]at m1;obtain⟨j,hj,ej⟩:=mem_getD m1;rw[aP,b9]at hj;rw[<-ej,<-numAt_eq];exact h2 j (by lia)
  refine⟨.int (tQ ns),H,I.kept fun b o e=>kp b o (fun z=>?_) (bX (aPq (Heap.lt_size e) (by rw[Heap.size_push];exact eK _))) (Heap.get?_push_of_some _ (Heap.get?_push_of_some _ e)),⟨_,by rw[eM]⟩,?_⟩
  ·exact cV _ (bO.mp z ▸ Heap.lt_size e)
  ·have:jQ d ns=tQ ns:=by
    unfold jQ;rw[if_neg (by simpa using he)]
   rw[this]at q;exact q
end
def aDO(K:aO):R2:=fun x y H Q=>∃p ns d,x=.ref p/\y=.int d/\SqL K H p (ns.map V.int)/\Q (.int (jQ d ns)) H
theorem aNh{K:aO}{σ:L2.St}{H:Hp}{Q:VK}{x y:V}(h:∃t1 t2,trV K σ [t1,t2] [x,y] (aBO t1 t2) H Q):aDO K x y H Q:=by
 obtain⟨t1,t2,H₀,Z,ρ,τ,C,t,C',R,r,e,k⟩:=h;obtain⟨_,_,z,r1,r⟩:=r.cons_inv;cases z;obtain⟨_,_,z,r2,r⟩:=r.cons_inv;cases z;unfold aBO at e;split at e
 ·obtain⟨us,e1,e⟩:=aK.mp e;obtain⟨ns,e2,e⟩:=aL.mp e;cases e;obtain⟨a,vs,ea,qa,ra⟩:=R.li r1 e1;have:=zJ ra e2;subst this
  exact⟨a,ns,_,ea,r2.int_inv,qa,k _ H ρ R .int .refl⟩
 ·cases e
section
variable {X:Cx}{p pos kp:Pos}{e de:Expr}{ta tb:TE}{fa fb:FE}
theorem aIE(hm:X.mg "max"=none)(hc:X.calm=true)(ha:PE X e ta)(hb:PE X de tb)(hg:Gl X "max":=by rfl)
 (he:backTo pos (starEach [e] X.env)=(false,eval e X.env)::backTo pos (starEach [] X.env):=by rfl)(ay:(backTo pos (starEach [e] X.env)).any (·.1)=false:=by rfl)
 (xy:starEach [e] X.env=(false,eval e X.env)::starEach [] X.env:=by rfl):
 PE X (.Call (.Name "max" p) [e] [⟨some "default",de,kp⟩] pos) (tOp (aDO X.K) ta tb):=by
 intro aa s σ H Q I h
 refine wpAny_Call_Name_kw (o7 I hg hm boot_max ?_ (by decide) (by decide))
 refine aQa (thn ((vD ha aC4 xy) pos aa s σ H (fun vs H1=>match vs with
  | [x]=>tb σ H1 fun y H2=>aDO X.K x y H2 Q
  |_=>False) I h) fun us s1 ⟨vs,H1,I1,r1,q1⟩=>?_) he ay rfl rfl
 match vs,r1,q1 with
 | [x],r1,q1=>
   obtain⟨u,rfl,ru⟩:=vals1 r1
   refine thn ((aIz hb aMw) pos aa s1 σ H1 (fun vs H2=>match vs with
    | [y]=>aDO X.K x y H2 Q
    |_=>False) I1 q1) fun ws s2 ⟨zs,H2,I2,r2,q2⟩=>?_
   match zs,r2,q2 with
   | [y],r2,q2=>
     obtain⟨u2,rfl,lz⟩:=vals1 r2;obtain⟨p,ns,d,rfl,rfl,hq,q⟩:=q2;cases ru;obtain⟨t,rfl⟩:=lz
     exact aEN hc I2 hq q
   | [],_,q2=>exact q2.elim
   |_::_::_,_,q2=>exact q2.elim
 | [],_,q1=>exact q1.elim
 |_::_::_,_,q1=>exact q1.elim
theorem aIn(hm:X.mg "max"=none)(hc:X.calm=true)(ha:QE X e fa)(hb:QE X de fb)(hg:Gl X "max":=by rfl)
 (he:backTo pos (starEach [e] X.env)=(false,eval e X.env)::backTo pos (starEach [] X.env):=by rfl)(ay:(backTo pos (starEach [e] X.env)).any (·.1)=false:=by rfl)
 (xy:starEach [e] X.env=(false,eval e X.env)::starEach [] X.env:=by rfl):
 QE X (.Call (.Name "max" p) [e] [⟨some "default",de,kp⟩] pos) (aHu fa fb):=(aIE hm hc ha hb hg he ay xy).imp fun _ _ _=>xW (fun _ _ _ _ _=>aNh)
end
section
variable {P:Program}{w:World}{A:Around}{E:Value->Shared->Prop}{s:Shared}{z TI TO i1 i2 l1 l2:Addr}{k1 k2:Nat}{xs ys:Array Value}{x y a b f0 f1:Value}
end
section
variable {X:Cx}{a b e:Expr}{fa fb:FE}{pos p p2:Pos}
variable {own frs:List Str}{is:List Nat}{scope:Scope}{cl:List (Str×Addr)}{x:Str}{az:Pos}{bh:Expr}{ifs:List Expr}{fe:FE}{g:FG}{gt:FB}
end
section
variable {X:Cx}{a e:Expr}{te:TE}{fa:FE}{pos p2 p3 p4:Pos}
end
section
variable {X:Cx}{a b:Expr}{fa fb:FE}
end
section
variable {X:Cx}{a e tg:Expr}{fa:FE}{pos p p2:Pos}{dg:List Stmt}{F:FS}{g:FG}
end
section
variable {X:Cx}{st:Stmt}{dg:List Stmt}{F G:FS}
end
end TL
namespace TL
open PySem L2
abbrev XF:=TSt->Sto->Option (String×Sto)
noncomputable def fX(x:XF)(F:FS):FS:=fun τ C=>match x τ C with
 |some (c,C')=>some (.ex c,τ,C')
 |none=>F τ C
noncomputable def fRaise(c:String)(fa:FN):FS:=fun τ C=>(fa τ C).bind fun p=>if p.1.length<=10 then some (.ex c,τ,p.2)else none
def gX(n:Nat)(G:List T->Option String)(ts:List T)(C:Sto):Option String:=if ts.length=n then(if CFs ts=true then G ts else(mapO (dr 3 C) ts).bind G)else none
def xCall(n:Nat)(G:List T->Option String)(fa:FN):XF:=fun τ C=>(fa τ C).bind fun p=>(gX n G p.1 p.2).map fun c=>(c,p.2)
def aMj(B:FS)(m:Nat)(ts:List T):Option String:=match B (st0 m ts) []with
 |some (.ex c,_,_)=>some c
 |_=>none
def xApp(fo:FE)(x:XF):XF:=fun τ C=>(fo τ C).bind fun p=>match p.1 with
 | .cell c=>(lc p.2 c).bind fun _=>x τ p.2
 |_=>none
section
variable {K:aO}{σ:L2.St}{H:Hp}{Q:VK}
end
end TL
namespace TL
open PySem PySem.Spec PyProof.Rows L2
section
variable {K:aO}{W:XW}{σ:L2.St}{H:Hp}{x:XF}
end
section
variable {X:Cx}{aa:List (Addr×Obj)}{σ:L2.St}{H:Hp}{s:Shared}{k:Nat}{f:Addr}{fd:FuncData}{ps:List Str}{sp:Sp}{e a b:Expr}{es:List Expr}{pos p:Pos}{x:XF}{fa fb:FE}{fr:FN}{st:Stmt}{F:FS}
end
abbrev mroVE:List Value:=[.type "ValueError",.type "Exception",.type "BaseException",.type "object"]
structure ExC(K:aO)(mg:Str->Option Value)(c:String)(C:Addr):Prop where
 nm:Named K c C
 mg:mg (Str.ofString c)=some (.ref C)
 ok:aPH K C mroVE "ValueError.__new__"=true
section
variable {X:Cx}{aa:List (Addr×Obj)}{σ:L2.St}{H:Hp}{s:Shared}{c:String}{C:Addr}{e₀:Expr}{rest:List Expr}{np al pos:Pos}{fa:FN}
end
section
variable {P:Program}{w:World}{K:aO}{mg:Str->Option Value}{base:Heap}
end
end TL
namespace PySem
end PySem
namespace TL
open PySem PySem.Spec PyProof.Rows L2
section
variable {X:Cx}{aa:List (Addr×Obj)}{σ:L2.St}{H H':Hp}{s s':Shared}{c:String}{C a:Addr}{B:Heap}
abbrev Cx.at(X:Cx)(A:Around)(calm:Bool)(pn:List (Addr×Obj))(xe:Value->Shared->Prop):Cx:={X with A:=A,calm:=calm,pn:=pn,xe:=xe}
end
structure Tab(K:aO)(mg:Str->Option Value)(tab:String->List String)(rs ds:List String):Prop where
 dom:∀c,tab c≠[]->c∈rs
 own:∀d∈ds,∃D,ExC K mg d D/\aPz K (.ref D)=some (.type "type")
 cls:∀c C,c∈rs->Named K c C->aPH K C mroVE "ValueError.__new__"=true/\bU K (.ref C) "__getattribute__"=some (some (.builtin "BaseException.__getattribute__"))/\bU K (.ref C) "__getattr__"=some none/\aOL K C (.type "BaseException")=some true/\bU K (.ref C) "__class__"=some (some (.builtin "object.__class__"))/\aOL K C (.type "object")=some true
 ve:∀c C,c∈rs->Named K c C->aQb K (.ref C) (.type "ValueError")=some ((tab c).contains "ValueError")
 sub:∀c C d D,c∈rs->d∈ds->Named K c C->Named K d D->aOL K C (.ref D)=some ((tab c).contains d)
section
variable {X:Cx}{tab:String->List String}{rs ds:List String}{d:String}{i:Nat}{n:Str}{F G:FS}{body suite:List Stmt}{b₀:Stmt}{np mr pos:Pos}
end
end TL
namespace PySem.W
open PySem PySem.Spec PySem.Calls PyProof.Rows Builtin Builtin.ObjectAttr Builtin.Getset_descriptor
section
variable {prog:Program}{w:World}{A:Around}{E:Value->Shared->Prop}{s:Shared}{K:Frag}{x C D:Addr}{name:Str}{R:Result->Shared->Prop}
end
section
variable {prog:Program}{w:World}{A:Around}{E:Value->Shared->Prop}{K:Frag}{x C:Addr}{R:Result->Shared->Prop}{h:Heap}{g:Array GenState}{d:Drawn}{t:Nat}{os:OsState}
end
end PySem.W
namespace TL
open PySem PySem.Spec PyProof.Rows L2
section
variable {X:Cx}
variable {tab:String->List String}{rs ds0:List String}{a:Expr}{fa:FE}{p pos az p2:Pos}{d:String}{ds:List String}{es:List Expr}
end
section
variable {X:Cx}{a e:Expr}{es:List Expr}{fa:FE}{x:XF}{pos:Pos}
end
section
variable {X:Cx}{e:Expr}{es:List Expr}{fr:FN}{p pos:Pos}
end
theorem r9{K:aO}{c:String}{C D:Addr}(h:Named K c C)(h':Named K c D):C=D:=by
 unfold Named at h h';rw[h]at h';cases h';rfl
theorem Tab.of{K:aO}{mg:Str->Option Value}{tab:String->List String}{rl dl:List (String×Addr)}(hr:∀p∈rl,Named K p.1 p.2)(dom:∀c,tab c≠[]->c∈rl.map (·.1))
 (own:∀p∈dl,ExC K mg p.1 p.2/\aPz K (.ref p.2)=some (.type "type"))
 (cls:∀p∈rl,aPH K p.2 mroVE "ValueError.__new__"=true/\bU K (.ref p.2) "__getattribute__"=some (some (.builtin "BaseException.__getattribute__"))/\bU K (.ref p.2) "__getattr__"=some none/\aOL K p.2 (.type "BaseException")=some true/\bU K (.ref p.2) "__class__"=some (some (.builtin "object.__class__"))/\aOL K p.2 (.type "object")=some true)
 (ve:∀p∈rl,aQb K (.ref p.2) (.type "ValueError")=some ((tab p.1).contains "ValueError"))
 (sub:∀p∈rl,∀q∈dl,aOL K p.2 (.ref q.2)=some ((tab p.1).contains q.1)):Tab K mg tab (rl.map (·.1)) (dl.map (·.1)):=by
 refine⟨dom,fun d hd=>?_,fun c C hc hn=>?_,fun c C hc hn=>?_,fun c C d D hc hd hn jl=>?_⟩
 ·obtain⟨p,hp,rfl⟩:=bI.mp hd
  exact⟨p.2,own p hp⟩
 ·obtain⟨p,hp,rfl⟩:=bI.mp hc;rw[r9 hn (hr p hp)]
  exact cls p hp
 ·obtain⟨p,hp,rfl⟩:=bI.mp hc;rw[r9 hn (hr p hp)]
  exact ve p hp
 ·obtain⟨p,hp,rfl⟩:=bI.mp hc;obtain⟨q,hq,rfl⟩:=bI.mp hd;rw[r9 hn (hr p hp),r9 jl (own q hq).1.nm]
  exact sub p hp q hq
section
variable {X:Cx}{a b e de:Expr}{fa fb:FE}{x:XF}{p pos kp:Pos}
end
end TL
namespace TL
open PySem L2
def y7(fo fi fe:FE):FS:=fun τ C=>(fo τ C).bind fun q=>(fi τ q.2).bind fun r=>match q.1,r.1 with
 | .cell c,.int i=>(lc r.2 c).bind fun ts=>(atI ts i).bind fun old=>match old with
   | .int x=>(fe τ r.2).bind fun p=>match p.1 with
     | .int y=>(lc p.2 c).bind fun us=>(ixN us.length i).map fun j=>(.nx,τ,p.2.set c (.l,us.set j (.int (x+y))))
     |_=>none
   |_=>none
 |_,_=>none
abbrev uC(a b:FE):FE:=iU a b (gIc (fun _ j=>decide (0<j/\j<2^250)) fun i j=>.int (i/j))
def qM(fa:FN):FE:=mX fa fun ts C=>if ts.length<=lim then some (.tup ts,C)else none
section
variable {K:aO}{W:XW}{σ:St}{H:Hp}
theorem aL3{fo fi fe:FE}{D:Ends}(h:trS K W (y7 fo fi fe) D σ H):tAugS (trE K fo) (trE K fi) (trE K fe) (aKb K) (ipI fun i j=>i+j) aFZ D σ H:=by
 obtain⟨H₀,Z,ρ,τ,C,fl,ag,C',R,e,k⟩:=h;unfold y7 at e;obtain⟨⟨t1,C1⟩,e1,e⟩:=aK.mp e;obtain⟨⟨t2,C2⟩,e2,e⟩:=aK.mp e
 refine⟨H₀,Z,ρ,τ,C,t1,C1,R,e1,fun y H1 af R1 h1 s1=>?_⟩
 refine⟨H₀,Z,af,τ,C1,t2,C2,R1,e2,fun z H2 aw R2 h2 s2=>?_⟩
 dsimp only at e;split at e
 ·obtain⟨ts,e3,e⟩:=aK.mp e;obtain⟨old,e4,e⟩:=aK.mp e;split at e
  ·rename_i x;obtain⟨⟨t3,C3⟩,e5,e⟩:=aK.mp e;dsimp only at e;split at e
   ·rename_i w;obtain⟨us,e6,e⟩:=aK.mp e;obtain⟨j,e7,e⟩:=aL.mp e;cases e;have jf:=h1.step s2;obtain⟨a,vs,ea,qa,ra⟩:=R2.li jf (ts:=ts) e3;obtain⟨v,q1,q2⟩:=aIy ra e4
    refine⟨a,vs,_,v,ea,h2.int_inv,qa,q1,?_⟩
    refine⟨H₀,Z,aw,τ,C2,_,C3,R2,e5,fun u H3 bd R3 h3 s3=>?_⟩
    refine⟨x,w,q2.int_inv,h3.int_inv,?_⟩
    have um:=jf.step s3;unfold RT at um;obtain⟨a',zl,oe⟩:=um;obtain⟨vs',c2,c3⟩:=R3.celL oe (gP.mp e6);obtain⟨w1,w2⟩:=R3.write oe (by rw[c2];trivial) (c3.set (t:=.int (x+w)) (v:=.int (x+w)) .int j)
    exact⟨a',vs',_,j,zl,h2.int_inv,c2,by rw[c3.length];exact e7,k σ _ bd w1 (((s1.trans s2).trans s3).ss.trans w2)⟩
   ·cases e
  ·cases e
 ·cases e
theorem aMr{fa:FN}{Q:VK}(hz:lim<=sizeLine)(h:trE K (qM fa) σ H Q):tTup (trA K fa) σ H Q:=by
 obtain⟨H₀,Z,ρ,τ,C,ts,C',R,e,k⟩:=aBy h
 refine⟨H₀,Z,ρ,τ,C,ts,C',R,e,fun vs H1 af R1 h1 s1=>?_⟩
 obtain⟨us,jg,Z',ae,ag,C1,t,C2,R',r,e,k⟩:=k vs H1 af R1 h1 s1;split at e
 ·rename_i hl;cases e
  exact⟨by rw[r.length];exact cA hl hz,fun p hp=>k _ _ ae (R'.alloc hp).1 (R'.alloc_tup hp r) (R'.alloc hp).2⟩
 ·cases e
end
end TL
namespace TL
open PySem PySem.Spec PyProof.Rows L2
section
variable {X:Cx}{a b c e:Expr}{es:List Expr}{fa fb fc:FE}{fr:FN}{p pos:Pos}
theorem aFx:PGet X (aKb X.K):=by
 intro aa s σ H o i ov iv Q I rx ry h;obtain⟨p,xs,i,z,rfl,rfl,hq,he,q⟩:=h;cases rx;obtain⟨t,rfl⟩:=ry;obtain⟨its,r,pl,hz⟩:=I.list hq;obtain⟨j,h1,h2,h3,h4,h5⟩:=vK he;obtain⟨w,ew,dh⟩:=r.get h2;have hl:=r.length;have hn:=line63;have fin:EP X aa σ Q w s:=⟨z,H,I,dh,q⟩;by_cases h0:0<=i
 ·have hj:i.toNat=j:=by
   rw[seqIndex_of h0 h5]at h1
   exact cH.inj h1
  exact wpAny_getItem_list pl.isList h0 (by lia) (by rw[hj];simpa using ew) fin
 ·have hj:(i+(its.toArray.size:Int)).toNat=j:=by
   rw[seqIndex_neg (by lia) h4]at h1;rw[bF,<-hl]
   exact cH.inj h1
  exact wpAny_getItem_list_neg pl.isList (by lia) (by rw[bF]<;>lia) (by lia) (by rw[hj];simpa using ew) fin
theorem aI0(ho:QE X a fa)(hi:QE X b fb)(hv:QE X c fc)
 (ha:∀ov iv new,augStore b ov iv new=(do holding [new,ov,iv] (setItem ov iv new);release [new,ov,iv] [];pure .next):=by intros;rfl):QS X (.AugAssign (.Subscript a b p) .Add c pos) (y7 fa fb fc):=
 (aKH ho hi aFx hv aMB aCc ha).imp fun _ _ _=>aL3
theorem aAy{k}(h:QA X es fr):QE X (.Tuple es k pos) (qM fr):=(aMk h).imp fun _ _ _=>aMr lD
theorem small300{j:Int}(h:0<j/\j<2^250):j.natAbs.log2<9000:=by
 have h0:j.natAbs≠0:=by lia
 have:j.natAbs<2^250:=by
  have h2:=h.2;have:((j.natAbs:Nat):Int)<((2^250:Nat):Int):=by
   rw[aPB (by lia)];simpa using h2
  exact aQj.mp this
 have:=(aQv h0).mpr this
 lia
theorem aIt:OpR X (binaryOp .FloorDiv) (rI (fun _ j=>0<j/\j<2^250) fun i j=>.int (i/j)):=opI fun i j _ _ _ _ _ hc q=>by
 have h1:(0:Int)<j:=hc.1
 exact floordiv_int (by lia) (by rw[aO9 i (by lia)];exact q) (.inl (PyProof.noPylong_of_log2 (small300 hc)))
theorem vG(ha:QE X a fa)(hb:QE X b fb):QE X (.BinOp a .FloorDiv b pos) (uC fa fb):=(t6 aIt ha hb).imp fun _ _ _=>xW fun _ _ _ _ _ h=>by
 obtain⟨i,j,h1,h2,h3,q⟩:=aGk (g:=fun i j=>.int (i/j)) (fun _ _ _ _=>.int) h;have h4:0<j/\j<2^250:=of_decide_eq_true h3
 exact⟨i,j,h1,h2,h4,q⟩
end
end TL
namespace TL
open PySem L2
end TL
namespace TL
open PySem PySem.Spec PyProof.Rows L2
section
variable {X:Cx}{e:Expr}{es:List Expr}{fr:FN}{p pos:Pos}
end
end TL
namespace TL
open PySem L2
end TL
namespace TL
open PySem PySem.Spec PyProof.Rows L2
section
variable {X:Cx}{a b:Expr}{fa fb:FE}{p pos:Pos}
end
end TL
namespace TL
open PySem L2
end TL
namespace TL
open PySem PySem.Spec PyProof.Rows L2
section
variable {K:aO}{σ:L2.St}{H:Hp}
end
section
variable {X:Cx}{a b e:Expr}{es:List Expr}{fa fb:FE}{fr:FN}{p pos:Pos}
end
section
variable {X:Cx}{own fr:List Str}{is:List Nat}{scope:Scope}{cl:List (Str×Addr)}{x:Str}
end
section
variable {X:Cx}{p p2 pos:Pos}{own frs:List Str}{is:List Nat}{scope:Scope}{cl:List (Str×Addr)}{tg iter bh:Expr}{ifs:List Expr}{fi fe:FE}{g:FG}{gt:FB}{cx:Str}
end
end TL
namespace TL
open PySem L2
mutual
def sh(k:Nat):T->T
 | .lst ts=>.lst (shs k ts)
 | .tup ts=>.tup (shs k ts)
 | .cell c=>.cell (k+c)
 | .non=>.non
 | .bl b=>.bl b
 | .int i=>.int i
 | .str x=>.str x
 | .exc c=>.exc c
def shs(k:Nat):List T->List T
 | []=>[]
 |t::ts=>sh k t::shs k ts
end
def shc(k:Nat)(x:Cl):Cl:=(x.1,shs k x.2)
section
variable {K:aO}{M:Hp}{ρ ae:Rho}{k:Nat}
mutual
theorem RT.sh(p:∀(c:Nat)(a:Addr),ρ[c]?=some a->ae[k+c]?=some a):∀{t:T}{v:V},RT K M ρ t v->RT K M ae (TL.sh k t) v
 | .non,_,h=>by unfold TL.sh;unfold RT at*;exact h
 | .bl _,_,h=>by unfold TL.sh;unfold RT at*;exact h
 | .int _,_,h=>by unfold TL.sh;unfold RT at*;exact h
 | .str _,_,h=>by unfold TL.sh;unfold RT at*;exact h
 | .lst ts,v,h=>by
   unfold TL.sh;unfold RT at*;obtain⟨a,vs,e,q,r⟩:=h
   exact⟨a,vs,e,q,RTs.sh p r⟩
 | .tup ts,v,h=>by
   unfold TL.sh;unfold RT at*;obtain⟨a,vs,e,q,r⟩:=h
   exact⟨a,vs,e,q,RTs.sh p r⟩
 | .cell c,v,h=>by
   unfold TL.sh;unfold RT at*;obtain⟨a,e,q⟩:=h
   exact⟨a,e,p c a q⟩
 | .exc c,v,h=>by
   unfold TL.sh;unfold RT at*
   exact h
theorem RTs.sh(p:∀(c:Nat)(a:Addr),ρ[c]?=some a->ae[k+c]?=some a):∀{ts:List T}{vs:List V},RTs K M ρ ts vs->RTs K M ae (shs k ts) vs
 | [],_,h=>by unfold shs;unfold RTs at*;exact h
 |t::ts,vs,h=>by
  unfold shs;unfold RTs at*;obtain⟨v,r,e,h1,h2⟩:=h
  exact⟨v,r,e,RT.sh p h1,RTs.sh p h2⟩
end
end
def aCI(K:aO)(n:Nat)(G:List T->Option (T×Sto)):Sp:=fun vs H Q _=>∃Z ts r Cn,ts.length=n/\(∀a,Z a->NT (H a))/\RTs K (mask H Z []) [] ts vs/\G ts=some (r,Cn)/\
 ∀v H' ae ai ag,Rel K H Z ae ag Cn ai H'->RT K (mask H' Z ae) ae r v->Q v H'
theorem aGj{K:aO}{n:Nat}{G:List T->Option (T×Sto)}:∀vs H Q E,aCI K n G vs H Q E->vs.length=n:=fun vs H Q E zz=>by obtain⟨Z,ts,r,Cn,h,_,rr,_⟩:=zz;rw[rr.length,h]
def EndRc(p:T×Sto):Fl×TSt×Sto->Prop
 | (.rt r,_,C)=>p=(r,C)
 |_=>False
def aCd(B:FS)(m:Nat)(ts:List T):Option (T×Sto):=match B (st0 m ts) []with
 |some (.rt r,_,C)=>some (r,C)
 |_=>none
theorem aIg{B:FS}{m n:Nat}:∀ts p,ts.length=n->aCd B m ts=some p->∃r,B (st0 m ts) []=some r/\EndRc p r:=fun ts p _ e=>by
 unfold aCd at e;split at e
 ·rename_i h;cases e;exact⟨_,h,rfl⟩
 ·cases e
section
variable {K:aO}{W:XW}{σ:St}{H:Hp}{Q:VK}{D:Ends}
variable{G:List T->Option (T×Sto)}
theorem aKm{n m:Nat}{F:FS}{vs:List V}{E:XK}(hG:∀ts p,ts.length=n->G ts=some p->∃r,F (st0 m ts) []=some r/\EndRc p r)(h:aCI K n G vs H Q E):
 trS K W F {nx:=fun _ H'=>Q .non H',rt:=Q} (vs.map some++aS (m - vs.length) none) H:=by
 obtain⟨Z,ts,r,Cn,hn,hz,rr,e,k⟩:=h;obtain⟨⟨fl,ag,C'⟩,e1,e2⟩:=hG ts _ hn e
 refine⟨H,Z,[],st0 m ts,[],fl,ag,C',Rel.start hz rr,e1,fun ai H' ae R' _=>?_⟩
 cases fl with
 |nx=>exact False.elim e2
 |bk=>exact False.elim e2
 |ct=>exact False.elim e2
 |ex c=>exact False.elim e2
 |rt u=>
  cases e2
  exact fun v hv=>k v H' ae ai ag R' hv
def qZ(n:Nat)(G:List T->Option (T×Sto))(ts:List T)(C:Sto):Option (T×Sto):=if ts.length=n/\CFs ts=true then(G ts).map fun p=>(sh C.length p.1,C++p.2.map (shc C.length))else none
abbrev fCallR(n:Nat)(G:List T->Option (T×Sto))(fa:FN):FE:=mX fa (qZ n G)
theorem aJJ{n:Nat}{vs:List V}{E:XK}(h:∃ts,trV K σ ts vs (qZ n G ts) H Q):aCI K n G vs H Q E:=by
 obtain⟨ts,H₀,Z,ρ,τ,C,t,C',R,r,e,k⟩:=h;unfold qZ at e;split at e
 ·rename_i hn;obtain⟨⟨u,Cn⟩,e1,e⟩:=aL.mp e;cases e
  refine⟨fun a=>Z a\/a∈ρ,ts,u,Cn,hn.1,fun a z=>?_,by rw[aAr];exact r.cf hn.2,e1,fun v H' ae ai ag R' rv=>?_⟩
  ·rcases z with z|z
   ·exact R.zd a z
   ·exact R.cel_some z
  ·have em:mask H' (fun a=>Z a\/a∈ρ) ae=mask H' Z (ρ++ae):=by
    funext a;unfold mask;by_cases h:(Z a\/a∈ρ)\/a∈ae
    ·rw[if_pos h,if_pos (by rcases h with(h|h)|h
                            ·exact .inl h
                            ·exact .inr (bK.mpr (.inl h))
                            ·exact .inr (bK.mpr (.inr h)))]
    ·rw[if_neg h,if_neg (by
      rintro(z|z)
      ·exact h (.inl (.inl z))
      ·rcases bK.mp z with z|z
       ·exact h (.inl (.inr z))
       ·exact h (.inr z))]
   have ub:∀(c:Nat)(a:Addr),ae[c]?=some a->(ρ++ae)[C.length+c]?=some a:=fun c a z=>by
    rw[<-R.len,bH (by lia)];rw[show ρ.length+c - ρ.length=c by lia];exact z
   have st:Step H H' ρ (ρ++ae):=.of R'.old fun a ha=>(R'.frs a ha).1
   have nR:Rel K H₀ Z (ρ++ae) τ (C++Cn.map (shc C.length)) σ H':=by
    refine⟨R.old.trans R'.old,fun a ha=>?_,?_,fun a z=>R'.zd a (.inl z),fun i t e=>?_,fun c a e=>?_,?_,R.lnt⟩
    ·rcases bK.mp ha with ha|ha
     ·exact R.frs a ha
     ·exact⟨R.old.free (R'.frs a ha).1,fun z=>(R'.frs a ha).2 (.inl z)⟩
    ·exact eC.mpr ⟨R.nd,R'.nd,fun a h1 b h2 z=>by subst z;exact(R'.frs a h2).2 (.inr h1)⟩
    ·obtain⟨v,h1,h2⟩:=R.loc i t e
     exact⟨v,h1,h2.step st⟩
    ·by_cases hc:c<ρ.length
     ·rw[aY hc]at e;obtain⟨us,ws,ob,h1,h2,h4,h3⟩:=R.cel c a e
      exact⟨us,ws,ob,by rw[aY (by rw[<-R.len];exact hc)];exact h1,R'.old _ _ h2,h4,h3.step st⟩
     ·rw[bH (by lia)]at e;obtain⟨us,ws,ob,h1,h2,h4,h3⟩:=R'.cel _ a e
      refine⟨shc C.length us,ws,ob,?_,h2,h4,?_⟩
      ·rw[bH (by rw[<-R.len];lia),<-R.len,bM,h1];rfl
      ·rw[em]at h3;exact h3.sh ub
    ·rw[bA,bA,aP,R.len,R'.len]
   rw[em]at rv
   exact k v H' (ρ++ae) nR (rv.sh ub) st
 ·cases e
theorem aIN{fa:FN}{n:Nat}{E:XK}(h:trE K (mX fa (qZ n G)) σ H Q):aEu (aCI K n G) [] E (trA K fa) σ H Q:=
 oX (aBy h) fun vs _ q=>by rw[aV];exact aJJ q
theorem Rel.locals{H₀:Hp}{Z:Addr->Prop}{ρ:Rho}{τ:TSt}{C:Sto}{ts:List T}{vs:List V}{m:Nat}(R:Rel K H₀ Z ρ τ C σ H)(h:RTs K (mask H Z ρ) ρ ts vs):
 Rel K H₀ Z ρ (st0 m ts) C (vs.map some++aS (m - vs.length) none) H:=by
 refine⟨R.old,R.frs,R.nd,R.zd,fun i t e=>?_,R.cel,R.len,by simp[st0,h.length]⟩
 unfold st0 at e;have hi:i<ts.length:=by
  by_cases hi:i<ts.length
  ·exact hi
  ·rw[bH (by simpa using hi),cS]at e;split at e<;>cases e
 rw[aY (by simpa using hi),bM]at e;cases q:ts[i]?with
 |none=>rw[q]at e;cases e
 |some u=>
  rw[q]at e;cases e;obtain⟨v,h1,h2⟩:=h.get q
  refine⟨v,?_,h2⟩
  rw[aY (by simpa[h.length]using hi),bM,h1];rfl
end
end TL
namespace TL
open PySem PySem.Spec PyProof.Rows L2
section
variable {X:Cx}{e:Expr}{es:List Expr}{fr:FN}{p pos ar:Pos}
structure aHn(P:Program)(w:World)(K:aO)(mg:Str->Option Value)(base:Heap)(k:Nat)(x:Str)(n:Nat)(G:List T->Option (T×Sto)):Prop where
 ex:∃f fd ps,mW P w K mg base CX0 k f fd ps (aCI K n G)/\mg x=some (.ref f)/\cR K (.ref f)=true/\Binds K fd ps []
theorem aJI{k n:Nat}{x:Str}{G:List T->Option (T×Sto)}(D:aHn X.prog X.w X.K X.mg X.base k x n G)(hr:Room k X.A)(ha:QA X (e::es) fr)(hg:Gl X x:=by rfl)(dq:(x==("__debug__":Str))=false:=by decide)
 (he:starEach (e::es) X.env=(false,eval e X.env)::starEach es X.env:=by rfl)(ay:(backTo pos (starEach es X.env)).any (·.1)=false:=by rfl):QE X (.Call (.Name x p) (e::es) [] pos) (fCallR n G fr):=by
 obtain⟨f,fd,ps,F,hm,hk,hb⟩:=D.ex
 exact(aAp (E:=fun _ _ _=>False) F hr hg hm hk hb .nil (fun _ _ _ _ _ _ _ h=>h.elim) ha dq he ay).imp fun _ _ _=>aIN
section
variable {own frs:List Str}{is:List Nat}{scope:Scope}{cl:List (Str×Addr)}{bh a b:Expr}{ts ifs:List Expr}{tk}{az p2 ci:Pos}{fa fb fe:FE}{g:FG}{gt:FB}{x:Str}
end
end
end TL
namespace TL
open PySem L2
noncomputable def getN{α:Type}(f:Str):List Str->List α->Option α
 |n::ns,t::ts=>if f=n then some t else getN f ns ts
 |_,_=>none
noncomputable def pn(f:Str):List Str->List Str
 | []=>[f]
 |n::ns=>if n=f then n::ns else n::pn f ns
noncomputable def pv{α:Type}(f:Str)(t:α):List Str->List α->List α
 | [],_=>[t]
 |n::ns,x::ts=>if n=f then t::ts else x::pv f t ns ts
 |_::_,[]=>[]
theorem u5{f:Str}:∀{ns:List Str}{vs:List V},(ns.zip vs).lookup f=getN f ns vs
 | [],_=>rfl
 |_::_,[]=>rfl
 |n::ns,v::vs=>by
  rw[cG,b6];unfold getN;by_cases h:f=n
  ·rw[if_pos h,beq_iff_eq.mpr h]
  ·rw[if_neg h,(beq_eq_false_iff_ne).mpr h];exact u5
theorem aA0{f:Str}{v:V}:∀{ns:List Str}{vs:List V},ns.length=vs.length->oH f v (ns.zip vs)=(pn f ns).zip (pv f v ns vs)
 | [],_,_=>rfl
 |_::_,[],h=>by cases h
 |n::ns,x::vs,h=>by
  rw[cG];unfold oH pn pv;split
  ·rfl
  ·rw[aA0 (by simpa using h),cG]
theorem aDh{α:Type}{f:Str}{t:α}:∀{ns:List Str}{ts:List α},ns.length=ts.length->(pn f ns).length=(pv f t ns ts).length
 | [],_,_=>rfl
 |_::_,[],h=>by cases h
 |n::ns,x::ts,h=>by
  have h':ns.length=ts.length:=by simpa using h
  unfold pn pv;split
  ·simpa using h'
  ·simpa using aDh h'
section
variable {K:aO}{M:Hp}{ρ:Rho}
theorem RTs.getN{f:Str}:∀{ns:List Str}{ts:List T}{vs:List V}{t:T},RTs K M ρ ts vs->TL.getN f ns ts=some t->∃v,TL.getN f ns vs=some v/\RT K M ρ t v
 | [],ts,vs,t,_,e=>by unfold TL.getN at e;cases e
 |_::_,[],vs,t,_,e=>by unfold TL.getN at e;cases e
 |n::ns,x::ts,vs,t,h,e=>by
  obtain⟨v,r,rfl,h1,h2⟩:=h.cons_inv;unfold TL.getN at e|-;split at e
  ·rename_i hn;cases e;exact⟨v,if_pos hn,h1⟩
  ·rename_i hn;rw[if_neg hn];exact RTs.getN h2 e
theorem RTs.pv{f:Str}{t:T}{v:V}(h0:RT K M ρ t v):∀{ns:List Str}{ts:List T}{vs:List V},RTs K M ρ ts vs->RTs K M ρ (TL.pv f t ns ts) (TL.pv f v ns vs)
 | [],_,_,_=>.cons h0 .nil
 |n::ns,[],vs,h=>by rw[h.nil_inv];exact .nil
 |n::ns,x::ts,vs,h=>by
  obtain⟨u,r,rfl,h1,h2⟩:=h.cons_inv;unfold TL.pv;split
  ·exact .cons h0 h2
  ·exact .cons h1 (RTs.pv h0 h2)
end
noncomputable def oc(cls:String)(C:Sto):T->Option (Nat×List Str×List T)
 | .cell c=>(C[c]?).bind fun x=>match x.1 with
   | .o k ns=>if k=cls then some (c,ns,x.2)else none
   |_=>none
 |_=>none
theorem aKy{cls:String}{C:Sto}{t:T}{c:Nat}{ns:List Str}{ts:List T}(h:oc cls C t=some (c,ns,ts)):t=.cell c/\C[c]?=some (.o cls ns,ts):=by
 unfold oc at h;split at h
 ·obtain⟨⟨k,us⟩,e,h⟩:=aK.mp h;dsimp only at h;split at h
  ·split at h
   ·rename_i hk;cases h;cases hk;exact⟨rfl,e⟩
   ·cases h
  ·cases h
 ·cases h
def iR(K:aO)(cls:String)(f:Str):Prop:=∀C,bZ K mainGlobals (Str.ofString cls)=some (some (.ref C))->Cls K C/\nZ K C f
def aFl(cls:String)(f:Str)(t:T)(C:Sto):Option (T×Sto):=(oc cls C t).bind fun x=>(getN f x.2.1 x.2.2).map fun u=>(u,C)
abbrev k8(cls:String)(f:Str)(a:FE):FE:=fUn a (aFl cls f)
def mY(cls:String)(f:Str)(fo fe:FE):FS:=fun τ C=>(fe τ C).bind fun p=>(fo τ p.2).bind fun q=>(oc cls q.2 q.1).bind fun x=>if x.2.1.length<900 then some (.nx,τ,q.2.set x.1 (.o cls (pn f x.2.1),pv f p.1 x.2.1 x.2.2))else none
def uI(cls:String)(f:Str)(g:Int->Int->Int)(fo fe:FE):FS:=fun τ C=>(fo τ C).bind fun q=>(oc cls q.2 q.1).bind fun x=>(getN f x.2.1 x.2.2).bind fun old=>match old with
 | .int i=>(fe τ q.2).bind fun p=>match p.1 with
   | .int j=>(oc cls p.2 q.1).bind fun y=>if y.2.1.length<900 then some (.nx,τ,p.2.set y.1 (.o cls (pn f y.2.1),pv f (.int (g i j)) y.2.1 y.2.2))else none
   |_=>none
 |_=>none
section
variable {K:aO}{W:XW}{σ:St}{H:Hp}{Q:VK}{D:Ends}{cls:String}{f:Str}
theorem Rel.oc{H₀:Hp}{Z:Addr->Prop}{ρ:Rho}{τ:TSt}{C:Sto}{t:T}{v:V}{c:Nat}{ns:List Str}{ts:List T}(R:Rel K H₀ Z ρ τ C σ H)(h:RT K (mask H Z ρ) ρ t v)(e:TL.oc cls C t=some (c,ns,ts)):
 ∃a Cl dx vs,v=.ref a/\ρ[c]?=some a/\ns.length=vs.length/\bZ K mainGlobals (Str.ofString cls)=some (some (.ref Cl))/\H a=some (.ins Cl dx (ns.zip vs))/\RTs K (mask H Z ρ) ρ ts vs:=by
 obtain⟨rfl,e0⟩:=aKy e;unfold RT at h;obtain⟨a,ev,q⟩:=h;obtain⟨x,vs,ob,h1,h2,h3,h4⟩:=R.cel c a q;rw[e0]at h1;cases h1;obtain⟨hl,Cl,dx,hn,ho⟩:=h3;subst ho
 exact⟨a,Cl,dx,vs,ev,q,hl,hn,h2,h4⟩
theorem aNJ{fa:FE}(hc:iR K cls f)(h:trE K (k8 cls f fa) σ H Q):tFld K (trE K fa) f σ H Q:=by
 refine iM (aMe h) fun x H1 q=>?_
 obtain⟨t1,H₀,Z,ρ,τ,C,t,C',R,r,e,k⟩:=q;obtain⟨_,_,z,r1,r⟩:=r.cons_inv;cases z;unfold aFl at e;obtain⟨⟨c,ns,ts⟩,e1,e⟩:=aK.mp e;obtain⟨u,e2,e⟩:=aL.mp e;cases e;obtain⟨a,Cl,dx,vs,ev,q,hl,hn,hH,hr⟩:=R.oc r1 e1;obtain⟨v,e3,rv⟩:=hr.getN e2;obtain⟨h1,h2⟩:=hc Cl hn
 exact⟨a,Cl,dx,_,v,ev,hH,h1,h2,by rw[u5];exact e3,k v H1 ρ R rv .refl⟩
theorem aNv{fo fe:FE}(hc:iR K cls f)(h:trS K W (mY cls f fo fe) D σ H):sFld K (trE K fo) (trE K fe) f D σ H:=by
 obtain⟨H₀,Z,ρ,τ,C,fl,ag,C',R,e,k⟩:=h;unfold mY at e;obtain⟨⟨t1,C1⟩,e1,e⟩:=aK.mp e;obtain⟨⟨t2,C2⟩,e2,e⟩:=aK.mp e;obtain⟨⟨c,ns,ts⟩,e3,e⟩:=aK.mp e;dsimp only at e;split at e
 ·rename_i hl9;cases e
  refine⟨H₀,Z,ρ,τ,C,t1,C1,R,e1,fun y H1 af R1 h1 s1=>?_⟩
  refine⟨H₀,Z,af,τ,C1,t2,C2,R1,e2,fun x H2 aw R2 h2 s2=>?_⟩
  obtain⟨a,Cl,dx,vs,ev,q,hl,hn,hH,hr⟩:=R2.oc h2 e3;obtain⟨p1,p2⟩:=hc Cl hn;obtain⟨w1,w2⟩:=R2.put (kd:=.o cls (pn f ns)) (ob:=.ins Cl dx ((pn f ns).zip (pv f y ns vs))) q (by rw[hH];trivial) ⟨aDh hl,Cl,dx,hn,rfl⟩ (hr.pv (h1.step s2))
  exact⟨a,Cl,dx,_,ev,hH,p1,p2,by rw[dJ];lia,by rw[aA0 hl];exact k σ _ aw w1 ((s1.trans s2).ss.trans w2)⟩
 ·cases e
theorem aBF{fo fe:FE}{g:Int->Int->Int}{rd:V->V->Hp->VK->Prop}(sr:∀i j H Q,Q (.int (g i j)) H->rd (.int i) (.int j) H Q)(hc:iR K cls f)(h:trS K W (uI cls f g fo fe) D σ H):sFldAug K (trE K fo) (trE K fe) rd f D σ H:=by
 obtain⟨H₀,Z,ρ,τ,C,fl,ag,C',R,e,k⟩:=h;unfold uI at e;obtain⟨⟨t1,C1⟩,e1,e⟩:=aK.mp e;obtain⟨⟨c,ns,ts⟩,e3,e⟩:=aK.mp e;obtain⟨old,e4,e⟩:=aK.mp e;dsimp only at e;split at e
 ·rename_i i;obtain⟨⟨t2,C2⟩,e2,e⟩:=aK.mp e;dsimp only at e;split at e
  ·rename_i j;obtain⟨⟨c2,vd,ts2⟩,e5,e⟩:=aK.mp e;dsimp only at e;split at e
   ·rename_i hl9;cases e
    refine⟨H₀,Z,ρ,τ,C,t1,C1,R,e1,fun x H1 af R1 h1 s1=>?_⟩
    obtain⟨a,Cl,dx,vs,ev,q,hl,hn,hH,hr⟩:=R1.oc h1 e3;obtain⟨v,e6,rv⟩:=hr.getN e4;obtain⟨p1,p2⟩:=hc Cl hn
    refine⟨a,Cl,dx,_,v,ev,hH,p1,p2,by rw[u5];exact e6,?_⟩
    refine⟨H₀,Z,af,τ,C1,_,C2,R1,e2,fun y H2 aw R2 h2 s2=>?_⟩
    rw[rv.int_inv,h2.int_inv]
    refine sr i j H2 _ ?_
    obtain⟨a',Cl',nc,vs',im,q',eh,jl,wf,yd⟩:=R2.oc (h1.step s2) e5;rw[ev]at im;cases im;rw[hn]at jl;cases jl;obtain⟨w1,w2⟩:=R2.put (kd:=.o cls (pn f vd)) (ob:=.ins Cl nc ((pn f vd).zip (pv f (.int (g i j)) vd vs'))) (ts:=pv f (.int (g i j)) vd ts2) q' (by rw[wf];trivial) ⟨aDh eh,Cl,nc,hn,rfl⟩ (yd.pv .int)
    exact⟨nc,_,wf,by rw[dJ];lia,by rw[aA0 eh];exact k σ _ aw w1 ((s1.trans s2).ss.trans w2)⟩
   ·cases e
  ·cases e
 ·cases e
end
end TL
namespace TL
open PySem PySem.Spec PyProof.Rows L2
section
variable {X:Cx}{e o value:Expr}{fa fo fe:FE}{cls:String}{f:Str}{pos ar az:Pos}
theorem j3(hc:iR X.K cls f)(he:QE X e fa)(hb:attributeBase e f X.env (eval e X.env)=eval e X.env:=by rfl):QE X (.Attribute e f pos) (k8 cls f fa):=(aMQ he hb).imp fun _ _ _=>aNJ hc
theorem oG(hc:iR X.K cls f)(ho:QE X o fo)(hv:QE X value fe)(hs:swapsWith value (some (.Attribute o f ar)) pos.line X.env=pure false:=by rfl):QS X (.Assign [.Attribute o f ar] value pos) (mY cls f fo fe):=(aMS ho hv hs).imp fun _ _ _=>aNv hc
theorem aEH(hc:iR X.K cls f)(ho:QE X o fo)(hv:QE X value fe):QS X (.AugAssign (.Attribute o f az) .Add value pos) (uI cls f (fun i j=>i+j) fo fe):=(z6 ho hv aLy).imp fun _ _ _=>aBF (fun i j H Q q=>⟨i,j,rfl,rfl,q⟩) hc
theorem aEB(hc:iR X.K cls f)(ho:QE X o fo)(hv:QE X value fe):QS X (.AugAssign (.Attribute o f az) .Sub value pos) (uI cls f (fun i j=>i - j) fo fe):=(z6 ho hv aGG).imp fun _ _ _=>aBF (fun i j H Q q=>⟨i,j,rfl,rfl,q⟩) hc
end
end TL
namespace TL
open PySem L2
def spS(K:aO)(n:Nat)(G:List T->Sto->Option (T×Sto)):Sp:=fun vs H Q _=>∃H₀ Z ρ τ C σ ts r C',Rel K H₀ Z ρ τ C σ H/\RTs K (mask H Z ρ) ρ ts vs/\ts.length=n/\G ts C=some (r,C')/\
 ∀v H' ae,Rel K H₀ Z ae τ C' σ H'->RT K (mask H' Z ae) ae r v->Step H H' ρ ae->Q v H'
def mV(B:FS)(m:Nat)(ts:List T)(C:Sto):Option (T×Sto):=match B (st0 m ts) C with
 |some (.nx,_,C')=>some (.non,C')
 |some (.rt r,_,C')=>some (r,C')
 |_=>none
section
variable {K:aO}{W:XW}{σ:St}{H:Hp}{Q:VK}{D:Ends}
variable{G:List T->Sto->Option (T×Sto)}{fa:FN}{cls:String}{Ca:Addr}
theorem jG{n:Nat}:∀vs H Q E,spS K n G vs H Q E->vs.length=n:=fun vs H Q E zz=>by obtain⟨H₀,Z,ρ,τ,C,σ,ts,r,C',R,rr,h,_⟩:=zz;rw[rr.length,h]
theorem Rel.back{H₀:Hp}{Z:Addr->Prop}{ρ ae:Rho}{τ ag:TSt}{C C':Sto}{ai:St}{H':Hp}(R:Rel K H₀ Z ρ τ C σ H)(R':Rel K H₀ Z ae ag C' ai H')(s:Step H H' ρ ae):Rel K H₀ Z ae τ C' σ H':=
 ⟨R'.old,R'.frs,R'.nd,R'.zd,fun i t e=>let ⟨v,h1,h2⟩:=R.loc i t e;⟨v,h1,h2.step s⟩,R'.cel,R'.len,R.lnt⟩
theorem kB{n m:Nat}{F:FS}{vs:List V}{E:XK}(h:spS K n (mV F m) vs H Q E):
 trS K W F {nx:=fun _ H'=>Q .non H',rt:=Q} (vs.map some++aS (m - vs.length) none) H:=by
 obtain⟨H₀,Z,ρ,τ,C,σ0,ts,r,C',R,rr,hn,e,k⟩:=h;unfold mV at e;split at e
 ·rename_i ag C2 hF;cases e
  refine⟨H₀,Z,ρ,st0 m ts,C,.nx,ag,C',R.locals rr,hF,fun ai H' ae R' s'=>?_⟩
  exact k .non H' ae (R.back R' s') .non s'
 ·rename_i u ag C2 hF;cases e
  refine⟨H₀,Z,ρ,st0 m ts,C,.rt r,ag,C',R.locals rr,hF,fun ai H' ae R' s'=>?_⟩
  exact fun v hv=>k v H' ae (R.back R' s') hv s'
 ·cases e
noncomputable def o5(n:Nat)(G:List T->Sto->Option (T×Sto))(ts:List T)(C:Sto):Option (T×Sto):=if ts.length=n then G ts C else none
abbrev kX(n:Nat)(G:List T->Sto->Option (T×Sto))(fa:FN):FE:=mX fa (o5 n G)
theorem aAk{n:Nat}{vs:List V}{E:XK}(h:∃ts,trV K σ ts vs (o5 n G ts) H Q):spS K n G vs H Q E:=by
 obtain⟨ts,H₀,Z,ρ,τ,C,t,C',R,r,e,k⟩:=h;unfold o5 at e;split at e
 ·rename_i hn
  exact⟨H₀,Z,ρ,τ,C,σ,ts,t,C',R,r,hn,e,fun v H' ae R' rv s=>k v H' ae R' rv s⟩
 ·cases e
theorem aKz{n:Nat}{E:XK}(h:trE K (kX n G fa) σ H Q):aEu (spS K n G) [] E (trA K fa) σ H Q:=
 oX (aBy h) fun vs _ q=>by rw[aV];exact aAk q
def lE(cls:String)(m:Str)(n:Nat)(G:List T->Sto->Option (T×Sto))(fo:FE)(fa:FN):FE:=fun τ C=>(fo τ C).bind fun p=>(oc cls p.2 p.1).bind fun x=>match getN m x.2.1 x.2.2 with
 |some _=>none
 |none=>(fa τ p.2).bind fun q=>o5 n G (p.1::q.1) q.2
theorem zA{α β:Type}{f:Str}:∀{ns:List Str}{ts:List α}{vs:List β},ts.length=vs.length->getN f ns ts=none->getN f ns vs=none
 | [],_,_,_,_=>by unfold getN;rfl
 |_::_,[],[],_,_=>by unfold getN;rfl
 |_::_,[],_::_,h,_=>by cases h
 |_::_,_::_,[],h,_=>by cases h
 |n::ns,t::ts,v::vs,h,e=>by
  unfold getN at e|-;split at e
  ·cases e
  ·rename_i hn;rw[if_neg hn];exact zA (by simpa using h) e
theorem aGo{m:Str}{n:Nat}{fo:FE}{E:XK}(hc:bZ K mainGlobals (Str.ofString cls)=some (some (.ref Ca)))(h:trE K (lE cls m n G fo fa) σ H Q):aF7 Ca m (spS K n G) [] E (trE K fo) (trA K fa) σ H Q:=by
 obtain⟨H₀,Z,ρ,τ,C,t,C',R,e,k⟩:=h;unfold lE at e;obtain⟨⟨t1,C1⟩,e1,e⟩:=aK.mp e;obtain⟨⟨c,ns,ts⟩,e2,e⟩:=aK.mp e;dsimp only at e2 e;split at e
 ·cases e
 ·rename_i hm;obtain⟨⟨us,C2⟩,e3,e⟩:=aK.mp e;dsimp only at e3 e
  refine⟨H₀,Z,ρ,τ,C,t1,C1,R,e1,fun x H1 af R1 h1 s1=>?_⟩
  obtain⟨a,Cl,dx,vs,ev,q,hl,hn,hH,hr⟩:=R1.oc h1 e2;rw[hc]at hn;cases hn
  refine⟨a,dx,_,ev,hH,by rw[u5];exact zA (by rw[hr.length]) hm,?_⟩
  refine⟨H₀,Z,af,τ,C1,us,C2,R1,e3,fun ws H2 aw R2 h2 s2=>?_⟩
  dsimp only;rw[aV]
  exact aAk ⟨t1::us,H₀,Z,aw,τ,C2,t,C',R2,.cons (h1.step s2) h2,e,fun v H3 bd R3 h3 s3=>k v H3 bd R3 h3 ((s1.trans s2).trans s3)⟩
def t8(cls:String)(n:Nat)(G:List T->Sto->Option (T×Sto))(gx:List T)(fa:FN):FE:=fun τ C=>(fa τ C).bind fun p=>(o5 n G (.cell p.2.length::(p.1++gx)) (p.2++[(.o cls [],[])])).bind fun q=>match q.1 with
 | .non=>some (.cell p.2.length,q.2)
 |_=>none
theorem aMP{n:Nat}{gx:List T}{bo:List V}{E:XK}(hc:bZ K mainGlobals (Str.ofString cls)=some (some (.ref Ca)))(hd:∀M ρ,RTs K M ρ gx bo)
 (h:trE K (t8 cls n G gx fa) σ H Q):tMake Ca (spS K n G) bo E (trA K fa) σ H Q:=by
 obtain⟨H₀,Z,ρ,τ,C,t,C',R,e,k⟩:=h;unfold t8 at e;obtain⟨⟨ts,C1⟩,e1,e⟩:=aK.mp e;obtain⟨⟨r,C2⟩,e2,e⟩:=aK.mp e;dsimp only at e2 e;split at e
 ·cases e
  refine⟨H₀,Z,ρ,τ,C,ts,C1,R,e1,fun vs H1 af R1 h1 s1 x dx hx hdx bb=>?_⟩
  obtain⟨R2,s2⟩:=R1.alloc (o:=.own x) hdx;have hx2:upd H1 dx (.own x) x=none:=by rw[fK (Ne.symm bb)];exact hx
  obtain⟨R3,s3,r3⟩:=R2.alloc_cl (kd:=.o cls []) (ts:=[]) (vs:=[]) (ob:=.ins Ca dx []) hx2 ⟨rfl,Ca,dx,hc,rfl⟩ .nil
  refine aAk (σ:=σ) ⟨.cell C1.length::(ts++gx),H₀,Z,af++[x],τ,C1++[(.o cls [],[])],.non,_,R3,.cons r3 (((h1.step s2).step s3).append (hd _ _)),e2,fun v H4 jt R4 h4 s4=>⟨h4.non_inv,?_⟩⟩
  exact k _ H4 jt R4 (r3.step s4) (((s1.trans s2).trans s3).trans s4)
 ·cases e
end
end TL
namespace L2
open PySem PySem.Spec PyProof.Rows
section
variable {κ:Type}[DecidableEq κ]
variable{p:κ×V}{r kvs:List (κ×V)}{o:Option V}{u:Option Value}
noncomputable def rV(kvs:List (κ×V))(k:κ):Option V:=(kvs.find? fun kv=>decide (kv.1=k)).map (·.2)
noncomputable def putK(kvs:List (κ×V))(k:κ)(v:V):List (κ×V):=
 if(kvs.any fun kv=>decide (kv.1=k))=true then kvs.map (fun kv=>if kv.1=k then(kv.1,v)else kv)else kvs++[(k,v)]
theorem sN{k:κ}(e:p.1=k):rV (p::r) k=some p.2:=by simp[rV,dG,e]
theorem pF{k:κ}(e:¬p.1=k):rV (p::r) k=rV r k:=by simp[rV,dG,e]
theorem aCs(k:κ):∀kvs:List (κ×V),(kvs.any fun kv=>decide (kv.1=k))=(rV kvs k).isSome
 | []=>rfl
 |p::r=>by
  rw[aOY];by_cases e:p.1=k
  ·simp only[sN e,decide_eq_true e,Bool.true_or,Option.isSome_some]
  ·rw[pF e,decide_eq_false e,Bool.false_or];exact aCs k r
theorem pE(kvs:List (κ×V))(k:κ)(v:V):(putK kvs k v).length<=kvs.length+1:=by
 unfold putK;split
 ·rw[aP];lia
 ·rw[bA,aN,aQ];lia
theorem oW.isSome_eq(r:oW o u):o.isSome=u.isSome:=by
 cases o with
 |none=>cases u with
  |none=>rfl
  |some _=>exact(show False from r).elim
 |some _=>cases u with
  |none=>exact(show False from r).elim
  |some _=>rfl
theorem oW.getD{d:V}{d':Value}(r:oW o u)(rd:RelV d d'):RelV (o.getD d) (u.getD d'):=by
 cases o with
 |none=>cases u with
  |none=>exact rd
  |some _=>exact(show False from r).elim
 |some _=>cases u with
  |none=>exact(show False from r).elim
  |some _=>exact r
theorem KV.val{vs:List (κ×Value)}(r:KV kvs vs)(k:κ):oW (rV kvs k) (valueAt vs k):=by
 unfold KV at r;induction r with
 |nil=>exact True.intro
 | @cons p q ps qs h t ih=>
   obtain⟨h1,h2⟩:=h;by_cases e:p.1=k
   ·have e':q.1=k:=h1.symm.trans e;have b:valueAt (q::qs) k=some q.2:=by simp[valueAt,dG,e']
    rw[sN e,b];exact h2
   ·have e':¬q.1=k:=fun z=>e (h1.trans z)
    have b:valueAt (q::qs) k=valueAt qs k:=by simp[valueAt,dG,e']
    rw[pF e,b];exact ih
theorem KV.any{vs:List (κ×Value)}(r:KV kvs vs)(k:κ):(kvs.any fun kv=>decide (kv.1=k))=vs.any fun kv=>decide (kv.1=k):=by
 unfold KV at r;induction r with
 |nil=>rfl
 |cons h t ih=>rw[aOY,aOY,ih,h.1]
theorem KV.repl{vs:List (κ×Value)}(r:KV kvs vs)(k:κ){y:V}{u:Value}(ry:RelV y u):
 KV (kvs.map fun kv=>if kv.1=k then(kv.1,y)else kv) (vs.map fun kv=>if kv.1=k then(kv.1,u)else kv):=by
 unfold KV at r|-;induction r with
 |nil=>exact .nil
 | @cons p q ps qs h t ih=>
   rw[aM,aM]
   refine .cons ?_ ih
   obtain⟨h1,h2⟩:=h;by_cases e:p.1=k
   ·rw[if_pos e,if_pos (h1.symm.trans e)];exact⟨h1,ry⟩
   ·rw[if_neg e,if_neg (fun z=>e (h1.trans z))];exact⟨h1,h2⟩
theorem KV.put{vs:List (κ×Value)}(r:KV kvs vs)(k:κ){y:V}{u:Value}(ry:RelV y u):KV (putK kvs k y) (stored vs k u):=by
 unfold putK stored;rw[r.any k];by_cases e:(vs.any fun kv=>decide (kv.1=k))=true
 ·rw[if_pos e,if_pos e];exact r.repl k ry
 ·rw[if_neg e,if_neg e];exact Paired.snoc r ⟨rfl,ry⟩
theorem KV.length{vs:List (κ×Value)}(r:KV kvs vs):kvs.length=vs.length:=Paired.length r
end
variable{u:Value}{kvs:List (List Key×V)}{xs:List (List Key×Addr×Value)}
theorem wA{P:Program}{w:World}{k:Key}(r:RelV (kV k) u):(iS P w).is k u=true:=by
 cases k with
 |inl i=>obtain⟨t,e⟩:=(show∃t,u=Value.int i t from r);subst e;exact aBo P w i t
 |inr x=>obtain⟨t,e⟩:=(show∃t,u=Value.str x t from r);subst e;exact aCu P w x t
theorem zC{P:Program}{w:World}:∀{ks:List Key}{us:List Value},Vals (ks.map kV) us->ItemsAre (iS P w) ks us
 | [],_,r=>by rw[bB]at r;cases r;exact .nil
 |k::ks,_,r=>by
  rw[aM]at r;cases r with
  |cons h t=>exact .cons (wA h) (zC t)
abbrev KT(H:Hp):List (List Key×V)->List (List Key×Addr×Value)->Prop:=Paired fun p q=>p.1=q.1/\H q.2.1=some (.tup (p.1.map kV))/\RelV p.2 q.2.2
theorem KT.val{H:Hp}(r:KT H kvs xs)(k:List Key):oW (rV kvs k) ((atKey xs k).map (·.2)):=by
 induction r with
 |nil=>exact True.intro
 | @cons p q ps qs h t ih=>
   obtain⟨h1,_,h2⟩:=h;by_cases e:p.1=k
   ·have e':q.1=k:=h1.symm.trans e;have b:atKey (q::qs) k=some q.2:=by simp[atKey,dG,e']
    rw[sN e,b];exact h2
   ·have e':¬q.1=k:=fun z=>e (h1.trans z)
    have b:atKey (q::qs) k=atKey qs k:=by simp[atKey,dG,e']
    rw[pF e,b];exact ih
theorem KT.repl{H:Hp}(r:KT H kvs xs)(k:List Key){y:V}(ry:RelV y u):
 KT H (kvs.map fun kv=>if kv.1=k then(kv.1,y)else kv) (xs.map (putAt k u)):=by
 induction r with
 |nil=>exact .nil
 | @cons p q ps qs h t ih=>
   rw[aM,aM]
   refine .cons ?_ ih
   obtain⟨h1,h2,h3⟩:=h;unfold putAt;by_cases e:p.1=k
   ·rw[if_pos e,if_pos (h1.symm.trans e)];exact⟨h1,h2,ry⟩
   ·rw[if_neg e,if_neg (fun z=>e (h1.trans z))];exact⟨h1,h2,h3⟩
theorem KT.put{H:Hp}(r:KT H kvs xs)(k:List Key){b:Addr}{y:V}(hb:H b=some (.tup (k.map kV)))(ry:RelV y u):
 KT H (putK kvs k y) (storedH xs k b u):=by
 have e:(kvs.any fun kv=>decide (kv.1=k))=(atKey xs k).isSome:=by
  rw[aCs,(r.val k).isSome_eq,aPi]
 unfold putK storedH;rw[e];by_cases q:(atKey xs k).isSome=true
 ·rw[if_pos q,if_pos q];exact r.repl k ry
 ·rw[if_neg q,if_neg q];exact Paired.snoc r ⟨rfl,hb,ry⟩
theorem KT.keeps{H H':Hp}(r:KT H kvs xs)(ht:∀b ys,H b=some (.tup ys)->H' b=some (.tup ys)):KT H' kvs xs:=
 Paired.mapP r fun _ _ z=>⟨z.1,ht _ _ z.2.1,z.2.2⟩
section
variable {P:Program}{w:World}{H:Hp}{h:Heap}{a:Addr}
theorem aKX{u:HO}(ok:HOk P w H h)(e:Rd H a u):jK P w H h a u:=e.ok ok
theorem vS{kvs:List (Key×V)}(ok:HOk P w H h)(e:Rd H a (.dK kvs)):kvs.length<=sizeLine/\(a==sysModules)=false/\∃vs,KV kvs vs/\h.DictOf (iS P w) a vs:=
 show jK P w H h a (.dK kvs)from aKX ok e
theorem aD1{kvs:List (Key×V)}(ok:HOk P w H h)(e:H a=some (.dK kvs)):kvs.length<=sizeLine/\(a==sysModules)=false/\∃vs,KV kvs vs/\h.DictOf (iS P w) a vs:=vS ok (.inl e)
theorem tI{ks:List Key}(ok:HOk P w H h)(e:H a=some (.tup (ks.map kV))):(tupleKind (iS P w)).is h ks a:=by
 obtain⟨_,its,r,o,h1,h2,n,h3⟩:=(show jK P w H h a (.tup (ks.map kV))from ok a _ e)
 exact⟨o,its.toArray,n,h1,h2,h3,by simpa using zC r⟩
theorem v5{kvs:List (List Key×V)}(ok:HOk P w H h)(e:Rd H a (.dT kvs)):kvs.length<=sizeLine/\(a==sysModules)=false/\
 ∃xs,KT H kvs xs/\h.DictOfH (tupleKind (iS P w)) a xs:=by
 obtain⟨z,y,xs,r,o,es,ep,h1,h2,h3,h4,h5⟩:=(show jK P w H h a (.dT kvs)from aKX ok e)
 refine⟨z,y,xs,r,o,es,ep,h1,h2,h3,h4,fun x hx=>?_,h5⟩
 have all:∀{l:List (List Key×V)}{m:List (List Key×Addr×Value)},KT H l m->∀x∈m,(tupleKind (iS P w)).is h x.1 x.2.1:=by
  intro l m q;induction q with
  |nil=>intro x hx;exact nomatch hx
  | @cons p q ps qs hq t ih=>
    intro x hx;rcases bE.mp hx with e|hx
    ·subst e
     exact tI ok (by rw[<-hq.1];exact hq.2.1)
    ·exact ih x hx
 exact all r x hx
theorem aNx{kvs:List (List Key×V)}(ok:HOk P w H h)(e:H a=some (.dT kvs)):kvs.length<=sizeLine/\(a==sysModules)=false/\
 ∃xs,KT H kvs xs/\h.DictOfH (tupleKind (iS P w)) a xs:=v5 ok (.inl e)
end
def pL(H:Hp)(a:Addr)(y:V)(r:Option V):Prop:=
 (∃kvs k,Rd H a (.dK kvs)/\y=kV k/\r=rV kvs k)\/∃kvs k b,Rd H a (.dT kvs)/\y=.ref b/\H b=some (.tup (k.map kV))/\r=rV kvs k
def yS(H:Hp)(a:Addr)(y v:V)(H':Hp):Prop:=
 (∃kvs k,H a=some (.dK kvs)/\y=kV k/\kvs.length<sizeLine/\H'=upd H a (.dK (putK kvs k v)))\/
 ∃kvs k b,H a=some (.dT kvs)/\y=.ref b/\H b=some (.tup (k.map kV))/\kvs.length<sizeLine/\H'=upd H a (.dT (putK kvs k v))
theorem pL.k{H:Hp}{a:Addr}{kvs:List (Key×V)}{k:Key}(e:H a=some (.dK kvs)):pL H a (kV k) (rV kvs k):=.inl ⟨kvs,k,.inl e,rfl,rfl⟩
theorem pL.t{H:Hp}{a b:Addr}{kvs:List (List Key×V)}{k:List Key}(e:H a=some (.dT kvs))(eb:H b=some (.tup (k.map kV))):pL H a (.ref b) (rV kvs k):=.inr ⟨kvs,k,b,.inl e,rfl,eb,rfl⟩
theorem yS.k{H:Hp}{a:Addr}{kvs:List (Key×V)}{k:Key}{v:V}(e:H a=some (.dK kvs))(hl:kvs.length<sizeLine):yS H a (kV k) v (upd H a (.dK (putK kvs k v))):=.inl ⟨kvs,k,e,rfl,hl,rfl⟩
theorem yS.t{H:Hp}{a b:Addr}{kvs:List (List Key×V)}{k:List Key}{v:V}(e:H a=some (.dT kvs))(eb:H b=some (.tup (k.map kV)))(hl:kvs.length<sizeLine):
 yS H a (.ref b) v (upd H a (.dT (putK kvs k v))):=.inr ⟨kvs,k,b,e,rfl,eb,hl,rfl⟩
section
variable {X:Cx}{aa:List (Addr×Obj)}{σ:St}{H:Hp}{s:Shared}{a:Addr}{y v:V}{u r:Value}{o:Option V}{A:Around}{E:Value->Shared->Prop}
variable{Q:Value->Shared->Prop}{h':Heap}
theorem Inv.big(I:Inv X aa σ H s):sysModules<s.heap.objs.size:=by
 have h:mainGlobals<s.heap.objs.size:=(I.mod.glob.keeps I.bk).lt
 exact aPq (by decide) h
theorem zK(hu:A.units+1<cLine)(I:Inv X aa σ H s)(g:pL H a y (some v))(ry:RelV y u)(h:∀w' s',Inv X aa σ H s'->RelV v w'->Q w' s'):
 wpAny (model X.prog X.w) A (getItem (.ref a) u) Q E s:=by
 rcases g with⟨kvs,k,e,ey,l⟩| ⟨kvs,k,b,e,ey,eb,l⟩
 ·subst ey;obtain⟨z,hd,vs,rel,dd⟩:=vS I.hok e;obtain⟨w',hw,dh⟩:=oW.some_of (v:=v) (o:=valueAt vs k) (by rw[l];exact rel.val k)
  exact wpAny_getItem_of (wA ry) dd.mapOf hw (h w' _ (I.tok _) dh)
 ·subst ey;cases (show u=Value.ref b from ry);obtain⟨z,hd,xs,rel,dd⟩:=v5 I.hok e;obtain⟨w',hw,dh⟩:=oW.some_of (v:=v) (o:=(atKey xs k).map (·.2)) (by rw[l];exact rel.val k);obtain⟨p,hp,kb⟩:=aL.mp hw
  refine wpAny_getItem_heap (tupleKind_room_in1 hu) (tI I.hok eb) dd hp ?_
  rw[kb]
  exact h w' _ (I.tok _) dh
theorem aOj(hu:A.units+1<cLine)(I:Inv X aa σ H s)(g:pL H a y o)(ry:RelV y u)(h:∀s',Inv X aa σ H s'->Q (.bool o.isSome) s'):
 wpAny (model X.prog X.w) A (compareOp .In u (.ref a)) Q E s:=by
 rcases g with⟨kvs,k,e,ey,l⟩| ⟨kvs,k,b,e,ey,eb,l⟩
 ·subst ey;obtain⟨z,hd,vs,rel,dd⟩:=vS I.hok e
  refine wpAny_in_of (wA ry) hd dd.mapOf ?_
  rw[<-(rel.val k).isSome_eq,<-l]
  exact h _ (I.tok _)
 ·subst ey;cases (show u=Value.ref b from ry);obtain⟨z,hd,xs,rel,dd⟩:=v5 I.hok e
  refine wpAny_in_heap (tupleKind_room_in1 hu) (tI I.hok eb) hd dd ?_
  have q:=(rel.val k).isSome_eq;rw[aPi]at q;rw[<-q,<-l]
  exact h _ (I.tok _)
theorem aII(hu:A.units+1<cLine)(I:Inv X aa σ H s)(g:pL H a y o)(ry:RelV y u)(h:∀s',Inv X aa σ H s'->Q (.bool (!o.isSome)) s'):
 wpAny (model X.prog X.w) A (compareOp .NotIn u (.ref a)) Q E s:=by
 rcases g with⟨kvs,k,e,ey,l⟩| ⟨kvs,k,b,e,ey,eb,l⟩
 ·subst ey;obtain⟨z,hd,vs,rel,dd⟩:=vS I.hok e
  refine wpAny_notIn_of (wA ry) hd dd.mapOf ?_
  rw[<-(rel.val k).isSome_eq,<-l]
  exact h _ (I.tok _)
 ·subst ey;cases (show u=Value.ref b from ry);obtain⟨z,hd,xs,rel,dd⟩:=v5 I.hok e
  refine wpAny_notIn_heap (tupleKind_room_in1 hu) (tI I.hok eb) hd dd ?_
  have q:=(rel.val k).isSome_eq;rw[aPi]at q;rw[<-q,<-l]
  exact h _ (I.tok _)
theorem u7{t':Nat}{ob:HO}(I:Inv X aa σ H s)(mu:Mut (H a))(hs:Heap.SameBut a s.heap h')(he:∃q,h'.get? a=some q)(new:jK X.prog X.w (upd H a ob) h' a ob):
 Inv X aa σ (upd H a ob) {s with heap:=h',toks:=t'}:=
 I.write (x:=a) (e:=a) mu (.inl rfl) (fun b q hb z=>(hs.2 b hb).trans z) he new
theorem aCV{P:Program}{w:World}{H':Hp}{kvs:List (Key×V)}{vs:List (Key×Value)}(z:kvs.length<=sizeLine)(hd:(a==sysModules)=false)(rel:KV kvs vs)(dd:h'.DictOf (iS P w) a vs):
 jK P w H' h' a (.dK kvs):=⟨z,hd,vs,rel,dd⟩
theorem zG{H':Hp}{Q:Unit->Shared->Prop}(hu:A.units+1<cLine)(I:Inv X aa σ H s)(g:yS H a y v H')(ry:RelV y u)(rv:RelV v r)(h:∀s',Inv X aa σ H' s'->Q () s'):
 wpAny (model X.prog X.w) A (setItem (.ref a) u r) Q E s:=by
 rcases g with⟨kvs,k,e,ey,l,eH⟩| ⟨kvs,k,b,e,ey,eb,l,eH⟩
 ·subst ey eH;obtain⟨z,hd,vs,rel,dd⟩:=aD1 I.hok e;have hz:vs.length<=sizeLine:=by rw[<-rel.length];exact z
  have hl:(putK kvs k v).length<=sizeLine:=by have:=pE kvs k v;lia
  refine wpAny_setItem_pairs (hsz:=hz) (wA ry) dd fun h' jq hs=>h _ ?_
  have he:∃q,h'.get? a=some q:=let ⟨q,_,_,hq,_⟩:=jq;⟨q,hq⟩
  exact u7 I (by rw[e];exact True.intro) hs he (aCV hl hd (rel.put k rv) jq)
 ·subst ey eH;cases (show u=Value.ref b from ry);obtain⟨z,hd,xs,rel,dd⟩:=aNx I.hok e;have hz:xs.length<=sizeLine:=by rw[<-Paired.length rel];exact z
  have hl:(putK kvs k v).length<=sizeLine:=by have:=pE kvs k v;lia
  refine wpAny_setItem_heap (hsz:=hz) (tupleKind_room_in1 hu) (tI I.hok eb) dd fun h' jq hs=>h _ ?_
  obtain⟨q,es,ep,hq,h2,h3,h4,_,h5⟩:=jq
  refine u7 I (by rw[e];exact True.intro) hs ⟨q,hq⟩ ⟨hl,hd,_,(rel.put k eb rv).keeps fun c ys ec=>?_,q,es,ep,hq,h2,h3,h4,h5⟩
  rw[fK (m8 ec e (fun z=>nomatch z))]
  exact ec
end
section
variable {X:Cx}{aa:List (Addr×Obj)}{σ:St}{H:Hp}{s:Shared}{a:Addr}{kvs:List (Key×V)}{k:Key}{u:Value}{A:Around}{E:Value->Shared->Prop}
end
variable{s:Shared}
def aM5(i:Expr):Prop:=∀ov iv,subscripted i false ov iv=operate [ov,iv] (getItem ov iv)
theorem aIJ{prog:Program}{w:World}{A:Around}{E:Value->Shared->Prop}{env:Env}{value slice:Expr}{pos:Pos}{T id:String}{Q:Value->Shared->Prop}
 (hl:typeLookup (.type T) "__getitem__"=pure (some (.builtin id)))(hs:aM5 slice)
 (h:wpAny (model prog w) A (eval value env) (fun o ak=>wpAny (model prog w) A (eval slice env) (fun i cb=>cb.TypeIs o T/\wpAny (model prog w) A (getItem o i) Q E cb) E ak) E s):
 wpAny (model prog w) A (eval (.Subscript value slice pos) env) Q E s:=by
 refine Subscript_ (wpAny_mono h (fun o ak bg=>wpAny_mono bg (fun i cb cy=>?_) fun _ _ x=>x) fun _ _ x=>x)
 obtain⟨hT,cy⟩:=cy;unfold subscriptTail
 refine wpAny_bind ?_
 rw[getitemInPython_of_ne hT.not_modules]
 refine wpAny_bind (wpAny_specialOf hT hl ?_)
 have fin:wpAny (model prog w) A (subscripted slice false o i) (fun r db=>wpAny (model prog w) A (letTemporaryGo value o r>>=fun _=>pure r) Q E db) E cb:=by
  rw[hs o i]
  exact wpAny_operating (wpAny_mono cy (fun r db jx=>wpAny_bind (wpAny_letTemporaryGo (wpAny_pure jx))) fun _ _ x=>x)
 first
  |exact wpAny_pure (wpAny_bind fin)
  |exact wpAny_bind (wpAny_pure (wpAny_bind fin))
  |exact wpAny_bind fin
theorem aCn{X:Cx}{aa:List (Addr×Obj)}{σ:St}{H:Hp}{a:Addr}{y:V}{o:Option V}(I:Inv X aa σ H s)(g:pL H a y o):s.TypeIs (.ref a) "dict":=by
 rcases g with⟨kvs,k,e,_,_⟩| ⟨kvs,k,b,e,_,_,_⟩
 ·obtain⟨_,_,vs,_,dd⟩:=vS I.hok e
  exact dd.typeIs
 ·obtain⟨_,_,xs,_,dd⟩:=v5 I.hok e
  exact dd.typeIs
noncomputable def tDGet(td ty:TE):TE:=fun σ H Q=>td σ H fun x H1=>ty σ H1 fun y H2=>∃a v,x=.ref a/\pL H2 a y (some v)/\Q v H2
noncomputable def tDIn(ty td:TE):TE:=fun σ H Q=>ty σ H fun y H1=>td σ H1 fun x H2=>∃a o,x=.ref a/\pL H2 a y o/\Q (.bl o.isSome) H2
noncomputable def tDNotIn(ty td:TE):TE:=fun σ H Q=>ty σ H fun y H1=>td σ H1 fun x H2=>∃a o,x=.ref a/\pL H2 a y o/\Q (.bl (!o.isSome)) H2
noncomputable def sDPut(td ty tv:TE):TS:=fun D σ H=>tv σ H fun v H1=>td σ H1 fun x H2=>ty σ H2 fun y H3=>∃a H4,x=.ref a/\yS H3 a y v H4/\D.nx σ H4
def sDAug(td ty tv:TE)(rd:V->V->Hp->VK->Prop):TS:=fun D σ H=>td σ H fun x H1=>ty σ H1 fun y H2=>∃a v,x=.ref a/\pL H2 a y (some v)/\
 tv σ H2 fun y2 H3=>rd v y2 H3 fun z H4=>∃H5,yS H4 a y z H5/\D.nx σ H5
section
variable {X:Cx}{o i e value:Expr}{pos ar az:Pos}{td ty tv:TE}
theorem aJ3(hu:X.A.units+1<cLine)(ho:PE X o td)(hi:PE X i ty)(hs:aM5 i):PE X (.Subscript o i pos) (tDGet td ty):=by
 intro aa s σ H Q I h
 refine aIJ PySem.F.slot_dict_getitem.lookup hs (thn (ho aa s σ H _ I h) fun u s1 ⟨x,H1,I1,rx,q1⟩=>thn (hi aa s1 σ H1 _ I1 q1) fun iv s2 zz=>?_)
 obtain⟨y,H2,I2,ry,a,v,ex,g,q2⟩:=zz;subst ex;obtain rfl:u=Value.ref a:=rx
 exact⟨aCn I2 g,zK hu I2 g ry fun w' s3 I3 dh=>⟨v,H2,I3,dh,q2⟩⟩
theorem aNf(hu:X.A.units+1<cLine)(hi:PE X i ty)(ho:PE X o td):PC X .In i o (tDIn ty td):=by
 intro aa s σ H Q I h
 refine thn (hi aa s σ H _ I h) fun iv s1 ⟨y,H1,I1,ry,q1⟩=>thn (ho aa s1 σ H1 _ I1 q1) fun u s2 zz=>?_
 obtain⟨x,H2,I2,rx,a,ov,ex,g,q2⟩:=zz;subst ex;obtain rfl:u=Value.ref a:=rx
 exact aOj hu I2 g ry fun s3 I3=>⟨.bl ov.isSome,H2,I3,rfl,q2⟩
theorem aER(hu:X.A.units+1<cLine)(hi:PE X i ty)(ho:PE X o td):PC X .NotIn i o (tDNotIn ty td):=by
 intro aa s σ H Q I h
 refine thn (hi aa s σ H _ I h) fun iv s1 ⟨y,H1,I1,ry,q1⟩=>thn (ho aa s1 σ H1 _ I1 q1) fun u s2 zz=>?_
 obtain⟨x,H2,I2,rx,a,ov,ex,g,q2⟩:=zz;subst ex;obtain rfl:u=Value.ref a:=rx
 exact aII hu I2 g ry fun s3 I3=>⟨.bl (!ov.isSome),H2,I3,rfl,q2⟩
theorem aJw(hu:X.A.units+1<cLine)(ho:PE X o td)(hi:PE X i ty)(hv:PE X value tv)(hs:swapsWith value (some (.Subscript o i ar)) pos.line X.env=pure false):
 PS X (.Assign [.Subscript o i ar] value pos) (sDPut td ty tv):=by
 intro aa s σ H D I h
 refine wpAny_Assign_Subscript (thn (hv aa s σ H _ I h) fun r s1 ⟨v,H1,I1,rv,q1⟩=>thn (ho aa s1 σ H1 _ I1 q1) fun u s2 ⟨x,H2,I2,rx,q2⟩=>thn (hi aa s2 σ H2 _ I2 q2) fun iv s3 ⟨y,H3,I3,ry,a,H4,ex,g,q3⟩=>?_) hs
 subst ex;obtain rfl:u=Value.ref a:=rx
 exact zG hu I3 g ry rv fun s4 I4=>⟨σ,H4,I4,q3⟩
theorem aKg{op:Operator}{rd:V->V->Hp->VK->Prop}(hu:X.A.units+1<cLine)(ho:PE X o td)(hi:PE X i ty)(hv:PE X value tv)(yg:aKu X op rd)
 (ha:∀ov iv new,augStore i ov iv new=(do holding [new,ov,iv] (setItem ov iv new);release [new,ov,iv] [];pure .next)):PS X (.AugAssign (.Subscript o i az) op value pos) (sDAug td ty tv rd):=by
 intro aa s σ H D I h
 refine wpAny_AugAssign_SubscriptAny (thn (ho aa s σ H _ I h) fun u s1 ⟨x,H1,I1,rx,q1⟩=>thn (hi aa s1 σ H1 _ I1 q1) fun iv s2 ⟨y,H2,I2,ry,a,v,ex,g,q2⟩=>?_) ha
 subst ex;obtain rfl:u=Value.ref a:=rx
 refine zK hu I2 g ry fun w' s3 I3 dh=>thn (hv aa s3 σ H2 _ I3 q2) fun w2 s4 ⟨y2,H3,I4,ry2,q3⟩=>thn (yg aa s4 σ H3 v y2 w' w2 _ I4 dh ry2 q3) fun w3 s5 zz=>?_
 obtain⟨z,H4,I5,rz,H5,g5,q4⟩:=zz
 exact zG hu I5 g5 ry rz fun s6 I6=>⟨σ,H5,I6,q4⟩
end
variable{P:Program}{w:World}
theorem aBc{H:Hp}(h:Heap)(hb:sysModules<h.objs.size):jK P w H (h.push {cls:=.type "dict",data:=.dict #[]}) h.objs.size (.dK []):=
 ⟨d3 _,beq_eq_false_iff_ne.mpr (Ne.symm (bX hb)),[],.nil,Heap.DictOf.new h⟩
theorem aHO{H:Hp}(h:Heap)(hb:sysModules<h.objs.size):jK P w H (h.push {cls:=.type "dict",data:=.dict #[]}) h.objs.size (.dT []):=
 ⟨d3 _,beq_eq_false_iff_ne.mpr (Ne.symm (bX hb)),[],.nil,_,#[],0,Heap.get?_push_size _ rfl,⟨rfl,rfl,rfl⟩,rfl,rfl,aP7⟩
def tDNewK:TE:=fun _ H Q=>∀p,H p=none->Q (.ref p) (upd H p (.dK []))
def tDNewT:TE:=fun _ H Q=>∀p,H p=none->Q (.ref p) (upd H p (.dT []))
section
variable {X:Cx}{pos:Pos}
theorem aIp:PE X (.Dict [] [] pos) tDNewK:=fun aa s σ H Q I h=>
 wpAny_Dict_empty ⟨.ref s.heap.objs.size,_,I.laid (a:=s.heap.objs.size) (o:=.dK []) (t':=s.toks) (fun _ _ q=>Heap.get?_push_of_some _ q) (bG _) (aBc s.heap I.big),rfl,h _ (I.hok.fresh (bG _))⟩
theorem aHD:PE X (.Dict [] [] pos) tDNewT:=fun aa s σ H Q I h=>
 wpAny_Dict_empty ⟨.ref s.heap.objs.size,_,I.laid (a:=s.heap.objs.size) (o:=.dT []) (t':=s.toks) (fun _ _ q=>Heap.get?_push_of_some _ q) (bG _) (aHO s.heap I.big),rfl,h _ (I.hok.fresh (bG _))⟩
end
variable{X:Cx}{pos:Pos}{ku:List (TE×TE)}
def aCz:List (TE×TE)->St->Hp->(List (V×V)->Hp->Prop)->Prop
 | [],_,H,Q=>Q [] H
 | (tk,tv)::r,σ,H,Q=>tk σ H fun x H1=>tv σ H1 fun y H2=>aCz r σ H2 fun ps H3=>Q ((x,y)::ps) H3
abbrev VV:List (V×V)->List (Value×Value)->Prop:=Paired fun p q=>RelV p.1 q.1/\RelV p.2 q.2
def PPs(X:Cx)(pos:Pos)(keys:List (Option Expr))(values:List Expr)(ku:List (TE×TE)):Prop:=
 ∀(aa:List (Addr×Obj))(s:Shared)(σ:St)(H:Hp)(Q:List (V×V)->Hp->Prop),Inv X aa σ H s->aCz ku σ H Q->
  wpAny (model X.prog X.w) X.A (evalPairs (pairTrees keys values X.env pos)) (fun vs s'=>∃ps H',Inv X aa σ H' s'/\VV ps vs/\Q ps H') X.xe s
theorem aKD:PPs X pos [] [] []:=fun aa s σ H Q I h=>pairTrees_nil_walk ⟨[],H,I,.nil,h⟩
theorem aIf{k v:Expr}{ks:List (Option Expr)}{vs:List Expr}{tk tv:TE}(hk:PE X k tk)(hv:PE X v tv)(hr:PPs X pos ks vs ku):
 PPs X pos (some k::ks) (v::vs) ((tk,tv)::ku):=fun aa s σ H Q I h=>
 pairTrees_cons_walk (thn (hk aa s σ H _ I h) fun u s1 ⟨x,H1,I1,rx,q1⟩=>thn (hv aa s1 σ H1 _ I1 q1) fun w2 s2 ⟨y,H2,I2,ry,q2⟩=>
  thn (hr aa s2 σ H2 _ I2 q2) fun ws s3 ⟨ps,H3,I3,rel,q3⟩=>⟨(x,y)::ps,H3,I3,.cons ⟨rx,ry⟩ rel,q3⟩)
def pJ(kvs more:List (Key×V)):List (Key×V):=more.foldl (fun acc kv=>putK acc kv.1 kv.2) kvs
theorem KV.merge:∀{more:List (Key×V)}{rs:List (Key×Value)}{kvs:List (Key×V)}{vs:List (Key×Value)},KV more rs->KV kvs vs->KV (pJ kvs more) (merged vs rs):=by
 intro more rs kvs vs r;unfold KV at r;induction r generalizing kvs vs with
 |nil=>intro q;exact q
 | @cons p q ps qs h t ih=>
   intro r0;have e:KV (putK kvs p.1 p.2) (stored vs q.1 q.2):=by
    have:=r0.put p.1 h.2;rw[<-h.1];exact this
   exact ih e
theorem nC:∀(more kvs:List (Key×V)),(pJ kvs more).length<=kvs.length+more.length
 | [],kvs=>by show kvs.length<=kvs.length+0;lia
 |p::r,kvs=>by
  have h1:=nC r (putK kvs p.1 p.2);have h2:=pE kvs p.1 p.2;show(pJ (putK kvs p.1 p.2) r).length<=_;rw[aN];lia
theorem wX{P:Program}{w:World}:∀{kvs:List (Key×V)}{ws:List (Value×Value)},VV (kvs.map fun kv=>(kV kv.1,kv.2)) ws->∃rs,Carries (iS P w) ws rs/\KV kvs rs
 | [],_,r=>by rw[bB]at r;cases r;exact⟨[],True.intro,.nil⟩
 |p::kvs,_,r=>by
  rw[aM]at r;cases r with
  | @cons a b as bs h t=>
    obtain⟨rs,c,q⟩:=wX (P:=P) (w:=w) t;obtain⟨b1,b2⟩:=b
    exact⟨(p.1,b2)::rs,⟨wA h.1,rfl,c⟩,.cons ⟨rfl,h.2⟩ q⟩
def tDisp(ku:List (TE×TE)):TE:=fun σ H Q=>∀p,H p=none->aCz ku σ (upd H p (.dK [])) fun ps H2=>H2 p=some (.dK [])/\∃kvs:List (Key×V),ps=kvs.map (fun kv=>(kV kv.1,kv.2))/\kvs.length<=15/\Q (.ref p) (upd H2 p (.dK (pJ [] kvs)))
theorem aIY{keys:List (Option Expr)}{values:List Expr}(h:PPs X pos keys values ku)(jd:keys.all (·.isSome)=true)(hl:keys.length=values.length)(h0:keys≠[])
 (h15:keys.length<=15):PE X (.Dict keys values pos) (tDisp ku):=by
 intro aa s σ H Q I q;have hn:=I.hok.fresh (bG s.heap.objs.size);have I1:=I.laid (a:=s.heap.objs.size) (o:=.dK []) (h':=s.heap.push {cls:=.type "dict",data:=.dict #[]}) (t':=s.toks) (fun _ _ q=>Heap.get?_push_of_some _ q) (bG _) (aBc s.heap I.big)
 refine wpAny_Dict_walk (knd:=iS X.prog X.w) jd hl h0 h15 (thn (h aa _ σ _ _ I1 (q _ hn)) fun ws s2 zz=>?_)
 obtain⟨ps,H2,I2,rel,e,kvs,ep,lk,q2⟩:=zz;subst ep;obtain⟨rs,c,rk⟩:=wX (P:=X.prog) (w:=X.w) rel;obtain⟨z,hd,vs0,r0,dd⟩:=aD1 I2.hok e;cases r0
 refine⟨rs,c,dd,fun h' jq hs=>⟨.ref s.heap.objs.size,_,?_,rfl,q2⟩⟩
 have hz:(pJ [] kvs).length<=sizeLine:=by
  have h1:=nC kvs [];rw[aQ]at h1;rw[sizeLine_eq];lia
 have he:∃q,h'.get? s.heap.objs.size=some q:=let ⟨q,_,_,hq,_⟩:=jq;⟨q,hq⟩
 exact u7 I2 (by rw[e];exact True.intro) hs he (aCV hz hd (rk.merge .nil) jq)
structure M1(X:Cx)(o:Expr)(m:Str)(ao:Pos)(e:Expr)(al:Pos):Prop where
 base:attributeBase o m X.env (eval o X.env)=eval o X.env
 few:((backTo al (starEach [e] X.env)).all (fun x=> !x.1)&&(backToKw al (keywordEach [] X.env)).all (fun x=>x.1.isSome)
  &&decide (([e]:List Expr).length+([]:List Keyword).length+(if([]:List Keyword).isEmpty then 0 else 1)<30))=true
 line:(ao.endLine==al.line)=true
 trees:backTo al (starEach [e] X.env)=[(false,eval e X.env)]
structure M2(X:Cx)(o:Expr)(m:Str)(ao:Pos)(e f:Expr)(al:Pos):Prop where
 base:attributeBase o m X.env (eval o X.env)=eval o X.env
 few:((backTo al (starEach [e,f] X.env)).all (fun x=> !x.1)&&(backToKw al (keywordEach [] X.env)).all (fun x=>x.1.isSome)
  &&decide (([e,f]:List Expr).length+([]:List Keyword).length+(if([]:List Keyword).isEmpty then 0 else 1)<30))=true
 line:(ao.endLine==al.line)=true
 trees:backTo al (starEach [e,f] X.env)=[(false,eval e X.env),(false,eval f X.env)]
def IsD(H:Hp)(a:Addr):Prop:=(∃kvs,Rd H a (.dK kvs))\/∃kvs,Rd H a (.dT kvs)
theorem aGL{aa:List (Addr×Obj)}{σ:St}{H:Hp}{s:Shared}{a:Addr}(I:Inv X aa σ H s)(d:IsD H a):
 s.TypeIs (.ref a) "dict"/\(∀b,Value.ref a=.ref b->∃ob,s.heap.get? b=some ob/\ob.dict=none)/\(a==sysModules)=false:=by
 rcases d with⟨kvs,e⟩| ⟨kvs,e⟩
 ·obtain⟨_,hd,vs,_,dd⟩:=vS I.hok e
  refine⟨dd.typeIs,fun b q=>?_,hd⟩
  cases q;obtain⟨ob,_,_,h1,h2,_⟩:=dd
  exact⟨ob,h1,h2.2.1⟩
 ·obtain⟨_,hd,xs,_,dd⟩:=v5 I.hok e
  refine⟨dd.typeIs,fun b q=>?_,hd⟩
  cases q;obtain⟨ob,_,_,h1,h2,_⟩:=dd
  exact⟨ob,h1,h2.2.1⟩
section
variable {X:Cx}{aa:List (Addr×Obj)}{σ:St}{H:Hp}{s:Shared}{a:Addr}{y d:V}{u r:Value}{o:Option V}{A:Around}{E:Value->Shared->Prop}
theorem aMA{Q:Value->Shared->Prop}(hu:A.units+1<cLine)(I:Inv X aa σ H s)(g:pL H a y o)(ry:RelV y u)(rd:RelV d r)(h:∀w' s',Inv X aa σ H s'->RelV (o.getD d) w'->Q w' s'):
 wpAny (model X.prog X.w) A (call (.builtin "dict.get") [.ref a,u,r]) Q E s:=by
 rcases g with⟨kvs,k,e,ey,l⟩| ⟨kvs,k,b,e,ey,eb,l⟩
 ·subst ey;obtain⟨z,hd,vs,rel,dd⟩:=vS I.hok e
  refine call_meetsIn PySem.F.slot_dict_get dd.typeIs PySem.F.entry_dict_get (PySem.F.args_dict_get_3 _ _ _) (meets_dict_get_default (iS X.prog X.w) a (wA ry) hd r) ⟨_,dd.mapOf,h _ _ (I.tok _) ?_⟩
  rw[l]
  exact(rel.val k).getD rd
 ·subst ey;cases (show u=Value.ref b from ry);obtain⟨z,hd,xs,rel,dd⟩:=v5 I.hok e
  refine call_meetsIn PySem.F.slot_dict_get dd.typeIs PySem.F.entry_dict_get (PySem.F.args_dict_get_3 _ _ _) (meetsH_dict_get_default (tupleKind (iS X.prog X.w)) a b hd r) ⟨tupleKind_room_in1 hu,k,xs,tI I.hok eb,dd,h _ _ (I.tok _) ?_⟩
  rw[l]
  exact(rel.val k).getD rd
end
noncomputable def tDGet2(td ty tx:TE):TE:=fun σ H Q=>td σ H fun x H1=>∃a,x=.ref a/\IsD H1 a/\ty σ H1 fun y H2=>tx σ H2 fun z H3=>∃o,pL H3 a y o/\Q (o.getD z) H3
section
variable {X:Cx}{o e f:Expr}{ao al:Pos}{td ty tx:TE}
theorem aGc(hu:X.A.units+1<cLine)(ho:PE X o td)(he:PE X e ty)(hf:PE X f tx)(m:M2 X o "get" ao e f al):PE X (.Call (.Attribute o "get" ao) [e,f] [] al) (tDGet2 td ty tx):=by
 intro aa s σ H Q I h
 refine wpAny_Call_method m.base m.few m.line PySem.F.plainAttrs_dict PySem.F.slot_dict_get PySem.F.type_dict_get (thn (ho aa s σ H _ I h) fun u s1 zz=>?_)
 obtain⟨x,H1,I1,rx,a,ex,d,q1⟩:=zz;subst ex;obtain rfl:u=Value.ref a:=rx;obtain⟨t1,t2,_⟩:=aGL I1 d
 refine⟨t1,t2,?_⟩
 rw[m.trees]
 refine Calls.callWith_builtin rfl (Calls.evalArgs_plain (Calls.spliced_cons (thn (he aa s1 σ H1 _ I1 q1) fun iv s2 ⟨y,H2,I2,ry,q2⟩=>
  Calls.spliced_cons (thn (hf aa s2 σ H2 _ I2 q2) fun fv s3 ⟨z,H3,I3,rz,ov,g,q3⟩=>Calls.spliced_nil ?_))))
 exact aMA hu I3 g ry rz fun w' s4 I4 dh=>⟨_,H3,I4,dh,q3⟩
end
section
variable {X:Cx}{aa:List (Addr×Obj)}{σ:St}{H:Hp}{s:Shared}{a:Addr}{kvs:List (Key×V)}{A:Around}{E:Value->Shared->Prop}
end
section
variable {X:Cx}{aa:List (Addr×Obj)}{σ:St}{H:Hp}{s:Shared}{a:Addr}{y:V}{u:Value}{A:Around}{E:Value->Shared->Prop}
end
end L2
namespace TL
open PySem L2
section
variable {κ:Type}[DecidableEq κ]{α:Type}
variable{ks:List κ}
noncomputable def vl(l:List (κ×α))(k:κ):Option α:=(l.find? fun kv=>decide (kv.1=k)).map (·.2)
noncomputable def pkK(k:κ)(ks:List κ):List κ:=if k∈ks then ks else ks++[k]
noncomputable def pvK(k:κ)(v:α)(ks:List κ)(vs:List α):List α:=if k∈ks then(ks.zip vs).map fun kv=>if kv.1=k then v else kv.2 else vs++[v]
theorem aD0{k:κ}:∀{ks:List κ}{vs:List α},ks.length=vs.length->((ks.zip vs).any fun kv=>decide (kv.1=k))=decide (k∈ks)
 | [],_,_=>rfl
 |_::_,[],h=>by cases h
 |x::ks,v::vs,h=>by
  rw[cG,aOY,aD0 (by simpa using h)];by_cases e:x=k
  ·simp[e]
  ·simp[e,Ne.symm e]
theorem tY{k:κ}{v:α}:∀{ks:List κ}{vs:List α},ks.length=vs.length->(ks.zip vs).map (fun kv=>if kv.1=k then(kv.1,v)else kv)=ks.zip ((ks.zip vs).map fun kv=>if kv.1=k then v else kv.2)
 | [],_,_=>rfl
 |_::_,[],h=>by cases h
 |x::ks,w::vs,h=>by
  rw[cG,aM,aM,cG,tY (by simpa using h)];dsimp only;split<;>rfl
theorem xU{k:κ}{v:V}{vs:List V}(h:ks.length=vs.length):putK (ks.zip vs) k v=(pkK k ks).zip (pvK k v ks vs):=by
 unfold putK pkK pvK;rw[aD0 h];by_cases e:k∈ks
 ·rw[if_pos (decide_eq_true e),if_pos e,if_pos e,tY h]
 ·rw[if_neg (by simpa using e),if_neg e,if_neg e,List.zip_append h];rfl
theorem aC0{k:κ}{v:α}{vs:List α}(h:ks.length=vs.length):(pkK k ks).length=(pvK k v ks vs).length:=by
 unfold pkK pvK;split
 ·rw[aP,dJ,<-h,Nat.min_self]
 ·simp[h]
end
section
variable {K:aO}{M:Hp}{ρ:Rho}{κ:Type}[DecidableEq κ]
theorem RTs.vl{k:κ}:∀{ks:List κ}{ts:List T}{vs:List V},RTs K M ρ ts vs->∀{t:T},TL.vl (ks.zip ts) k=some t->∃v,rV (ks.zip vs) k=some v/\RT K M ρ t v
 | [],_,_,_,_,e=>by cases e
 |_::_,[],_,_,_,e=>by cases e
 |x::ks,u::ts,vs,h,t,e=>by
  obtain⟨v,r,rfl,h1,h2⟩:=h.cons_inv;rw[cG];rw[cG]at e;unfold TL.vl at e;rw[dG]at e;by_cases q:x=k
  ·rw[show decide ((x,u).1=k)=true from decide_eq_true q]at e;cases e
   exact⟨v,sN q,h1⟩
  ·rw[show decide ((x,u).1=k)=false from decide_eq_false q]at e;rw[pF (p:=(x,v)) q]
   exact RTs.vl h2 e
theorem RTs.vlN{k:κ}:∀{ks:List κ}{ts:List T}{vs:List V},RTs K M ρ ts vs->TL.vl (ks.zip ts) k=none->rV (ks.zip vs) k=none
 | [],_,_,_,_=>rfl
 |_::_,[],vs,h,_=>by rw[h.nil_inv];rfl
 |x::ks,u::ts,vs,h,e=>by
  obtain⟨v,r,rfl,h1,h2⟩:=h.cons_inv;rw[cG]at e|-;unfold TL.vl at e;rw[dG]at e;by_cases q:x=k
  ·rw[show decide ((x,u).1=k)=true from decide_eq_true q]at e;cases e
  ·rw[show decide ((x,u).1=k)=false from decide_eq_false q]at e;rw[pF (p:=(x,v)) q]
   exact RTs.vlN h2 e
theorem RTs.pvK{k:κ}{t:T}{v:V}(h0:RT K M ρ t v){ks:List κ}{ts:List T}{vs:List V}(h:RTs K M ρ ts vs):RTs K M ρ (TL.pvK k t ks ts) (TL.pvK k v ks vs):=by
 unfold TL.pvK;split
 ·have:∀{ks:List κ}{ts:List T}{vs:List V},RTs K M ρ ts vs->RTs K M ρ ((ks.zip ts).map fun kv=>if kv.1=k then t else kv.2) ((ks.zip vs).map fun kv=>if kv.1=k then v else kv.2):=by
   intro ks;induction ks with
   |nil=>intro ts vs _;exact .nil
   |cons x ks ih=>
    intro ts vs h;cases ts with
    |nil=>rw[h.nil_inv];exact .nil
    |cons u ts=>
     obtain⟨w,r,rfl,h1,h2⟩:=h.cons_inv;rw[cG,cG,aM,aM]
     refine .cons ?_ (ih h2)
     dsimp only;split
     ·exact h0
     ·exact h1
  exact this h
 ·exact h.append (.cons h0 .nil)
end
variable{c:Nat}{ks:List (List Key)}
noncomputable def kyT:T->Option Key
 | .int i=>some (.inl i)
 |_=>none
def aI6:List T->Option (List Key)
 | []=>some []
 |t::ts=>(kyT t).bind fun k=>(aI6 ts).map fun ks=>k::ks
def ktT:T->Option (List Key)
 | .tup ts=>aI6 ts
 |_=>none
noncomputable def dkc(C:Sto):T->Option (Nat×List Key×List T)
 | .cell c=>(C[c]?).bind fun x=>match x.1 with
   | .dk ks=>some (c,ks,x.2)
   |_=>none
 |_=>none
noncomputable def dtc(C:Sto):T->Option (Nat×List (List Key)×List T)
 | .cell c=>(C[c]?).bind fun x=>match x.1 with
   | .dt ks=>some (c,ks,x.2)
   |_=>none
 |_=>none
noncomputable def dzc(C:Sto):T->Option (Nat×List (List Key)×List T)
 | .cell c=>(C[c]?).bind fun x=>match x.1 with
   | .dt ks=>some (c,ks,x.2)
   | .dz ks=>some (c,ks,x.2)
   |_=>none
 |_=>none
theorem aBR{C:Sto}{t:T}{ks:List Key}{ts:List T}(h:dkc C t=some (c,ks,ts)):t=.cell c/\C[c]?=some (.dk ks,ts):=by
 unfold dkc at h;split at h
 ·obtain⟨⟨k,us⟩,e,h⟩:=aK.mp h;dsimp only at h;split at h
  ·cases h;exact⟨rfl,e⟩
  ·cases h
 ·cases h
theorem aGl{C:Sto}{t:T}{ts:List T}(h:dtc C t=some (c,ks,ts)):t=.cell c/\C[c]?=some (.dt ks,ts):=by
 unfold dtc at h;split at h
 ·obtain⟨⟨k,us⟩,e,h⟩:=aK.mp h;dsimp only at h;split at h
  ·cases h;exact⟨rfl,e⟩
  ·cases h
 ·cases h
theorem aGi{C:Sto}{t:T}{ts:List T}(h:dzc C t=some (c,ks,ts)):t=.cell c/\(C[c]?=some (.dt ks,ts)\/C[c]?=some (.dz ks,ts)):=by
 unfold dzc at h;split at h
 ·obtain⟨⟨k,us⟩,e,h⟩:=aK.mp h;dsimp only at h;split at h
  ·cases h;exact⟨rfl,.inl e⟩
  ·cases h;exact⟨rfl,.inr e⟩
  ·cases h
 ·cases h
section
variable {K:aO}{W:XW}{σ:St}{H:Hp}{Q:VK}{D:Ends}{M:Hp}{ρ:Rho}
variable{fk fv fd:FE}{td tk:T}
theorem aAf{t:T}{v:V}{k:Key}(h:RT K M ρ t v)(e:kyT t=some k):v=kV k:=by
 unfold kyT at e;split at e
 ·cases e;exact h.int_inv
 ·cases e
theorem aEb:∀{ts:List T}{vs:List V}{ks:List Key},RTs K M ρ ts vs->aI6 ts=some ks->vs=ks.map kV
 | [],_,_,h,e=>by cases e;exact h.nil_inv
 |t::ts,vs,ks,h,e=>by
  obtain⟨v,r,rfl,h1,h2⟩:=h.cons_inv;unfold aI6 at e;obtain⟨k,e1,e⟩:=aK.mp e;obtain⟨ks',e2,e⟩:=aL.mp e;cases e;rw[aAf h1 e1,aEb h2 e2];rfl
theorem aHt{Z:Addr->Prop}{t:T}{v:V}{k:List Key}(h:RT K (mask H Z ρ) ρ t v)(e:ktT t=some k):∃b,v=.ref b/\H b=some (.tup (k.map kV)):=by
 unfold ktT at e;split at e
 ·unfold RT at h;obtain⟨a,vs,e1,q,r⟩:=h
  exact⟨a,e1,by rw[(lI.mp q).2.2,aEb r e]⟩
 ·cases e
theorem Rel.dk{H₀:Hp}{Z:Addr->Prop}{τ:TSt}{C:Sto}{t:T}{v:V}{c:Nat}{ks:List Key}{ts:List T}(R:Rel K H₀ Z ρ τ C σ H)(h:RT K (mask H Z ρ) ρ t v)(e:dkc C t=some (c,ks,ts)):
 ∃a vs,v=.ref a/\ρ[c]?=some a/\ks.length=vs.length/\H a=some (.dK (ks.zip vs))/\RTs K (mask H Z ρ) ρ ts vs:=by
 obtain⟨rfl,e0⟩:=aBR e;unfold RT at h;obtain⟨a,ev,q⟩:=h;obtain⟨x,vs,ob,h1,h2,h3,h4⟩:=R.cel c a q;rw[e0]at h1;cases h1;obtain⟨hl,rfl⟩:=h3
 exact⟨a,vs,ev,q,hl,h2,h4⟩
theorem Rel.dt{H₀:Hp}{Z:Addr->Prop}{τ:TSt}{C:Sto}{t:T}{v:V}{c:Nat}{ks:List (List Key)}{ts:List T}(R:Rel K H₀ Z ρ τ C σ H)(h:RT K (mask H Z ρ) ρ t v)(e:dtc C t=some (c,ks,ts)):
 ∃a vs,v=.ref a/\ρ[c]?=some a/\ks.length=vs.length/\H a=some (.dT (ks.zip vs))/\RTs K (mask H Z ρ) ρ ts vs:=by
 obtain⟨rfl,e0⟩:=aGl e;unfold RT at h;obtain⟨a,ev,q⟩:=h;obtain⟨x,vs,ob,h1,h2,h3,h4⟩:=R.cel c a q;rw[e0]at h1;cases h1;obtain⟨hl,rfl⟩:=h3
 exact⟨a,vs,ev,q,hl,h2,h4⟩
theorem Rel.dz{H₀:Hp}{Z:Addr->Prop}{τ:TSt}{C:Sto}{t:T}{v:V}{c:Nat}{ks:List (List Key)}{ts:List T}(R:Rel K H₀ Z ρ τ C σ H)(h:RT K (mask H Z ρ) ρ t v)(e:dzc C t=some (c,ks,ts)):
 ∃a vs,v=.ref a/\ρ[c]?=some a/\ks.length=vs.length/\Rd H a (.dT (ks.zip vs))/\RTs K (mask H Z ρ) ρ ts vs:=by
 obtain⟨rfl,e0⟩:=aGi e;unfold RT at h;obtain⟨a,ev,q⟩:=h;obtain⟨x,vs,ob,h1,h2,h3,h4⟩:=R.cel c a q;rcases e0 with e0|e0
 ·rw[e0]at h1;cases h1;obtain⟨hl,rfl⟩:=h3
  exact⟨a,vs,ev,q,hl,.inl h2,h4⟩
 ·rw[e0]at h1;cases h1;obtain⟨hl,o,rfl⟩:=h3
  exact⟨a,vs,ev,q,hl,.inr ⟨o,h2⟩,h4⟩
noncomputable def uG(kd:Kd):FE:=fun _ C=>some (.cell C.length,C++[(kd,[])])
theorem aIW(h:trE K (uG (.dk [])) σ H Q):tDNewK σ H Q:=by
 obtain⟨H₀,Z,ρ,τ,C,t,C',R,e,k⟩:=h;cases e;intro p hp;obtain⟨R1,s1,r1⟩:=R.alloc_cl (kd:=.dk []) (ts:=[]) (vs:=[]) (ob:=.dK []) hp ⟨rfl,rfl⟩ .nil
 exact k _ _ _ R1 r1 s1
theorem aIK(h:trE K (uG (.dt [])) σ H Q):tDNewT σ H Q:=by
 obtain⟨H₀,Z,ρ,τ,C,t,C',R,e,k⟩:=h;cases e;intro p hp;obtain⟨R1,s1,r1⟩:=R.alloc_cl (kd:=.dt []) (ts:=[]) (vs:=[]) (ob:=.dT []) hp ⟨rfl,rfl⟩ .nil
 exact k _ _ _ R1 r1 s1
def sU(fk fv:FE):FE:=fun τ C=>(fk τ (C++[(.dk [],[])])).bind fun p=>(fv τ p.2).bind fun q=>(kyT p.1).bind fun k=>match dkc q.2 (.cell C.length)with
 |some (_,[],[])=>some (.cell C.length,q.2.set C.length (.dk [k],[q.1]))
 |_=>none
theorem aI7(h:trE K (sU fk fv) σ H Q):tDisp [(trE K fk,trE K fv)] σ H Q:=by
 obtain⟨H₀,Z,ρ,τ,C,t,C',R,e,k⟩:=h;intro p hp;unfold sU at e;obtain⟨⟨t1,C1⟩,e1,e⟩:=aK.mp e;obtain⟨⟨t2,C2⟩,e2,e⟩:=aK.mp e;obtain⟨ky,e3,e⟩:=aK.mp e;dsimp only at e2 e;split at e
 ·rename_i e4;cases e;obtain⟨R1,s1,r1⟩:=R.alloc_cl (kd:=.dk []) (ts:=[]) (vs:=[]) (ob:=.dK []) hp ⟨rfl,rfl⟩ .nil
  refine⟨H₀,Z,_,τ,_,t1,C1,R1,e1,fun x H1 af ux h1 s2=>?_⟩
  refine⟨H₀,Z,af,τ,C1,t2,C2,ux,e2,fun y H2 aw R2 h2 s3=>?_⟩
  have r3:=(r1.step s2).step s3;obtain⟨a,vs,ev,q,hl,hH,hr⟩:=R2.dk r3 e4;have ec:=(aBR e4).1;cases ec;cases ev;rw[hr.nil_inv]at hH
  refine⟨hH,[(ky,y)],by rw[aAf h1 e3];rfl,by simp,?_⟩
  obtain⟨w1,w2⟩:=R2.put (kd:=.dk [ky]) (ts:=[t2]) (vs:=[y]) (ob:=.dK [(ky,y)]) q (by rw[hH];trivial) ⟨rfl,rfl⟩ (.cons h2 .nil)
  exact k _ _ aw w1 (r3.step w2) (((s1.trans s2).trans s3).trans w2)
 ·cases e
def dval(C:Sto)(td tk:T):Option (Option T):=match dkc C td with
 |some x=>(kyT tk).map fun k=>vl (x.2.1.zip x.2.2) k
 |none=>(dzc C td).bind fun x=>(ktT tk).map fun k=>vl (x.2.1.zip x.2.2) k
theorem Rel.dval{H₀:Hp}{Z:Addr->Prop}{τ:TSt}{C:Sto}{x y:V}{o:Option T}(R:Rel K H₀ Z ρ τ C σ H)(h1:RT K (mask H Z ρ) ρ td x)(h2:RT K (mask H Z ρ) ρ tk y)(e:TL.dval C td tk=some o):
 ∃a w,x=.ref a/\IsD H a/\pL H a y w/\match o with
  |some t=>∃v,w=some v/\RT K (mask H Z ρ) ρ t v
  |none=>w=none:=by
 unfold TL.dval at e;split at e
 ·rename_i z hz;obtain⟨c,ks,ts⟩:=z;obtain⟨k,e1,e⟩:=aL.mp e;obtain⟨a,vs,ev,q,hl,hH,hr⟩:=R.dk h1 hz
  refine⟨a,_,ev,.inl ⟨_,.inl hH⟩,by rw[aAf h2 e1];exact pL.k hH,?_⟩
  cases o with
  |some t=>exact hr.vl e
  |none=>exact hr.vlN e
 ·obtain⟨⟨c,ks,ts⟩,hz,e⟩:=aK.mp e;obtain⟨k,e1,e⟩:=aL.mp e;obtain⟨a,vs,ev,q,hl,hH,hr⟩:=R.dz h1 hz;obtain⟨b,eb,hb⟩:=aHt h2 e1
  refine⟨a,_,ev,.inr ⟨_,hH⟩,.inr ⟨_,k,b,hH,eb,hb,rfl⟩,?_⟩
  cases o with
  |some t=>exact hr.vl e
  |none=>exact hr.vlN e
def aEt(td tk:T)(C:Sto):Option (T×Sto):=match dval C td tk with
 |some (some t)=>some (t,C)
 |_=>none
abbrev zO(fd fk:FE):FE:=iU fd fk aEt
theorem aNc(h:trE K (zO fd fk) σ H Q):tDGet (trE K fd) (trE K fk) σ H Q:=by
 refine iM (aDN h) fun x H1 q=>iM q fun y H2 q=>?_
 obtain⟨t1,t2,H₀,Z,ρ,τ,C,t,C',R,r,e,k⟩:=q;obtain⟨_,_,z,r1,r⟩:=r.cons_inv;cases z;obtain⟨_,_,z,r2,r⟩:=r.cons_inv;cases z;unfold aEt at e;split at e
 ·rename_i u hu;cases e;obtain⟨a,w,ex,_,g,v,ew,rv⟩:=R.dval r1 r2 hu;subst ew
  exact⟨a,v,ex,g,k v H2 ρ R rv .refl⟩
 ·cases e
def yA(b:Bool)(tk td:T)(C:Sto):Option (T×Sto):=(dval C td tk).map fun o=>(.bl (o.isSome==b),C)
theorem aLb{x y:V}{H2:Hp}(b:Bool)(q:∃t1 t2,trV K σ [t1,t2] [y,x] (yA b t1 t2) H2 Q):∃a o,x=.ref a/\pL H2 a y o/\Q (.bl (o.isSome==b)) H2:=by
 obtain⟨t1,t2,H₀,Z,ρ,τ,C,t,C',R,r,e,k⟩:=q;obtain⟨_,_,z,r1,r⟩:=r.cons_inv;cases z;obtain⟨_,_,z,r2,r⟩:=r.cons_inv;cases z;unfold yA at e;obtain⟨o,e1,e⟩:=aL.mp e;cases e;obtain⟨a,w,ex,_,g,hw⟩:=R.dval r2 r1 e1
 refine⟨a,w,ex,g,?_⟩
 cases o with
 |some t=>obtain⟨v,ew,rv⟩:=hw;subst ew;exact k _ H2 ρ R .bl .refl
 |none=>subst hw;exact k _ H2 ρ R .bl .refl
theorem aOc(h:trE K (iU fk fd (yA true)) σ H Q):tDIn (trE K fk) (trE K fd) σ H Q:=by
 refine iM (aDN h) fun x H1 q=>iM q fun y H2 q=>?_
 obtain⟨a,o,ex,g,q⟩:=aLb true q
 exact⟨a,o,ex,g,by cases o<;>exact q⟩
theorem aMZ(h:trE K (iU fk fd (yA false)) σ H Q):tDNotIn (trE K fk) (trE K fd) σ H Q:=by
 refine iM (aDN h) fun x H1 q=>iM q fun y H2 q=>?_
 obtain⟨a,o,ex,g,q⟩:=aLb false q
 exact⟨a,o,ex,g,by cases o<;>exact q⟩
def isDc(C:Sto)(t:T):Bool:=(dkc C t).isSome||(dzc C t).isSome
theorem Rel.isDc{H₀:Hp}{Z:Addr->Prop}{τ:TSt}{C:Sto}{t:T}{v:V}(R:Rel K H₀ Z ρ τ C σ H)(h:RT K (mask H Z ρ) ρ t v)(e:TL.isDc C t=true):∃a,v=.ref a/\IsD H a:=by
 unfold TL.isDc at e;rcases Bool.or_eq_true_iff.mp e with e|e
 ·obtain⟨⟨c,ks,ts⟩,e⟩:=cU.mp e;obtain⟨a,vs,ev,q,hl,hH,hr⟩:=R.dk h e
  exact⟨a,ev,.inl ⟨_,.inl hH⟩⟩
 ·obtain⟨⟨c,ks,ts⟩,e⟩:=cU.mp e;obtain⟨a,vs,ev,q,hl,hH,hr⟩:=R.dz h e
  exact⟨a,ev,.inr ⟨_,hH⟩⟩
def tK(fd fk fx:FE):FE:=fun τ C=>(fd τ C).bind fun p=>if isDc p.2 p.1=true then(fk τ p.2).bind fun q=>(fx τ q.2).bind fun r=>(dval r.2 p.1 q.1).map fun o=>(o.getD r.1,r.2)else none
theorem aIV{fx:FE}(h:trE K (tK fd fk fx) σ H Q):tDGet2 (trE K fd) (trE K fk) (trE K fx) σ H Q:=by
 obtain⟨H₀,Z,ρ,τ,C,t,C',R,e,k⟩:=h;unfold tK at e;obtain⟨⟨t1,C1⟩,e1,e⟩:=aK.mp e;dsimp only at e;split at e
 ·rename_i hd;obtain⟨⟨t2,C2⟩,e2,e⟩:=aK.mp e;obtain⟨⟨t3,C3⟩,e3,e⟩:=aK.mp e;obtain⟨o,e4,e⟩:=aL.mp e;cases e;dsimp only at e3 e4
  refine⟨H₀,Z,ρ,τ,C,t1,C1,R,e1,fun x H1 af R1 h1 s1=>?_⟩
  obtain⟨a,ea,hD⟩:=R1.isDc h1 hd
  refine⟨a,ea,hD,?_⟩
  refine⟨H₀,Z,af,τ,C1,t2,C2,R1,e2,fun y H2 aw R2 h2 s2=>?_⟩
  refine⟨H₀,Z,aw,τ,C2,t3,C3,R2,e3,fun z H3 bd R3 h3 s3=>?_⟩
  obtain⟨a',w,ex,_,g,hw⟩:=R3.dval ((h1.step s2).step s3) (h2.step s3) e4;rw[ea]at ex;cases ex
  refine⟨w,g,?_⟩
  cases o with
  |some u=>obtain⟨v,ew,rv⟩:=hw;subst ew;exact k _ H3 bd R3 rv ((s1.trans s2).trans s3)
  |none=>subst hw;exact k _ H3 bd R3 h3 ((s1.trans s2).trans s3)
 ·cases e
def dput(C:Sto)(td tk tv:T):Option Sto:=match dkc C td with
 |some x=>(kyT tk).bind fun k=>if x.2.1.length<lim then some (C.set x.1 (.dk (pkK k x.2.1),pvK k tv x.2.1 x.2.2))else none
 |none=>(dtc C td).bind fun x=>(ktT tk).bind fun k=>if x.2.1.length<lim then some (C.set x.1 (.dt (pkK k x.2.1),pvK k tv x.2.1 x.2.2))else none
theorem Rel.dput(hz:lim<=sizeLine){H₀:Hp}{Z:Addr->Prop}{τ:TSt}{C C':Sto}{tv:T}{x y v:V}(R:Rel K H₀ Z ρ τ C σ H)(h1:RT K (mask H Z ρ) ρ td x)(h2:RT K (mask H Z ρ) ρ tk y)(h3:RT K (mask H Z ρ) ρ tv v)(e:TL.dput C td tk tv=some C'):
 ∃a H',x=.ref a/\yS H a y v H'/\Rel K H₀ Z ρ τ C' σ H'/\Step H H' ρ ρ:=by
 unfold TL.dput at e;split at e
 ·rename_i z xv;obtain⟨c,ks,ts⟩:=z;obtain⟨k,e1,e⟩:=aK.mp e;dsimp only at e;split at e
  ·rename_i gi;cases e;obtain⟨a,vs,ev,q,hl,hH,hr⟩:=R.dk h1 xv;obtain⟨w1,w2⟩:=R.put (kd:=.dk (pkK k ks)) (ob:=.dK ((pkK k ks).zip (pvK k v ks vs))) q (by rw[hH];trivial) ⟨aC0 hl,rfl⟩ (hr.pvK (k:=k) (ks:=ks) h3)
   refine⟨a,_,ev,?_,w1,w2⟩
   rw[aAf h2 e1,<-xU hl]
   exact yS.k hH (by rw[dJ];lia)
  ·cases e
 ·obtain⟨⟨c,ks,ts⟩,xv,e⟩:=aK.mp e;obtain⟨k,e1,e⟩:=aK.mp e;dsimp only at e;split at e
  ·rename_i gi;cases e;obtain⟨a,vs,ev,q,hl,hH,hr⟩:=R.dt h1 xv;obtain⟨w1,w2⟩:=R.put (kd:=.dt (pkK k ks)) (ob:=.dT ((pkK k ks).zip (pvK k v ks vs))) q (by rw[hH];trivial) ⟨aC0 hl,rfl⟩ (hr.pvK (k:=k) (ks:=ks) h3);obtain⟨b,eb,hb⟩:=aHt h2 e1
   refine⟨a,_,ev,?_,w1,w2⟩
   rw[eb,<-xU hl]
   exact yS.t hH hb (by rw[dJ];lia)
  ·cases e
def xL(fd fk fv:FE):FS:=fun τ C=>(fv τ C).bind fun p=>(fd τ p.2).bind fun q=>(fk τ q.2).bind fun r=>(dput r.2 q.1 r.1 p.1).map fun C'=>(.nx,τ,C')
theorem aMG(hz:lim<=sizeLine)(h:trS K W (xL fd fk fv) D σ H):sDPut (trE K fd) (trE K fk) (trE K fv) D σ H:=by
 obtain⟨H₀,Z,ρ,τ,C,fl,ag,C',R,e,k⟩:=h;unfold xL at e;obtain⟨⟨t1,C1⟩,e1,e⟩:=aK.mp e;obtain⟨⟨t2,C2⟩,e2,e⟩:=aK.mp e;obtain⟨⟨t3,C3⟩,e3,e⟩:=aK.mp e;obtain⟨C4,e4,e⟩:=aL.mp e;cases e;dsimp only at e2 e3 e4
 refine⟨H₀,Z,ρ,τ,C,t1,C1,R,e1,fun v H1 af R1 h1 s1=>?_⟩
 refine⟨H₀,Z,af,τ,C1,t2,C2,R1,e2,fun x H2 aw R2 h2 s2=>?_⟩
 refine⟨H₀,Z,aw,τ,C2,t3,C3,R2,e3,fun y H3 bd R3 h3 s3=>?_⟩
 obtain⟨a,H4,ex,g,R4,s4⟩:=R3.dput hz (h2.step s3) h3 ((h1.step s2).step s3) e4
 exact⟨a,H4,ex,g,k σ H4 bd R4 (((s1.trans s2).trans s3).trans s4)⟩
def zD(g:Int->Int->Int)(fd fk fv:FE):FS:=fun τ C=>(fd τ C).bind fun p=>(fk τ p.2).bind fun q=>match dval q.2 p.1 q.1 with
 |some (some (.int i))=>(fv τ q.2).bind fun r=>match r.1 with
  | .int j=>(dput r.2 p.1 q.1 (.int (g i j))).map fun C'=>(.nx,τ,C')
  |_=>none
 |_=>none
theorem aLm(hz:lim<=sizeLine){g:Int->Int->Int}{rd:V->V->Hp->VK->Prop}(sr:∀i j H Q,Q (.int (g i j)) H->rd (.int i) (.int j) H Q)(h:trS K W (zD g fd fk fv) D σ H):sDAug (trE K fd) (trE K fk) (trE K fv) rd D σ H:=by
 obtain⟨H₀,Z,ρ,τ,C,fl,ag,C',R,e,k⟩:=h;unfold zD at e;obtain⟨⟨t1,C1⟩,e1,e⟩:=aK.mp e;obtain⟨⟨t2,C2⟩,e2,e⟩:=aK.mp e;dsimp only at e2 e;split at e
 ·rename_i i hv;obtain⟨⟨t3,C3⟩,e3,e⟩:=aK.mp e;dsimp only at e;split at e
  ·rename_i j;obtain⟨C4,e4,e⟩:=aL.mp e;cases e
   refine⟨H₀,Z,ρ,τ,C,t1,C1,R,e1,fun x H1 af R1 h1 s1=>?_⟩
   refine⟨H₀,Z,af,τ,C1,t2,C2,R1,e2,fun y H2 aw R2 h2 s2=>?_⟩
   obtain⟨a,w,ex,_,gg,v,ew,rv⟩:=R2.dval (h1.step s2) h2 hv;subst ew
   refine⟨a,v,ex,gg,?_⟩
   refine⟨H₀,Z,aw,τ,C2,_,C3,R2,e3,fun z H3 bd R3 h3 s3=>?_⟩
   rw[rv.int_inv,h3.int_inv]
   refine sr i j H3 _ ?_
   obtain⟨a',H4,zi,g4,R4,s4⟩:=R3.dput hz ((h1.step s2).step s3) (h2.step s3) (v:=.int (g i j)) (.int) e4;rw[ex]at zi;cases zi
   exact⟨H4,g4,k σ H4 bd R4 (((s1.trans s2).trans s3).trans s4)⟩
  ·cases e
 ·cases e
end
noncomputable def od{α:Type}:List α->List α
 |_::y::r=>y::od r
 |_=>[]
def aFL(f:FE):FN:=fun τ C=>(f τ C).bind fun p=>(liT p.2 p.1).map fun ts=>(od ts,p.2)
section
variable {K:aO}{W:XW}{σ:St}{H:Hp}{Q:VK}{D:Ends}{M:Hp}{ρ:Rho}
variable{H1:Hp}{af:Rho}
theorem RTs.od:∀{ts:List T}{vs:List V},RTs K M ρ ts vs->RTs K M ρ (TL.od ts) (TL.od vs)
 | [],_,h=>by rw[h.nil_inv];exact .nil
 | [t],vs,h=>by
   obtain⟨v,r,rfl,_,h2⟩:=h.cons_inv;rw[h2.nil_inv];exact .nil
 |t::u::ts,vs,h=>by
  obtain⟨v,r,rfl,_,h2⟩:=h.cons_inv;obtain⟨w,r,rfl,h3,h4⟩:=h2.cons_inv;unfold TL.od
  exact .cons h3 (RTs.od h4)
theorem aOg{f:FE}(h:trN K (aFL f) σ H Q):trE K f σ H fun x H1=>∃a xs,x=.ref a/\SqL K H1 a xs/\∀p,H1 p=none->Q (.ref p) (upd H1 p (.lst (od xs))):=by
 obtain⟨H₀,Z,ρ,τ,C,ys,C',R,e,q⟩:=h;unfold aFL at e;obtain⟨⟨t,C1⟩,e1,e⟩:=aK.mp e;obtain⟨ts,e2,e⟩:=aL.mp e;cases e
 refine⟨H₀,Z,ρ,τ,C,t,_,R,e1,fun v H1 af R1 h1 s1=>?_⟩
 obtain⟨a,vs,ev,qa,r⟩:=R1.li h1 e2
 exact⟨a,vs,ev,qa,fun p hp=>q p H1 af _ R1 hp r.od s1⟩
def Ite(K:aO)(l:Addr):It:=
 ⟨fun i H=>∃xs x,SqL K H l xs/\xs[i]?=some x,fun i H v H'=>∃p x,H p=none/\v=.ref p/\H'=upd H p (.tup [.int i,x])/\∀xs,SqL K H l xs->xs[i]?=some x,fun i H=>∃xs,SqL K H l xs/\xs.length<=i⟩
def iEnum(K:aO)(t:TA):TI:=fun σ H R=>t σ H fun vs H1=>∃l,vs=[.ref l]/\(∃xs,SqL K H1 l xs)/\R (Ite K l) H1
noncomputable def aAK(ts:List T):List T:=ts.zipIdx.map fun p=>.tup [.int p.2,p.1]
theorem aG6{ts:List T}{i:Nat}:(aAK ts)[i]?=(ts[i]?).map fun t=>.tup [.int i,t]:=by
 unfold aAK;rw[bM,aOZ];cases ts[i]?<;>simp
theorem aGz{ts:List T}:(aAK ts).length=ts.length:=by simp[aAK]
theorem aHJ{Z:Addr->Prop}{H₀:Hp}{τ:TSt}{C:Sto}{σ:L2.St}{t:T}{ts:List T}{a:Addr}(R1:Rel K H₀ Z af τ C σ H1)(h1:RT K (mask H1 Z af) af t (.ref a))(e1:liT C t=some ts):
 Wlk K (Ite K a) Z H1 af (aAK ts) (stays t ts):=by
 refine⟨fun i t' H₀ Z' ae ag C' σ H ht R' sm ix ba _=>?_,fun H₀ Z' ae ag C' σ H R' sm ix ba _=>?_⟩
 ·obtain⟨ws,q1,r1⟩:=lL R1 h1 e1 R' sm ix ba;rw[aG6]at ht;obtain⟨u,z1,rfl⟩:=aL.mp ht;obtain⟨v1,mm,wz⟩:=r1.get z1
  refine⟨⟨ws,v1,q1,mm⟩,fun x H' hy=>?_⟩
  obtain⟨p,y,hp,rfl,rfl,k1⟩:=hy;have w1:=k1 ws q1;rw[mm]at w1;cases w1
  exact⟨fun b u h=>by rw[fK (fun z=>by rw[z,hp]at h;cases h)];exact h,R'.alloc_tup hp (.cons .int (.cons wz .nil))⟩
 ·obtain⟨ws,q1,r1⟩:=lL R1 h1 e1 R' sm ix ba
  exact⟨ws,q1,by rw[r1.length,aGz];exact bG _⟩
def v8(f:FE)(g:FG)(F:FS):FS:=fun τ C=>(f τ C).bind fun p=>(liT p.2 p.1).bind fun ts=>j9 (stays p.1 ts) g F (aAK ts) τ p.2
theorem aMC{f:FE}{g:FG}{F:FS}(h:trS K W (v8 f g F) D σ H):aHz (iEnum K (trA K (eU f fB))) (trG K g) (trS K W F) D σ H:=by
 obtain⟨H₀,Z,ρ,τ,C,fl,ag,C',R,e,k⟩:=h;unfold v8 at e;obtain⟨⟨t,C1⟩,e1,e⟩:=aK.mp e;obtain⟨ts,e2,e⟩:=aK.mp e
 refine⟨H₀,Z,ρ,τ,C,[t],C1,R,by simp[eU,fB,e1],fun vs H1 af R1 h1 s1=>?_⟩
 obtain⟨v,r,rfl,q1,q2⟩:=h1.cons_inv;rw[q2.nil_inv];obtain⟨a,vs,ea,qa,ra⟩:=R1.li q1 e2;subst ea
 exact⟨a,rfl,⟨vs,qa⟩,vE R1 (pG e2) e (aHJ R1 q1 e2) fun ai H' ae R' s'=>k ai H' ae R' (s1.trans s')⟩
def mrgK{α:Type}:List Key->List α->List Key×List α->List Key×List α
 |k::ks,v::vs,x=>mrgK ks vs (pkK k x.1,pvK k v x.1 x.2)
 |_,_,x=>x
theorem aDC:∀{ks':List Key}{vs':List V}{ks:List Key}{vs:List V},ks.length=vs.length->ks'.length=vs'.length->
 pJ (ks.zip vs) (ks'.zip vs')=(mrgK ks' vs' (ks,vs)).1.zip (mrgK ks' vs' (ks,vs)).2/\(mrgK ks' vs' (ks,vs)).1.length=(mrgK ks' vs' (ks,vs)).2.length
 | [],_,ks,vs,h,_=>by unfold mrgK;exact⟨rfl,h⟩
 |_::_,[],ks,vs,h,h'=>by cases h'
 |k::ks',v::vs',ks,vs,h,h'=>by
  rw[cG];show pJ (putK (ks.zip vs) k v) (ks'.zip vs')=_/\_;rw[xU h];unfold mrgK
  exact aDC (aC0 h) (by simpa using h')
theorem RTs.mrgK:∀{ks':List Key}{cv:List T}{vs':List V}{ks:List Key}{ts:List T}{vs:List V},RTs K M ρ cv vs'->RTs K M ρ ts vs->(TL.mrgK ks' cv (ks,ts)).1=(TL.mrgK ks' vs' (ks,vs)).1/\RTs K M ρ (TL.mrgK ks' cv (ks,ts)).2 (TL.mrgK ks' vs' (ks,vs)).2
 | [],_,_,ks,ts,vs,_,h=>by unfold TL.mrgK;exact⟨rfl,h⟩
 |_::_,[],vs',ks,ts,vs,h',h=>by rw[h'.nil_inv];unfold TL.mrgK;exact⟨rfl,h⟩
 |k::ks',t::cv,vs',ks,ts,vs,h',h=>by
  obtain⟨v,r,rfl,h1,h2⟩:=h'.cons_inv;unfold TL.mrgK
  exact RTs.mrgK h2 (h.pvK (k:=k) (ks:=ks) h1)
def tDUpd(td te:TE):TE:=fun σ H Q=>td σ H fun x H1=>∃a,x=.ref a/\IsD H1 a/\te σ H1 fun y H2=>∃b kvs more,y=.ref b/\a≠b/\H2 a=some (.dK kvs)/\H2 b=some (.dK more)/\kvs.length+more.length<=sizeLine/\Q .non (upd H2 a (.dK (pJ kvs more)))
def x8(fd fe:FE):FE:=fun τ C=>(fd τ C).bind fun p=>if isDc p.2 p.1=true then(fe τ p.2).bind fun q=>(dkc q.2 p.1).bind fun x=>(dkc q.2 q.1).bind fun y=>if x.1≠y.1/\x.2.1.length+y.2.1.length<=lim then
 some (.non,q.2.set x.1 (.dk (mrgK y.2.1 y.2.2 (x.2.1,x.2.2)).1,(mrgK y.2.1 y.2.2 (x.2.1,x.2.2)).2))else none else none
theorem aLz(hz:lim<=sizeLine){fd fe:FE}(h:trE K (x8 fd fe) σ H Q):tDUpd (trE K fd) (trE K fe) σ H Q:=by
 obtain⟨H₀,Z,ρ,τ,C,t,C',R,e,k⟩:=h;unfold x8 at e;obtain⟨⟨t1,C1⟩,e1,e⟩:=aK.mp e;dsimp only at e;split at e
 ·rename_i hd;obtain⟨⟨t2,C2⟩,e2,e⟩:=aK.mp e;obtain⟨⟨c,ks,ts⟩,e3,e⟩:=aK.mp e;obtain⟨⟨c',ks',cv⟩,e4,e⟩:=aK.mp e;dsimp only at e3 e4 e;split at e
  ·rename_i hl;cases e
   refine⟨H₀,Z,ρ,τ,C,t1,C1,R,e1,fun x H1 af R1 h1 s1=>?_⟩
   obtain⟨a,ea,hD⟩:=R1.isDc h1 hd
   refine⟨a,ea,hD,?_⟩
   refine⟨H₀,Z,af,τ,C1,t2,C2,R1,e2,fun y H2 aw R2 h2 s2=>?_⟩
   obtain⟨a',vs,ev,q,lm,hH,hr⟩:=R2.dk (h1.step s2) e3;rw[ea]at ev;cases ev;obtain⟨b,vs',im,q',mw,wf,yd⟩:=R2.dk h2 e4;have ig:a≠b:=fun z=>by
    subst z;obtain⟨i1,j1⟩:=aR.mp q;obtain⟨i2,j2⟩:=aR.mp q'
    exact hl.1 ((aOU R2.nd).mp (j1.trans j2.symm))
   refine⟨b,_,_,im,ig,hH,wf,by rw[dJ,dJ];lia,?_⟩
   obtain⟨z1,z2⟩:=aDC (ks':=ks') (vs':=vs') lm mw;obtain⟨z3,z4⟩:=RTs.mrgK (ks':=ks') (ks:=ks) yd hr;rw[z1];obtain⟨w1,w2⟩:=R2.put (kd:=.dk (mrgK ks' cv (ks,ts)).1) (ob:=.dK ((mrgK ks' vs' (ks,vs)).1.zip (mrgK ks' vs' (ks,vs)).2)) q (by rw[hH];trivial) ⟨by rw[z3];exact z2,by rw[z3]⟩ z4
   exact k _ _ aw w1 .non ((s1.trans s2).trans w2)
  ·cases e
 ·cases e
def Itd(a:Addr)(ob:Obj)(kvs:List (List Key×V)):It:=
 ⟨fun i H=>H a=some (.frz ob (.dT kvs))/\i<kvs.length,fun i H x H'=>H'=H/\∃b k v,x=.ref b/\kvs[i]?=some (k,v)/\H b=some (.tup (k.map kV)),fun i H=>H a=some (.frz ob (.dT kvs))/\kvs.length<=i⟩
def iDict(B:Addr->Prop)(t:TE):TI:=fun σ H R=>t σ H fun x H1=>∃a kvs,x=.ref a/\H1 a=some (.dT kvs)/\(B a->∀ob,R (Itd a ob kvs) (upd H1 a (.frz ob (.dT kvs))))
def thaw(B:Addr->Prop)(t:(VK->Prop))(Q:VK):Prop:=t fun v H=>∃a ob u,B a/\H a=some (.frz ob u)/\Q v (upd H a u)
noncomputable def kT:Key->T
 | .inl i=>.int i
 | .inr x=>.str x
def aIw(k:List Key):T:=.tup (k.map kT)
theorem aNR{k:Key}:RT K M ρ (kT k) (kV k):=by cases k<;>(unfold kT RT;rfl)
theorem aGs:∀{k:List Key},RTs K M ρ (k.map kT) (k.map kV)
 | []=>.nil
 |k::ks=>.cons aNR aGs
theorem aGM{Z:Addr->Prop}{a:Addr}{ob:Obj}{ks:List (List Key)}{vs:List V}(hl:ks.length=vs.length)(h1:H1 a=some (.frz ob (.dT (ks.zip vs)))):Wlk K (Itd a ob (ks.zip vs)) Z H1 af (ks.map aIw) (fun _=>True):=by
 have hz:(ks.zip vs).length=ks.length:=by rw[dJ];lia
 refine⟨fun i t' H₀ Z' ae ag C' σ H ht R' sm ix ba fz=>?_,fun H₀ Z' ae ag C' σ H R' sm ix ba fz=>?_⟩
 ·rw[bM]at ht;obtain⟨k,hk,rfl⟩:=aL.mp ht
  refine⟨⟨fz _ _ _ h1,by rw[hz];exact(aR.mp hk).1⟩,fun x H' hy=>?_⟩
  obtain⟨rfl,b,k',v,rfl,tw,hb⟩:=hy;obtain⟨z1,_⟩:=eA.mp tw;rw[hk]at z1;cases z1
  refine⟨.refl _,?_⟩
  unfold aIw RT
  refine⟨b,_,rfl,mG (fun z=>?_) (fun z=>?_) hb,aGs⟩
  ·have:=R'.zd b z;rw[hb]at this;exact this
  ·have:=R'.cel_some z;rw[hb]at this;exact this
 ·exact⟨fz _ _ _ h1,by rw[aP,hz];exact bG _⟩
def tN(f:FE)(k:Nat)(is:List Nat)(g:FG)(tc:FB)(fe:FE):FN:=fun τ C=>(f τ C).bind fun p=>(dtc p.2 p.1).bind fun x=>if x.2.1.length<lim/\x.2.1.length=x.2.2.length then
 (jR g tc fe (scT k is τ) (x.2.1.map aIw) (p.2.set x.1 (.dz x.2.1,x.2.2))).bind fun r=>match r.2[x.1]?with
  |some (.dz ks,ts)=>some (r.1,r.2.set x.1 (.dt ks,ts))
  |_=>none else none
theorem aJX{f:FE}{k:Nat}{is:List Nat}{g:FG}{tc:FB}{fe:FE}{B:Addr->Prop}(hg:Own k g)(h:trN K (tN f k is g tc fe) σ H Q):thaw B (aAc (iDict B (trE K f)) (scV k is) (trG K g) (trT K tc) (trE K fe) σ H) Q:=by
 obtain⟨H₀,Z,ρ,τ,C,ys,C',R,e,q⟩:=h;unfold tN at e;obtain⟨⟨t,C1⟩,e1,e⟩:=aK.mp e;obtain⟨⟨c,ks,ts⟩,e2,e⟩:=aK.mp e;dsimp only at e2 e;split at e
 ·rename_i hl;obtain⟨⟨zs,C2⟩,e3,e⟩:=aK.mp e;dsimp only at e;split at e
  ·rename_i ks' cv e4;cases e
   refine⟨H₀,Z,ρ,τ,C,t,C1,R,e1,fun v H1 af R1 h1 s1=>?_⟩
   obtain⟨a,vs,ev,qa,hlv,hH,hr⟩:=R1.dt h1 e2;subst ev
   refine⟨a,_,rfl,hH,fun hB ob D hD=>?_⟩
   obtain⟨Rf,sf⟩:=R1.put (kd:=.dz ks) (ob:=.frz ob (.dT (ks.zip vs))) qa (by rw[hH];trivial) ⟨hlv,ob,rfl⟩ hr
   refine sI (Q:=fun v H=>∃a ob u,B a/\H a=some (.frz ob u)/\Q v (upd H a u)) (P:=fun _=>True) Rf hg (aGM hlv iY) trivial (fun _ _ _ _=>trivial) (by simpa using hl.1) e3 hD fun p H' ae ws R' hp rv s'=>?_
   have oe:=s'.idx _ _ qa;have hf:=s'.fz a ob _ iY;obtain⟨x,us,o2,c1,c2,c4,c3⟩:=R'.cel c a oe;rw[e4]at c1;cases c1;rw[hf]at c2;cases c2;obtain⟨mw,ob2,z⟩:=c4;have z2:ks.zip vs=ks'.zip us:=by
    injection z with _ z
    injection z
   have xk:a≠p:=fun z=>by rw[z,hp]at hf;cases hf
   refine⟨a,ob,.dT (ks.zip vs),hB,by rw[fK xk];exact hf,?_⟩
   obtain⟨Rt,em⟩:=R'.put0 (kd:=.dt ks') (ob:=.dT (ks.zip vs)) oe ⟨mw,by rw[z2]⟩ c3;have ug:upd (upd H' p (.lst ws)) a (.dT (ks.zip vs))=upd (upd H' a (.dT (ks.zip vs))) p (.lst ws):=by
    funext b;unfold upd;by_cases h1:b=a
    ·subst h1;rw[if_pos rfl,if_neg xk,if_pos rfl]
    ·by_cases h2:b=p
     ·rw[if_neg h1,if_pos h2,if_pos h2]
     ·rw[if_neg h1,if_neg h2,if_neg h2,if_neg h1]
   rw[ug];have am:a∈af:=bD qa;have am':a∈ae:=bD oe
   refine q p _ ae ws Rt (by rw[fK (Ne.symm xk)];exact hp) (by rw[em];exact rv) (s1.trans ⟨fun b o z n=>?_,s'.pre,fun b o u z=>?_⟩)
   ·have ne:b≠a:=fun z=>n (by rw[z];exact am)
    have:=s'.kept b o (by rw[fK ne];exact z) n
    exact⟨this.1,by rw[fK ne];exact this.2⟩
   ·have ne:b≠a:=fun y=>by rw[y,hH]at z;cases z
    rw[fK ne]
    exact s'.fz b o u (by rw[fK ne];exact z)
  ·cases e
 ·cases e
end
end TL
namespace TL
open PySem PySem.Spec PyProof.Rows L2
structure uM(P:Program)(w:World)(K:aO)(mg:Str->Option Value)(base:Heap)(k:Nat)(x:Str)(n:Nat)(G:List T->Sto->Option (T×Sto)):Prop where
 ex:∃f fd ps,mW P w K mg base CX0 k f fd ps (spS K n G)/\mg x=some (.ref f)/\cR K (.ref f)=true/\Binds K fd ps []
structure rW(P:Program)(w:World)(K:aO)(mg:Str->Option Value)(base:Heap)(k:Nat)(cls:String)(m:Str)(n:Nat)(G:List T->Sto->Option (T×Sto)):Prop where
 ex:∃C f fd ps,bZ K mainGlobals (Str.ofString cls)=some (some (.ref C))/\Cls K C/\Meth K C m f/\mW P w K mg base CX0 k f fd ps (spS K n G)/\Binds K fd ps []
structure aHp(P:Program)(w:World)(K:aO)(mg:Str->Option Value)(base:Heap)(k:Nat)(cls:String)(n:Nat)(G:List T->Sto->Option (T×Sto))(gx:List T)(bo:List V):Prop where
 ex:∃C f fd ps ds,bZ K mainGlobals (Str.ofString cls)=some (some (.ref C))/\mg (Str.ofString cls)=some (.ref C)/\Mk K C f/\mW P w K mg base CX0 k f fd ps (spS K n G)/\Binds K fd ps ds/\Vals bo ds
 rt:∀M ρ,RTs K M ρ gx bo
section
variable {X:Cx}{e o:Expr}{es:List Expr}{fo fa:FE}{fr:FN}{p pos ar ao:Pos}
variable{G:List T->Sto->Option (T×Sto)}{cls:String}{pl:Sem Bool}
theorem kR{k n:Nat}{x:Str}(D:uM X.prog X.w X.K X.mg X.base k x n G)(hr:Room k X.A)(ha:QA X (e::es) fr)(hg:Gl X x:=by rfl)(dq:(x==("__debug__":Str))=false:=by decide)
 (he:starEach (e::es) X.env=(false,eval e X.env)::starEach es X.env:=by rfl)(ay:(backTo pos (starEach es X.env)).any (·.1)=false:=by rfl):QE X (.Call (.Name x p) (e::es) [] pos) (kX n G fr):=by
 obtain⟨f,fd,ps,F,hm,hk,hb⟩:=D.ex
 exact(aAp (E:=fun _ _ _=>False) F hr hg hm hk hb .nil (fun _ _ _ _ _ _ _ h=>h.elim) ha dq he ay).imp fun _ _ _=>aKz
theorem aB0{k n:Nat}{m:Str}(D:rW X.prog X.w X.K X.mg X.base k cls m n G)(hr:Room k X.A)(ho:QE X o fo)(ha:QA X (e::es) fr)
 (bj:starEach (e::es) X.env=(false,eval e X.env)::starEach es X.env:=by rfl)(ay:(backTo pos (starEach es X.env)).any (·.1)=false:=by rfl)
 (ht:eval (.Call (.Attribute o m ao) (e::es) [] pos) X.env=(do
  let ov<-eval o X.env
  standAt ao.atName
  let (f,first)<-holding [ov] (getMethod ov m pl)
  callWith pos f first (backTo pos (starEach (e::es) X.env)) (backToKw pos (keywordEach [] X.env))):=by rfl):QE X (.Call (.Attribute o m ao) (e::es) [] pos) (lE cls m n G fo fr):=by
 obtain⟨C,f,fd,ps,hc,c,hm,F,hb⟩:=D.ex
 exact(aIS (E:=fun _ _ _=>False) (pl:=pl) ho c hm F hr hb .nil (fun _ _ _ _ _ _ _ h=>h.elim) ha bj ay ht).imp fun _ _ _=>aGo hc
theorem aIc{k n:Nat}{m:Str}(D:rW X.prog X.w X.K X.mg X.base k cls m n G)(hr:Room k X.A)(ho:QE X o fo)
 (ht:eval (.Call (.Attribute o m ao) [] [] pos) X.env=(do
  let ov<-eval o X.env
  standAt ao.atName
  let (f,first)<-holding [ov] (getMethod ov m pl)
  callWith pos f first (backTo pos (starEach [] X.env)) (backToKw pos (keywordEach [] X.env))):=by rfl):QE X (.Call (.Attribute o m ao) [] [] pos) (lE cls m n G fo fB):=by
 obtain⟨C,f,fd,ps,hc,c,hm,F,hb⟩:=D.ex
 refine(aGF (E:=fun _ _ _=>False) (pl:=pl) ho c hm F hr hb .nil (fun _ _ _ _ _ _ _ h=>h.elim) ht).imp fun _ _ _ h=>?_
 exact iM (aGo hc h) fun x H1 ⟨a,dx,fs,q1,q2,q3,q4⟩=>⟨a,dx,fs,q1,q2,q3,aK8 q4⟩
theorem aDr{k n:Nat}{gx:List T}{bo:List V}(D:aHp X.prog X.w X.K X.mg X.base k cls n G gx bo)(hr:Room (k+1) X.A)(ha:QA X (e::es) fr)(hg:Gl X (Str.ofString cls):=by rfl)
 (dq:(Str.ofString cls==("__debug__":Str))=false:=by decide)(he:starEach (e::es) X.env=(false,eval e X.env)::starEach es X.env:=by rfl)(ay:(backTo pos (starEach es X.env)).any (·.1)=false:=by rfl):
 QE X (.Call (.Name (Str.ofString cls) p) (e::es) [] pos) (t8 cls n G gx fr):=by
 obtain⟨C,f,fd,ps,ds,hc,hm,M,F,hb,hd⟩:=D.ex
 exact(aJj (E:=fun _ _ _=>False) M F hr hg hm hb hd (fun _ _ _ _ _ _ _ h=>h.elim) ha dq he ay).imp fun _ _ _=>aMP hc D.rt
end
section
variable {X:Cx}{o i e f value k v:Expr}{fo fi fe fx:FE}{p pos ar az ao al:Pos}
theorem aKo:QE X (.Dict [] [] pos) (uG (.dk [])):=aIp.imp fun _ _ _=>aIW
theorem aI5:QE X (.Dict [] [] pos) (uG (.dt [])):=aHD.imp fun _ _ _=>aIK
theorem aKA(hk:QE X k fi)(hv:QE X v fe):QE X (.Dict [some k] [v] pos) (sU fi fe):=(aIY (aIf hk hv aKD) rfl rfl (by simp) (by simp)).imp fun _ _ _=>aI7
theorem aA9(hu:X.A.units+20<cLine)(ho:QE X o fo)(hi:QE X i fi)(hs:aM5 i:=by exact fun _ _=>rfl):QE X (.Subscript o i pos) (zO fo fi):=(aJ3 (by lia) ho hi hs).imp fun _ _ _=>aNc
theorem aIA(hu:X.A.units+20<cLine)(ho:QE X o fo)(he:QE X e fe)(hf:QE X f fx)(m:M2 X o "get" ao e f al:=by exact⟨rfl,rfl,rfl,rfl⟩):QE X (.Call (.Attribute o "get" ao) [e,f] [] al) (tK fo fe fx):=
 (aGc (by lia) ho he hf m).imp fun _ _ _=>aIV
theorem aEs(hu:X.A.units+20<cLine)(ho:QE X o fo)(hi:QE X i fi)(hv:QE X value fe)(hs:swapsWith value (some (.Subscript o i ar)) pos.line X.env=pure false:=by rfl):QS X (.Assign [.Subscript o i ar] value pos) (xL fo fi fe):=(aJw (by lia) ho hi hv hs).imp fun _ _ _=>aMG lD
theorem aDl(hu:X.A.units+20<cLine)(ho:QE X o fo)(hi:QE X i fi)(hv:QE X value fe)(ha:∀ov iv new,augStore i ov iv new=(do holding [new,ov,iv] (setItem ov iv new);release [new,ov,iv] [];pure .next):=by intro _ _ _;rfl):
 QS X (.AugAssign (.Subscript o i az) .Sub value pos) (zD (fun i j=>i - j) fo fi fe):=(aKg (by lia) ho hi hv aGG ha).imp fun _ _ _=>aLm lD fun i j H Q q=>⟨i,j,rfl,rfl,q⟩
theorem aNu(hu:X.A.units+20<cLine)(hi:QE X i fi)(ho:QE X o fo)(hm:behindInMarks .In o=false:=by rfl):QT X (.Compare i [.In] [o] pos) (iJ (iU fi fo (yA true))):=(aHf (aNf (by lia) hi ho) hm).imp fun _ _ _=>aHb fun _ _ _=>aOc
theorem aGd(hu:X.A.units+20<cLine)(hi:QE X i fi)(ho:QE X o fo)(hm:behindInMarks .NotIn o=false:=by rfl):QT X (.Compare i [.NotIn] [o] pos) (iJ (iU fi fo (yA false))):=(aHf (aER (by lia) hi ho) hm).imp fun _ _ _=>aHb fun _ _ _=>aMZ
end
theorem aES{P:Program}{w:World}{K:aO}{ts:List Expr}{k:Nat}{pos:Pos}(e it l:Addr)(D:e≠it):
 Turn P w K (.Tuple ts k pos) (Ite K l) [e,it] e (fun i h=>(∃old,IsEnum h e it i old)/\h.IsListIter it l i) where
 mem:=by simp
 obj:=fun i h st b hb=>by
  obtain⟨⟨old,he⟩,⟨o1,e1,c1,d1⟩⟩:=st;simp only[bE,cN,or_false]at hb;rcases hb with rfl|rfl
  ·exact⟨_,he,fun v z=>by simp at z⟩
  ·exact⟨o1,e1,fun v z=>by rw[d1]at z;cases z⟩
 keep:=fun i h h' st kk=>by
  obtain⟨⟨old,he⟩,h1⟩:=st
  exact⟨⟨old,kk e (by simp) _ he⟩,h1.at fun o e'=>kk it (by simp) o e'⟩
 item:=by
  intro X hP hw hK hc i aa s σ H E I hf st hg;subst hP hw hK;obtain⟨⟨old,he⟩,h1⟩:=st;obtain⟨xs,x,q1,g1⟩:=hg;obtain⟨its,rv,p1,z1⟩:=I.list q1;obtain⟨u,hu,ru⟩:=rv.get g1
  refine wpAny_pyNext_enum_item he h1 p1.isList (x:=u) (by simpa using hu) D fun h' a1 a2 a3 a4 hk=>?_
  refine⟨_,rfl,wpAny_letOwnedTupleGo_enum (s:={s with heap:=h',toks:=s.toks+1}) a1 fun kl yw cj=>?_⟩
  have bh:e≠s.heap.objs.size:=bX (Heap.lt_size he);have kk:∀b ob,b∉[e,it]->s.heap.get? b=some ob->kl.get? b=some ob:=fun b ob hb q=>by
   simp only[bE,cN,or_false,not_or]at hb
   exact(cj.2 b hb.1).trans (hk b ob hb.1 hb.2 q)
  have hT:kl.get? s.heap.objs.size=some {cls:=.type "tuple",data:=.seq #[.int i s.toks,u]}:=(cj.2 _ (Ne.symm bh)).trans a3;have I1:Inv X aa σ (upd H s.heap.objs.size (.tup [.int i,x])) {s with heap:=kl,toks:=s.toks+1}:=aBl I hf kk (bG _)
   (show jK X.prog X.w _ kl _ (.tup [.int i,x])from⟨by show 2<=sizeLine;decide,[.int i s.toks,u],.cons ⟨_,rfl⟩ (.cons ru .nil),⟨_,hT,rfl,_,rfl⟩⟩)
  refine⟨.ref s.heap.objs.size,_,I1,rfl,⟨_,x,I.fresh,rfl,rfl,fun zs hz=>by rw[I.list_inj hz q1];exact g1⟩,?_,fun b hb=>?_⟩
  ·exact⟨⟨u,by exact_mod_cast yw⟩,a2.at fun o q=>(cj.2 _ (Ne.symm D)).trans q⟩
  ·have ui:=(hf b hb).1;rw[fK]
   ·exact ui
   ·rintro rfl;have:∃o,s.heap.get? s.heap.objs.size=some o:=by
     simp only[bE,cN,or_false]at hb;obtain⟨o1,e1,_⟩:=h1;rcases hb with h|h
     ·rw[h];exact⟨_,he⟩
     ·rw[h];exact⟨_,e1⟩
    obtain⟨o,q⟩:=this
    exact absurd (Heap.lt_size q) (cV _)
 done:=by
  intro X hP hw hK hc i aa s σ H E I hf st hg;subst hP hw hK;obtain⟨⟨old,he⟩,h1⟩:=st;obtain⟨xs,q1,ue⟩:=hg;obtain⟨its,rv,p1,z1⟩:=I.list q1;have l1:=rv.length
  refine wpAny_pyNext_enum_end (I.ok.hd hc) he h1 p1.isList (by simp;lia) fun h' hk=>⟨rfl,aAd (t':=s.toks) I hf fun b ob hb q=>?_⟩
  simp only[bE,cN,or_false,not_or]at hb
  exact hk b ob hb.2 q
 self:=fun _ _ _ _ _ st h=>wpAny_pyIter_enum st.1.choose_spec h
section
variable {X:Cx}{a b e:Expr}{es:List Expr}{fa fb:FE}{fr:FN}{pos p p2:Pos}
variable{az:Pos}
theorem aKG{ts:List Expr}{k:Nat}{ta:TA}(hg:Gl X "enumerate")(hm:X.mg "enumerate"=none)(ha:PA X [a] ta)(hs:starEach [a] X.env=[(false,eval a X.env)]:=by rfl):
 PI X (.Tuple ts k az) (.Call (.Name "enumerate" p) [a] [] pos) (iEnum X.K ta):=by
 intro aa s σ H R I h
 refine Call_ (o7 I hg hm boot_enumerate (dI (thn (ha pos aa s σ H _ I h) fun us s1 ⟨vs,H1,I1,r1,q1⟩=>?_) (by rw[hs];rfl) rfl))
 obtain⟨l,ev,⟨xs,qx⟩,q⟩:=q1;subst ev;obtain⟨u,rfl,ru⟩:=r1.one;cases ru;obtain⟨its,rv,p1,z1⟩:=I1.list qx
 refine call_enumerate_list p1.isList fun h' he hit hsz hk=>wpAny_pyIter_enum he ?_
 have I2:Inv X aa σ H1 {s1 with heap:=h'}:=I1.kept (t':=s1.toks) hk
 refine⟨s1.heap.objs.size+1,[s1.heap.objs.size+1,s1.heap.objs.size],_,_,H1,rfl,I2,aES _ _ l (Nat.succ_ne_self _),⟨⟨_,he⟩,hit⟩,fun b hb=>?_,q⟩
 have hle:s1.heap.objs.size<=b:=by
  simp only[bE,cN,or_false]at hb;rcases hb with rfl|rfl
  ·exact eL _ _
  ·exact bG _
 exact I1.fpOk hle (I1.hok.fresh hle)
theorem aDR{ts:List Expr}{k:Nat}{dg:List Stmt}{g:FG}{F:FS}(hm:X.mg "enumerate"=none)(hc:X.calm=true)(hi:QE X a fa)(hg:QG X (.Tuple ts k az) g)(hb:QSs X dg F)(ck:Gl X "enumerate":=by rfl)
 (bj:starEach [a] X.env=[(false,eval a X.env)]:=by rfl)(hp:PassesOwn (model X.prog X.w) X.A X.env X.xe:=by first|exact PassesOwn.never|exact PassesOwn.leaving|exact PassesOwn.looking)
 (hs:∀x,foldedSetIterable (.Call (.Name "enumerate" p) [a] [] p2) X.env x=pure x:=by intro _;rfl):QS X (.For (.Tuple ts k az) (.Call (.Name "enumerate" p) [a] [] p2) dg [] pos) (v8 fa g F):=
 (aAo hp hc (aKG ck hm (eT hi eX (by rw[bj];rfl)) bj) hg hb hs).imp fun _ _ _=>aMC
section
variable {own frs:List Str}{is:List Nat}{scope:Scope}{cl:List (Str×Addr)}{ts:List Expr}{tk:Nat}{az:Pos}{bh:Expr}{ifs:List Expr}{fe:FE}{g:FG}{gt:FB}
end
end
section
variable {X:Cx}{o e:Expr}{ao al:Pos}{td te:TE}{fo fe:FE}
theorem aKN(ho:PE X o td)(he:PE X e te)(m:M1 X o "update" ao e al):PE X (.Call (.Attribute o "update" ao) [e] [] al) (tDUpd td te):=by
 intro aa s σ H Q I h
 refine wpAny_Call_method m.base m.few m.line PySem.F.plainAttrs_dict PySem.F.slot_dict_update PySem.F.type_dict_update (thn (ho aa s σ H _ I h) fun u s1 zz=>?_)
 obtain⟨x,H1,I1,rx,a,ex,d,q1⟩:=zz;subst ex;obtain rfl:u=Value.ref a:=rx;obtain⟨t1,t2,_⟩:=aGL I1 d
 refine⟨t1,t2,?_⟩
 rw[m.trees]
 refine Calls.callWith_builtin rfl (Calls.evalArgs_plain (Calls.spliced_cons (thn (he aa s1 σ H1 _ I1 q1) fun iv s2 ⟨y,H2,I2,ry,b,kvs,more,ey,ig,ha,hb,hl,q2⟩=>Calls.spliced_nil ?_)))
 subst ey;obtain rfl:iv=Value.ref b:=ry;obtain⟨z,hd,vs,rel,dd⟩:=aD1 I2.hok ha;obtain⟨z',jm,vs',qw,jq⟩:=aD1 I2.hok hb
 refine call_meetsIn PySem.F.slot_dict_update dd.typeIs PySem.F.entry_dict_update (PySem.F.args_dict_update_2 _ _) (meets_dict_update (iS X.prog X.w) a b ig jm)
  ⟨vs,vs',dd,jq,by rw[<-rel.length,<-qw.length];exact hl,fun h' d1 d2 hs=>⟨.non,_,?_,rfl,q2⟩⟩
 have hq:∃q,h'.get? a=some q:=let ⟨q,_,_,hq,_⟩:=d1;⟨q,hq⟩
 exact u7 (t':=s2.toks) I2 (by rw[ha];exact True.intro) hs hq (aCV (cA (nC _ _) hl) hd (qw.merge rel) d1)
theorem aMt(ho:QE X o fo)(he:QE X e fe)(m:M1 X o "update" ao e al:=by exact⟨rfl,rfl,rfl,rfl⟩):QE X (.Call (.Attribute o "update" ao) [e] [] al) (x8 fo fe):=(aKN ho he m).imp fun _ _ _=>aLz lD
end
theorem aHe{α:Type}:∀(l:List α),(bL (l.length/2)).filterMap (fun k=>l[1+2*k]?)=od l
 | []=>by simp[od]
 | [_]=>by simp[od]
 |a::b::r=>by
  have ih:=aHe r;have e:(a::b::r).length/2=r.length/2+1:=by simp only[aN];lia
  rw[e,aOS,aOK];simp only[Nat.mul_zero,aQk,bR,bP];unfold od;rw[aPL,<-ih];congr 1
theorem aGZ{α:Type}:∀(l:List α),(od l).length<=l.length
 | []=>bG _
 | [_]=>d3 _
 |a::b::r=>by
  have:=aGZ r;unfold od;simp only[aN];lia
theorem aGy(items:Array Value):slicePick items (some 1) none (some 2)=(od items.toList).toArray:=by
 unfold slicePick;have hb:sliceBounds (some 1) none (some 2) items.size=(max 0 (min 1 (items.size:Int)),(items.size:Int),2):=rfl;rw[hb];show((sliceRange (max 0 (min 1 (items.size:Int))) (items.size:Int) 2).filterMap (items[·]?)).toArray=_;congr 1;have hr:sliceRange (max 0 (min 1 (items.size:Int))) (items.size:Int) 2=(bL (items.size/2)).map fun k=>1+2*k:=by
  unfold sliceRange;by_cases h:items.size<2
  ·have h0:items.size/2=0:=by lia
   have h1:¬(max 0 (min 1 (items.size:Int))<(items.size:Int)):=by lia
   simp only[show(2:Int)>0 by decide,if_true,h1,if_false,h0];rfl
  ·have h1:max 0 (min 1 (items.size:Int))=1:=by lia
   rw[h1];have h2:(1:Int)<(items.size:Int):=by lia
   have h3:(((items.size:Int) - 1+2 - 1)/2).toNat=items.size/2:=by lia
   simp only[show(2:Int)>0 by decide,if_true,h2,h3];apply cL;intro k _
   lia
 rw[hr,aPL];have:=aHe items.toList;rw[b9]at this;rw[<-this];congr 1;funext k;simp[eI]
section
variable {X:Cx}{a e:Expr}{te:TE}{fa:FE}{pos p2 p3 p4:Pos}
def aNm(K:aO)(x:V)(H:Hp)(Q:VK):Prop:=∃a xs,x=.ref a/\SqL K H a xs/\∀p,H p=none->Q (.ref p) (upd H p (.lst (od xs)))
theorem Vals.od:∀{xs:List V}{us:List Value},Vals xs us->Vals (TL.od xs) (TL.od us)
 | [],_,h=>by cases h;exact .nil
 | [x],_,h=>by cases h with|cons _ t=>cases t;exact .nil
 |x::y::r,_,h=>by
  cases h with
  |cons h1 t=>
   cases t with
   |cons h2 t=>unfold TL.od;exact .cons h2 (Vals.od t)
theorem aLB{j k}(he:PE X e te):PE X (.Subscript e (.Slice (some (.Constant (.int 1) j p3)) none (some (.Constant (.int 2) k p4)) p2) pos) (fun σ H Q=>te σ H fun x H1=>aNm X.K x H1 Q):=by
 intro aa s σ H Q I h
 refine Subscript_ (thn (he aa s σ H _ I h) fun v s1 zz=>?_)
 obtain⟨x,H1,I1,r1,q1⟩:=zz;have h1:PE X (.Constant (.int 1) j p3) (tC (.int 1)):=aCB;have h2:PE X (.Constant (.int 2) k p4) (tC (.int 2)):=aCB
 refine wpAny_Slice ?_
 refine thn ((aAz h1) aa s1 σ H1 (fun o H2=>o=some 1/\aNm X.K x H2 Q) I1 ⟨1,rfl,rfl,q1⟩) fun vl s2 zz=>?_
 obtain⟨o,H2,I2,pk,eo,q2⟩:=zz;subst eo;rw[evalPart_none]
 refine wpAny_pure ?_
 refine thn ((aAz h2) aa s2 σ H2 (fun o H3=>o=some 2/\aNm X.K x H3 Q) I2 ⟨2,rfl,rfl,q2⟩) fun vk s3 zz=>?_
 obtain⟨o,H3,I3,pk2,eo,q3⟩:=zz;subst eo;obtain⟨l,xs,rfl,hx,q⟩:=q3;cases r1;have I4:Inv X aa σ H3 {s3 with heap:=s3.heap.push {cls:=.type "slice",data:=.fields #[vl,.none,vk]}}:=I3.kept (t':=s3.toks) fun b ob q=>Heap.get?_push_of_some _ q
 obtain⟨its,r,ht,hz⟩:=I4.list hx;have aj:=r.length;have hg:wpAny (model X.prog X.w) X.A (getItem (.ref l) (.ref s3.heap.objs.size)) (EP X aa σ Q) X.xe {s3 with heap:=s3.heap.push {cls:=.type "slice",data:=.fields #[vl,.none,vk]}}:=by
  refine wpAny_getItem_list_slice ht.isList (Heap.IsSliceOf.new ..) pk .none pk2 (by decide) ?_ (by rw[bF]<;>lia)
  rw[aGy]
  refine⟨.ref _,_,I4.laid (t':=s3.toks) (o:=.lst (od xs)) (fun b ob q=>Heap.get?_push_of_some _ q) (bG _) ?_,rfl,q _ (I4.hok.fresh (bG _))⟩
  exact⟨cA (aGZ _) hz,_,0,Vals.od r,Heap.get?_push_size _ rfl⟩
 show wpAny (model X.prog X.w) X.A (subscriptTail e _ (.ref l) (.ref s3.heap.objs.size)) (EP X aa σ Q) X.xe _
 exact tail_any (ops:=[.ref l,.ref s3.heap.objs.size]) ht.isList.typeIs slot_list_getitem.lookup hg (by with_unfolding_all rfl)
theorem aNo{j k}(ha:QE X a fa):QN X (.Subscript a (.Slice (some (.Constant (.int 1) j p3)) none (some (.Constant (.int 2) k p4)) p2) pos) (aFL fa):=(aLB ha).imp fun _ _ _=>aOg
end
section
variable {X:Cx}{aa:List (Addr×Obj)}{σ:L2.St}{H:Hp}{s:Shared}{a:Addr}{ob:Obj}
theorem aGp{kvs:List (List Key×V)}(I:L2.Inv X aa σ H s)(h:H a=some (.dT kvs))(ho:s.heap.get? a=some ob):L2.Inv X aa σ (upd H a (.frz ob (.dT kvs))) s:=by
 have ne:∀b,H b=none->b≠a:=fun b n z=>by rw[z,h]at n;cases n
 refine⟨I.ok,I.os,I.bare,⟨I.base.keep,I.base.slot,fun b o q n hx=>by have e:=I.base.free b o q n hx;rw[fK (ne b e)];exact e,I.base.there,fun b xs q=>?_,fun b o u q=>?_,fun b ps q=>?_⟩,I.loc,I.cell,by rw[fK (ne _ I.free)];exact I.free,fun x c q=>by rw[fK (ne _ (I.freeC x c q))];exact I.freeC x c q,fun p hp=>?_,fun b o q=>?_,I.len⟩
 ·have e:=I.base.tups b xs q;rw[fK (m8 e h (fun z=>nomatch z))];exact e
 ·have e:=I.base.frzs b o u q;rw[fK (m8 e h (fun z=>nomatch z))];exact e
 ·obtain⟨m,e⟩:=I.base.tbls b ps q
  exact⟨m,by rw[fK (m8 e h (fun z=>nomatch z))];exact e⟩
 ·obtain⟨p1,p2,p3⟩:=I.pin p hp
  exact⟨p1,by rw[fK (ne _ p2)];exact p2,p3⟩
 ·by_cases hb:b=a
  ·subst hb;rw[iY]at q;cases q
   exact⟨ho,(I.hok b _ h).stay (fun c v _ q=>q) (fun c q=>by rw[fK (m8 q h (fun z=>nomatch z))];exact q) fun c xs q=>by rw[fK (m8 q h (fun z=>nomatch z))];exact q⟩
  ·rw[fK hb]at q
   exact(I.hok b o q).stay (fun c v _ q=>q) (fun c q=>by rw[fK (m8 q h (fun z=>nomatch z))];exact q) fun c xs q=>by rw[fK (m8 q h (fun z=>nomatch z))];exact q
theorem aGN{u:HO}(I:L2.Inv X aa σ H s)(h:H a=some (.frz ob u))(h0:∀o v,X.H₀ a≠some (.frz o v)):L2.Inv X aa σ (upd H a u) s:=by
 have ne:∀b,H b=none->b≠a:=fun b n z=>by rw[z,h]at n;cases n
 refine⟨I.ok,I.os,I.bare,⟨I.base.keep,I.base.slot,fun b o q n hx=>by have e:=I.base.free b o q n hx;rw[fK (ne b e)];exact e,I.base.there,fun b xs q=>?_,fun b o u q=>?_,fun b ps q=>?_⟩,I.loc,I.cell,by rw[fK (ne _ I.free)];exact I.free,fun x c q=>by rw[fK (ne _ (I.freeC x c q))];exact I.freeC x c q,fun p hp=>?_,fun b o q=>?_,I.len⟩
 ·have e:=I.base.tups b xs q;rw[fK (m8 e h (fun z=>nomatch z))];exact e
 ·have e:=I.base.frzs b o u q;rw[fK (by rintro rfl;exact h0 _ _ q)];exact e
 ·obtain⟨m,e⟩:=I.base.tbls b ps q
  exact⟨m,by rw[fK (m8 e h (fun z=>nomatch z))];exact e⟩
 ·obtain⟨p1,p2,p3⟩:=I.pin p hp
  exact⟨p1,by rw[fK (ne _ p2)];exact p2,p3⟩
 ·by_cases hb:b=a
  ·subst hb;rw[iY]at q;cases q
   exact((I.hok b _ h).2).stay (fun c v _ q=>q) (fun c q=>by rw[fK (m8 q h (fun z=>nomatch z))];exact q) fun c xs q=>by rw[fK (m8 q h (fun z=>nomatch z))];exact q
  ·rw[fK hb]at q
   exact(I.hok b o q).stay (fun c v _ q=>q) (fun c q=>by rw[fK (m8 q h (fun z=>nomatch z))];exact q) fun c xs q=>by rw[fK (m8 q h (fun z=>nomatch z))];exact q
end
section
variable {P:Program}{w:World}{A:Around}{E:Value->Shared->Prop}{s:Shared}{d it:Addr}{o:Obj}{es:Array DictEntry}{ep i:Nat}
variable{Q:Option Value->Shared->Prop}
theorem aHo{Q:Value->Shared->Prop}(hd:(d==sysModules)=false)(ho:s.heap.get? d=some o)(hx:o.ExactDict)(ca:o.data=.dict es ep)
 (hQ:Q (.ref s.heap.objs.size) {s with heap:=s.heap.push {cls:=.type "dict_keyiterator",data:=.fields #[.ref d,.int 0 0,.int es.size 0,.int ep 0]}}):wpAny (model P w) A (pyIter (.ref d)) Q E s:=by
 have hT:s.TypeIs (.ref d) "dict":=⟨o,ho,hx.1⟩
 refine wpAny_pyIter_slot hT F.slot_dict_iter (wpAny_call_entry F.slot_dict_iter hT F.entry_dict_iter ?_ (F.args_dict_iter_1 _));unfold Builtin.«dict.__iter__»;refine wpAny_bind ?_
 unfold Builtin.Dict.dictSlotNone;refine wpAny_bind (wpAny_notOrdered_dict hT ?_);show wpAny _ _ (pure (Value.ref d)) _ _ s;refine wpAny_pure ?_;show wpAny _ _ (Builtin.Dict.showsAll d>>=_) _ _ s;unfold Builtin.Dict.showsAll;rw[if_neg (by rw[hd];exact b5)];refine wpAny_bind (wpAny_pure ?_)
 refine wpAny_bind (wpAny_dictEntries ho ca (wpAny_bind (wpAny_dictEpoch ho ca ?_)))
 refine wpAny_bind (wpAny_newObj_type (wpAny_pure ⟨_,rfl,"dict_keyiterator",_,⟨_,Heap.get?_push_size _ rfl,rfl⟩,F.slot_dict_keyiterator_next.lookup,?_⟩));simpa[rawInt]using hQ
theorem aHS{e:DictEntry}(hit:s.heap.IsKeyIter it d i es.size ep)(ho:s.heap.get? d=some o)(ca:o.data=.dict es ep)(he:es[i]?=some e)
 (hQ:∀h',h'.IsKeyIter it d (i+1) es.size ep->Heap.SameBut it s.heap h'->Q (some e.key) {s with heap:=h'}):wpAny (model P w) A (pyNext (.ref it)) Q E s:=by
 obtain⟨oi,hi,hc,hd⟩:=id hit;unfold pyNext;refine wpAny_bind (wpAny_attempt (wpAny_callSpecial?_slot (name:=Str.ofString "__next__") hit.typeIs F.slot_dict_keyiterator_next (wpAny_call_entry F.slot_dict_keyiterator_next hit.typeIs F.entry_dict_keyiterator_next ?_ (F.args_dict_keyiterator_next_1 _))))
 refine wpAny_bind (wpAny_pure (wpAny_bind (wpAny_bind ?_)))
 first|refine wpAny_bind (wpAny_typeNameOfWhole_keyiter hit.typeIs (wpAny_pure (wpAny_bind (wpAny_fieldsOf hi hd ?_))))|refine wpAny_bind (wpAny_typeNameOf_keyiter hit.typeIs (wpAny_pure (wpAny_bind (wpAny_fieldsOf hi hd ?_))))
 simp only[show Builtin.Dict_items.ownsTuple "dict_keyiterator"=false by decide,cD,if_false];show wpAny _ _ (if(Value.ref d==Value.none)=true then _ else _) _ _ s;rw[if_neg (show¬((Value.ref d==Value.none)=true)from b5)]
 refine wpAny_bind (wpAny_pure (wpAny_bind (wpAny_dictEntries ho ca ?_)));rw[if_neg (by simp)];refine wpAny_bind (wpAny_pure (wpAny_bind (wpAny_dictEpoch ho ca ?_)));rw[if_neg (by simp)];refine wpAny_pure ?_
 simp only[show¬((i:Int)<0)from by lia,if_false,cE,he];refine wpAny_bind ?_;first|refine wpAny_bind (wpAny_typeNameOfWhole_keyiter hit.typeIs (wpAny_pure (wpAny_bind (wpAny_isOneOf_keyiter hit.typeIs ?_))))|refine wpAny_bind (wpAny_typeNameOf_keyiter hit.typeIs (wpAny_pure (wpAny_bind (wpAny_isOneOf_keyiter hit.typeIs ?_))))
 show wpAny _ _ (setField (.ref it) 1 (rawInt ((i:Int)+1))>>=_) _ _ s;refine wpAny_bind (wpAny_setField hi hd (by simp) ?_);have ua:(s.heap.update it (Obj.mapFields (·.setIfInBounds 1 (rawInt ((i:Int)+1))))).IsKeyIter it d (i+1) es.size ep:=⟨_,Heap.get?_update_self _ hi (Obj.isFreed_of_fields (Obj.data_mapFields hd _)),(Obj.cls_mapFields ..).trans hc,by rw[Obj.data_mapFields hd];simp[rawInt]⟩
 refine wpAny_bind (wpAny_holding (wpAny_bind (wpAny_isOneOf_keyiter (s:={s with heap:=s.heap.update it (Obj.mapFields (·.setIfInBounds 1 (rawInt ((i:Int)+1))))}) ua.typeIs ?_)))
 show wpAny _ _ (pure e.key) _ _ _;exact wpAny_pure (wpAny_pure ⟨_,rfl,wpAny_pure (hQ _ ua (Heap.SameBut.update ..))⟩)
theorem aHy(hh:A.handled=none)(hit:s.heap.IsKeyIter it d i es.size ep)(ho:s.heap.get? d=some o)(ca:o.data=.dict es ep)(he:es[i]?=none)
 (hQ:∀h',Heap.ExtBut it s.heap h'->Q none {s with heap:=h'}):wpAny (model P w) A (pyNext (.ref it)) Q E s:=by
 obtain⟨oi,hi,hc,hd⟩:=id hit;unfold pyNext;refine wpAny_bind (wpAny_attempt (wpAny_callSpecial?_slot (name:=Str.ofString "__next__") hit.typeIs F.slot_dict_keyiterator_next (wpAny_call_entry F.slot_dict_keyiterator_next hit.typeIs F.entry_dict_keyiterator_next ?_ (F.args_dict_keyiterator_next_1 _))))
 refine wpAny_bind (wpAny_pure (wpAny_bind (wpAny_bind ?_)))
 first|refine wpAny_bind (wpAny_typeNameOfWhole_keyiter hit.typeIs (wpAny_pure (wpAny_bind (wpAny_fieldsOf hi hd ?_))))|refine wpAny_bind (wpAny_typeNameOf_keyiter hit.typeIs (wpAny_pure (wpAny_bind (wpAny_fieldsOf hi hd ?_))))
 simp only[show Builtin.Dict_items.ownsTuple "dict_keyiterator"=false by decide,cD,if_false];show wpAny _ _ (if(Value.ref d==Value.none)=true then _ else _) _ _ s;rw[if_neg (show¬((Value.ref d==Value.none)=true)from b5)]
 refine wpAny_bind (wpAny_pure (wpAny_bind (wpAny_dictEntries ho ca ?_)));rw[if_neg (by simp)];refine wpAny_bind (wpAny_pure (wpAny_bind (wpAny_dictEpoch ho ca ?_)));rw[if_neg (by simp)];refine wpAny_pure ?_
 simp only[show¬((i:Int)<0)from by lia,if_false,cE,he];refine wpAny_bind ?_;first|refine wpAny_bind (wpAny_typeNameOfWhole_keyiter hit.typeIs (wpAny_pure ?_))|refine wpAny_bind (wpAny_typeNameOf_keyiter hit.typeIs (wpAny_pure ?_))
 show wpAny _ _ (setField (.ref it) 0 .none>>=_) _ _ s;refine wpAny_bind (wpAny_setField hi hd (by simp) ?_);show wpAny _ _ (newExc (.type "StopIteration") []>>=_) _ _ _;refine wpAny_bind ?_;simp only[newExc,newTuple]
 refine wpAny_bind (wpAny_newObj_type (wpAny_bind (m:=firstArgMember _ _) (wpAny_of_eq (a:=Value.none) (by first|rfl| (simp only[firstArgMember];rfl)) ?_)) (by size_fits))
 refine wpAny_newObj_type ?_ (by size_fits);simp only[raiseNew];refine wpAny_bind (wpAny_handled ?_)
 rw[show A.in1.handled=none from hh];refine wpAny_bind (wpAny_pure (wpAny_throw ?_));refine wpAny_bind (wpAny_isInstance (T:="StopIteration") (b:=true) ⟨_,Heap.get?_push_size _ rfl,rfl⟩ isSubtype_stop ?_)
 exact wpAny_pure (hQ _ (((Heap.SameBut.update ..).extBut.push _).push _))
end
theorem y0{α β:Type}{F:α->β->Prop}:∀{gz:List α}{gy:List β},Paired F gz gy->∀(i:Nat)(h1:i<gz.length)(h2:i<gy.length),F gz[i] gy[i]
 |_,_,.cons h _,0,_,_=>h
 |_,_,.cons _ t,i+1,h1,h2=>y0 t i (by simpa using h1) (by simpa using h2)
theorem aFB{P:Program}{w:World}{K:aO}{tg:Expr}{a it:Addr}{ob:Obj}{es:Array DictEntry}{ep:Nat}{kvs:List (List Key×V)}(hx:ob.ExactDict)(ca:ob.data=.dict es ep)(hl:es.size=kvs.length):
 Turn P w K tg (Itd a ob kvs) [it] it (fun i h=>h.IsKeyIter it a i es.size ep) where
 mem:=by simp
 obj:=fun i h st b hb=>by
  have e:b=it:=by simpa using hb
  subst e;obtain⟨o,e,c,d⟩:=st
  exact⟨o,e,fun v z=>by rw[d]at z;cases z⟩
 keep:=fun i h h' st k=>st.at fun o e=>k it (by simp) o e
 item:=by
  intro X hP hw hK hc i aa s σ H E I hf st hg;subst hP hw hK;obtain⟨hH,hi⟩:=hg;obtain⟨ho,_,_,xs,rel,o2,es2,ep2,e1,e2,e3,e4,e5⟩:=(show jK X.prog X.w H s.heap a (.frz ob (.dT kvs))from I.hok a _ hH);rw[ho]at e1;cases e1;rw[ca]at e3;cases e3;obtain⟨f0,f1,f2,f3,f4,f5⟩:=hf it (by simp);have hlx:xs.length=kvs.length:=(Paired.length rel).symm;have hix:i<xs.length:=by rw[hlx];exact hi
  have mz:es[i]?=some (entryOfKey (tupleKind (iS X.prog X.w)) xs[i]):=by
   rw[<-Array.getElem?_toList,e4,bM,bC hix];rfl
  refine aHS st ho ca mz fun h' ba sb=>?_
  have I1:L2.Inv X aa σ H {s with heap:=h'}:=I.turned (t':=s.toks) (fun b o hb e=>(sb.2 b hb).trans e) f0 f1 f3 f4 f5;obtain⟨o,e,c,d⟩:=id ba;obtain⟨r1,r2,r3⟩:=y0 rel i hi hix
  refine⟨_,rfl,aFS (s:={s with heap:=h'}) e c d (by decide) ⟨.ref xs[i].2.1,H,I1,rfl,⟨rfl,xs[i].2.1,kvs[i].1,kvs[i].2,rfl,bC hi,r2⟩,ba,fun b hb=>(hf b hb).1⟩⟩
 done:=by
  intro X hP hw hK hc i aa s σ H E I hf st hg;subst hP hw hK;obtain⟨hH,hi⟩:=hg;have ho:=(show jK X.prog X.w H s.heap a (.frz ob (.dT kvs))from I.hok a _ hH).1;obtain⟨f0,f1,f2,f3,f4,f5⟩:=hf it (by simp)
  exact aHy (I.ok.hd hc) st ho ca (by simp;lia) fun h' eb=>⟨rfl,I.turned (t':=s.toks) (fun b o hb e=>eb b o hb e) f0 f1 f3 f4 f5⟩
 self:=fun _ _ _ _ _ st h=>wpAny_pyIter_keyiter st h
section
variable {X:Cx}{iter:Expr}{fa:FE}{p pos p2:Pos}
abbrev Bare(X:Cx)(a:Addr):Prop:=∀o v,X.H₀ a≠some (.frz o v)
theorem aIU{tg l:Expr}{tl:TE}(hl:PE X l tl):PI X tg l (iDict (Bare X) tl):=by
 intro aa s σ H R I h
 refine thn (hl aa s σ H _ I h) fun v s1 zz=>?_
 obtain⟨x,H1,I1,r1,q1⟩:=zz;obtain⟨a,kvs,e,ha,q⟩:=q1;subst e;cases r1;obtain⟨_,hd,xs,rel,o,es,ep,e1,e2,e3,e4,e5⟩:=(show jK X.prog X.w H1 s1.heap a (.dT kvs)from I1.hok a _ ha);have hB:Bare X a:=fun o v z=>by
  have:=I1.base.frzs a o v z;rw[ha]at this;cases this
 have hsz:es.size=kvs.length:=by rw[<-b9,e4,aP];exact(Paired.length rel).symm
 have I2:L2.Inv X aa σ H1 {s1 with heap:=s1.heap.push {cls:=.type "dict_keyiterator",data:=.fields #[.ref a,.int 0 0,.int es.size 0,.int ep 0]}}:=I1.kept (t':=s1.toks) fun b o e=>Heap.get?_push_of_some _ e
 refine aHo hd e1 e2 e3 ⟨s1.heap.objs.size,[s1.heap.objs.size],_,_,_,rfl,aGp I2 ha (Heap.get?_push_of_some _ e1),aFB (a:=a) (kvs:=kvs) e2 e3 hsz,⟨_,Heap.get?_push_size _ rfl,rfl,rfl⟩,fun b hb=>?_,q hB o⟩
 have e:b=s1.heap.objs.size:=by simpa using hb
 subst e
 refine I1.fpOk (bG _) ?_
 rw[fK (Ne.symm (bX (Heap.lt_size e1)))]
 exact I1.hok.fresh (bG _)
section
variable {own frs:List Str}{is:List Nat}{scope:Scope}{cl:List (Str×Addr)}{tg bh:Expr}{ifs:List Expr}{fe:FE}{g:FG}{gt:FB}
theorem aKt(hc:X.calm=true)(k:lX X own frs is scope cl)(h1:QE X iter fa)(ho:Own own.length g)(hg:∀C s3 H3 fp,QG (gJ X (own++frs) scope cl C s3 H3 fp) tg g)(ht:∀C s3 H3 fp,QTs (gJ X (own++frs) scope cl C s3 H3 fp) ifs gt)
 (he:∀C s3 H3 fp,QE (gJ X (own++frs) scope cl C s3 H3 fp) bh fe)(hs:∀x,foldedSetIterable iter X.env x=pure x:=by intro _;rfl):
 QN X (.ListComp bh [⟨tg,iter,ifs,0⟩] scope pos) (tN fa own.length is g gt fe):=by
 intro aa s σ H Q I h
 refine thn (u4 hc k (aIU h1) hg ht he hs aa s σ H _ I (aJX (B:=Bare X) ho h)) fun u s' zz=>?_
 obtain⟨v,H',I',r,a,ob,w,hB,hf,q⟩:=zz
 exact⟨v,_,aGN I' hf hB,r,q⟩
end
end
theorem aFJ:∀{ns:List Int},ns≠[]->tF ns∈ns/\∀a∈ns,tF ns<=a:=by
 have key:∀(ns:List Int)(n:Int),(ns.foldl (fun a b=>if b<a then b else a) n=n\/ns.foldl (fun a b=>if b<a then b else a) n∈ns)/\ns.foldl (fun a b=>if b<a then b else a) n<=n/\∀a∈ns,ns.foldl (fun a b=>if b<a then b else a) n<=a:=by
  intro ns;induction ns with
  |nil=>intro n;exact⟨.inl rfl,b4 _,fun a h=>nomatch h⟩
  |cons m ns ih=>
   intro n;rw[aO4];obtain⟨h1,h2,h3⟩:=ih (if m<n then m else n);by_cases hm:m<n
   ·rw[if_pos hm]at h1 h2 h3|-
    refine⟨?_,by lia,fun a ha=>?_⟩
    ·rcases h1 with h1|h1
     ·rw[h1];simp
     ·exact .inr (aZ _ h1)
    ·rcases bE.mp ha with rfl|ha
     ·exact h2
     ·exact h3 a ha
   ·rw[if_neg hm]at h1 h2 h3|-
    refine⟨?_,h2,fun a ha=>?_⟩
    ·rcases h1 with h1|h1
     ·exact .inl h1
     ·exact .inr (aZ _ h1)
    ·rcases bE.mp ha with rfl|ha
     ·lia
     ·exact h3 a ha
 intro ns bb;cases ns with
 |nil=>exact absurd rfl bb
 |cons n ns=>
  obtain⟨h1,h2,h3⟩:=key ns n
  refine⟨?_,fun a ha=>?_⟩
  ·rcases h1 with h1|h1
   ·show aPK (fun a b=>if b<a then b else a) n ns∈n::ns;rw[h1];simp
   ·exact aZ _ h1
  ·rcases bE.mp ha with rfl|ha
   ·exact h2
   ·exact h3 a ha
section
variable {X:Cx}{e:Expr}{es:List Expr}{fr:FN}{p pos:Pos}
theorem aFH(hc:X.calm=true):m6 X (.builtin "min") (aBb X.K (fun ns=> !ns.isEmpty) tF):=by
 intro aa s σ H xs us Q I r h;obtain⟨p,ns,rfl,hq,bb,q⟩:=h;obtain⟨u,rfl,ru⟩:=vals1 r;cases ru;obtain⟨its,rv,pl,hz⟩:=I.list hq;have hi:=oI rv;have iy:ns≠[]:=by rintro rfl;simp at bb
 obtain⟨ys,hx⟩:=hi.allInts.items;have eh:s.heap.IsList p (intItems ys):=hx ▸ pl.isList;have gf:ns=ys.toList.map (·.1):=by
  rw[<-nums_intItems,<-hx]
  exact(show numsOf its.toArray.toList=ns from hi.numsOf).symm
 have hsz:0<ys.size:=by
  have h3:0<ns.length:=eJ.mpr iy;rw[gf,aP,b9]at h3;exact h3
 refine min_intList (I.ok.hd hc) eh hsz fun v h' tk hv hk=>?_
 obtain⟨t,rfl⟩:=intItems_at hv;obtain⟨h1,h2⟩:=argBest_lt (numAt ys) (ys.size - 1);obtain⟨m1,m2⟩:=aFJ iy;obtain⟨M,hM⟩:∃M,M=tF ns:=⟨_,rfl⟩;rw[<-hM]at m1 m2 q;have e:numAt ys (argBest (fun i j=>decide (numAt ys i<numAt ys j)) (ys.size - 1))=M:=by
  apply eB
  ·have rj:=m1;rw[gf]at rj;obtain⟨j,hj,ej⟩:=mem_getD rj;rw[aP,b9]at hj;rw[<-ej,<-numAt_eq];exact h2 j (by lia)
  ·refine m2 _ ?_
   rw[gf,numAt_eq];exact getD_mem (by rw[aP,b9];lia)
 exact⟨.int M,H,I.kept hk,⟨_,by rw[e]⟩,q⟩
theorem aG7(hm:X.mg "min"=none)(hc:X.calm=true)(ha:QA X (e::es) fr)(hg:Gl X "min":=by rfl)(he:starEach (e::es) X.env=(false,eval e X.env)::starEach es X.env:=by rfl)(ay:(backTo pos (starEach es X.env)).any (·.1)=false:=by rfl):
 QE X (.Call (.Name "min" p) (e::es) [] pos) (aGn fr):=aCK (aFH hc) (fun _ _ _ _=>aDg) boot_min hm hg ha (by decide) (by decide) he ay
end
theorem nA{X:Cx}{pos:Pos}{x:Str}{i:Int}(hm:∃t,X.mg x=some (.int i t))(hg:Gl X x:=by rfl)(hd:(x==("__debug__":Str))=false:=by decide):QE X (.Name x pos) (fC (.int i)):=by
 obtain⟨t,hm⟩:=hm
 exact(aKc hg hm (v:=.int i) ⟨t,rfl⟩ hd).imp fun _ _ _=>i_C fun _ _=>.int
structure aHC(K:aO)(x qual:Str)(st:Stmt)(f:Addr)(fd:FuncData)(dV:Value):Prop where
 ex:∃(oc:Value)(od:Option Addr)(kV doc pm:Value)(an:Option Addr)(bc ct:Value)(fu:Array (Option Value)),
  fd=cP x qual (jM st) (iZ st) (f9 st) dV kV doc pm an bc ct/\K.lookup f=some ⟨oc,od,.func fd,fu⟩/\dU K bc qual=true
section
variable {P:Program}{w:World}{K:aO}{mg:Str->Option Value}{base:Heap}
variable{qual:Str}{st:Stmt}{fd:FuncData}{dV oc:Value}{ps:List Str}{od:Option Addr}{fu:Array (Option Value)}
theorem aHC.ok{x:Str}{f:Addr}{N:List Str}{k:Nat}{sp:Sp}(F:aHC K x qual st f fd dV)(S:p6 N ps (f9 st))(len:∀vs H Q E,sp vs H Q E->vs.length=ps.length)
 (du:∀(bc:Value)(A:Around)(outer:List Env)(s:Shared)(H:Hp)(vs:List V)(Q:VK)(E:XK),Room k (A.deeper (envOfC qual (f9 st) s.heap.objs.size f bc))->sp vs H Q E->
  ∃t,PSs (aA6 CX0 P w K mg base N qual (f9 st) f bc A outer s H E).nox (iZ st) t/\t {nx:=fun _ H'=>Q .non H',rt:=Q} (start N vs) H):mW P w K mg base CX0 (k+1) f fd ps sp:=by
 obtain⟨oc,od,kV,doc,pm,an,bc,ct,fu,e,lk,jc⟩:=F.ex;subst e
 refine aKW lk jc S len fun A outer s H vs Q E hr il=>?_
 obtain⟨t,h,q⟩:=du bc A outer s H vs Q E hr il
 exact⟨t,h.nox,q⟩
theorem aJn{x:Str}{f:Addr}{an:Option Addr}{kV doc pm bc ct:Value}(l:K.lookup f=some ⟨oc,od,.func (cP x qual (jM st) (iZ st) (f9 st) dV kV doc pm an bc ct),fu⟩)
 (c:dU K bc qual=true):aHC K x qual st f (cP x qual (jM st) (iZ st) (f9 st) dV kV doc pm an bc ct) dV:=⟨⟨oc,od,kV,doc,pm,an,bc,ct,fu,rfl,l,c⟩⟩
theorem aCE(m:Nat){T:Addr}{its:Array Value}{n:Nat}{ds:List Value}(hd:fd.defaults=.ref T)(lk:K.lookup T=some ⟨oc,od,.seq its n,fu⟩)
 (hm:m+ds.length=ps.length)(h:∀us:List Value,us.length=m->∃k:Option (Array Value)->Sem (List (Str×Value)),bindArgs fd ⟨us,[]⟩=seqItems? fd.defaults>>=k/\k (some its)=pure (ps.zip (us++ds))):Binds K fd ps ds:=fun s us hk hl=>by
 obtain⟨k,h1,h2⟩:=h us (by rw[bA]at hl;lia)
 exact .of_defaults hd (hk T _ lk) rfl h1 h2
end
theorem iR.of{K:aO}{cls:String}{f:Str}{C:Addr}(e:bZ K mainGlobals (Str.ofString cls)=some (some (.ref C)))(c:Cls K C)(n:nZ K C f):iR K cls f:=fun C' h=>by
 rw[e]at h;cases h;exact⟨c,n⟩
section
variable {P:Program}{w:World}{K:aO}{mg:Str->Option Value}{base h:Heap}{f:Addr}{fd:FuncData}{x ql:Str}{t:Stmt}{N ps:List Str}{k n:Nat}{sp:Sp}{B:FS}{cls:String}{C:Addr}
variable{oc kV dc pm cd ct:Value}{od an:Option Addr}{sl:Array (Option Value)}{Q:List Value->Prop}
abbrev hB(K:aO)(N:List Str)(sp:Sp)(B:FS):Prop:=∀{W:XW}{vs:List V}{H:Hp}{Q:VK}{E:XK},sp vs H Q E->trS K W B {nx:=fun _ H'=>Q .non H',rt:=Q} (vs.map some++aS (N.length - vs.length) none) H
abbrev hY(P:Program)(w:World)(K:aO)(mg:Str->Option Value)(base:Heap)(N:List Str)(ql:Str)(t:Stmt)(f:Addr)(k:Nat)(B:FS):Prop:=∀{bc:Value}{A:Around}{outer:List Env}{s:Shared}{H:Hp}{E:XK},N.Nodup->Room k (A.deeper (envOfC ql (f9 t) s.heap.objs.size f bc))->
 PSs (aA6 CX0 P w K mg base N ql (f9 t) f bc A outer s H E).nox (iZ t) (trS K (wish (Cx.nox (aA6 CX0 P w K mg base N ql (f9 t) f bc A outer s H E))) B)
theorem okB(F:Fun K x ql t f fd)(len:∀vs H Q E,sp vs H Q E->vs.length=ps.length)(b:hB K N sp B)(y:hY P w K mg base N ql t f k B)(S:p6 N ps (f9 t):=by exact⟨rfl,rfl,rfl,by decide+kernel,rfl,by decide+kernel,by decide+kernel⟩):mW P w K mg base CX0 (k+1) f fd ps sp:=
 F.ok S len fun bc A outer s H vs Q E hr z=>⟨_,y S.nd hr,b z⟩
theorem okD{dV:Value}(F:aHC K x ql t f fd dV)(len:∀vs H Q E,sp vs H Q E->vs.length=ps.length)(b:hB K N sp B)(y:hY P w K mg base N ql t f k B)(S:p6 N ps (f9 t):=by exact⟨rfl,rfl,rfl,by decide+kernel,rfl,by decide+kernel,by decide+kernel⟩):mW P w K mg base CX0 (k+1) f fd ps sp:=
 F.ok S len fun bc A outer s H vs Q E hr z=>⟨_,y S.nd hr,b z⟩
theorem rdn{A:Around}{j:Nat}(hr:Room k A)(h:j<=k:=by decide):Room j A:=hr.mono h
structure Nm(K:aO)(x:Str)(t:Stmt):Prop where
 ex:∃f fd,bZ K mainGlobals x=some (some (.ref f))/\Fun K x x t f fd
theorem Nm.of(a:bZ K mainGlobals x=some (some (.ref f)))(l:K.lookup f=some ⟨oc,od,.func (cP x x (jM t) (iZ t) (f9 t) .none kV dc pm an cd ct),sl⟩)
 (c:dU K cd x=true)(k:cR K (.ref f)=true):Nm K x t:=⟨_,_,a,aDm l c k⟩
structure Cm(K:aO)(cls:String)(C:Addr):Prop where
 e:bZ K mainGlobals (Str.ofString cls)=some (some (.ref C))
 c:Cls K C
 mi:aPs K C=true
 kp:cR K (.ref C)=true
structure Mm(K:aO)(C:Addr)(x ql:Str)(t:Stmt):Prop where
 ex:∃f fd,bU K (.ref C) x=some (some (.ref f))/\aOR K (.ref f)=true/\Fun K x ql t f fd
theorem Mm.of(a:bU K (.ref C) x=some (some (.ref f)))(l:K.lookup f=some ⟨oc,od,.func (cP x ql (jM t) (iZ t) (f9 t) .none kV dc pm an cd ct),sl⟩)
 (c:dU K cd ql=true)(k:cR K (.ref f)=true)(n:aOR K (.ref f)=true):Mm K C x ql t:=⟨_,_,a,n,aDm l c k⟩
theorem len1(h:∀a,Q [a]):∀us:List Value,us.length=1->Q us
 | [a],_=>h a
theorem yU{n:Nat}(h:∀a us,us.length=n->Q (a::us)):∀us:List Value,us.length=n+1->Q us
 |a::us,e=>h a us (Nat.succ.inj e)
abbrev Bd(x ql:Str)(t:Stmt)(ps:List Str):Prop:=∀(kV doc pm:Value)(an:Option Addr)(bc ct:Value)(us:List Value),us.length=ps.length->bindArgs (cP x ql (jM t) (iZ t) (f9 t) .none kV doc pm an bc ct) ⟨us,[]⟩=pure (ps.zip us)
abbrev Ky(P:Program)(w:World)(K:aO)(mg:Str->Option Value)(base:Heap)(x ql:Str)(t:Stmt)(ps:List Str)(k:Nat)(sp:Sp):Prop:=∀{f:Addr}{fd:FuncData},Fun K x ql t f fd->mW P w K mg base CX0 k f fd ps sp
section
variable (X:K.In h)(G:h.Ns mainGlobals mg)
include X G
variable{R:List T->Sto->Option (T×Sto)}
theorem Nm.df(a:Nm K x t)(o:Ky P w K mg base x x t ps k sp)(b:Bd x x t ps):∃f fd ps,mW P w K mg base CX0 k f fd ps sp/\mg x=some (.ref f)/\cR K (.ref f)=true/\Binds K fd ps []:=
 let ⟨f,fd,a,F⟩:=a.ex
 ⟨f,fd,ps,o F,aOM X G a,F.kp,F.binds b⟩
theorem mkT{R:List T->Option T}(a:Nm K x t)(o:Ky P w K mg base x x t ps k (spT K n R))(b:Bd x x t ps:=by walk_at "bq"):jA P w K mg base k x n R:=⟨a.df X G o b⟩
theorem mkRc{R:List T->Option (T×Sto)}(a:Nm K x t)(o:Ky P w K mg base x x t ps k (aCI K n R))(b:Bd x x t ps:=by walk_at "bq"):aHn P w K mg base k x n R:=⟨a.df X G o b⟩
theorem mkS(a:Nm K x t)(o:Ky P w K mg base x x t ps k (spS K n R))(b:Bd x x t ps:=by walk_at "bq"):uM P w K mg base k x n R:=⟨a.df X G o b⟩
theorem mkI(c:Cm K cls C)(a:Mm K C "__init__" ql t)(o:Ky P w K mg base "__init__" ql t ps k (spS K n R))(b:Bd "__init__" ql t ps:=by walk_at "bq"):aHp P w K mg base k cls n R [] []:=
 let ⟨f,fd,a,i,F⟩:=a.ex
 ⟨⟨C,f,fd,ps,[],c.e,aOM X G c.e,⟨c.mi,a,i,c.kp⟩,o F,F.binds b,.nil⟩,fun _ _=>.nil⟩
end
theorem mkMe{R:List T->Sto->Option (T×Sto)}(c:Cm K cls C)(a:Mm K C x ql t)(o:Ky P w K mg base x ql t ps k (spS K n R))(b:Bd x ql t ps:=by walk_at "bq"):rW P w K mg base k cls x n R:=
 let ⟨f,fd,a,i,F⟩:=a.ex
 ⟨C,f,fd,ps,c.e,c.c,⟨a,i,F.kp⟩,o F,F.binds b⟩
end
section
variable {X:Cx}{e:Expr}{fe:FE}{pos:Pos}
end
end TL
namespace TL
open PySem L2
noncomputable def aCD(i j:Nat)(fr:FN):FS:=fun τ C=>(fr τ C).bind fun p=>match p.1 with
 | [t,u]=>some (.nx,(τ.set i (some t)).set j (some u),p.2)
 |_=>none
theorem aNW{K:aO}{W:XW}{σ:St}{H:Hp}{D:Ends}{i j:Nat}{fr:FN}(h:trS K W (aCD i j fr) D σ H):tPar i j (trA K fr) D σ H:=by
 obtain⟨H₀,Z,ρ,τ,C,fl,ag,C',R,e,k⟩:=h;unfold aCD at e;obtain⟨⟨ts,C1⟩,e1,e⟩:=aK.mp e
 refine⟨H₀,Z,ρ,τ,C,ts,C1,R,e1,fun vs H1 af R1 rs s1=>?_⟩
 dsimp only at e;split at e
 ·cases e;obtain⟨v,_,rfl,r1,rs⟩:=rs.cons_inv;obtain⟨w,_,rfl,r2,rs⟩:=rs.cons_inv;rw[rs.nil_inv]
  exact⟨v,w,rfl,k _ H1 af ((R1.set r1).set r2) s1⟩
 ·cases e
end TL
namespace TL
open PySem PySem.Spec PyProof.Rows L2
section
variable {X:Cx}{a b:Expr}{fr:FN}{pos:Pos}
theorem aM7{x y:Str}{px py pt:Pos}{kt k2 me}(hc:X.calm=true)(hN:X.N.Nodup)(i j:Nat)(ha:QA X [a,b] fr)(hi:X.N[i]?=some x:=by rfl)(hj:X.N[j]?=some y:=by rfl)(i':i≠j:=by decide)
 (hx:X.env.scope.names.lookup x=some .local:=by rfl)(hy:X.env.scope.names.lookup y=some .local:=by rfl)
 (hw:swappedStores [.Tuple [.Name x px,.Name y py] kt pt] (.Tuple [a,b] k2 me) X.env=pure (some [x,y]):=by rfl)
 (hs:swapsWithSole [.Tuple [.Name x px,.Name y py] kt pt] (.Tuple [a,b] k2 me) pos.line X.env=pure false:=by rfl):
 QS X (.Assign [.Tuple [.Name x px,.Name y py] kt pt] (.Tuple [a,b] k2 me) pos) (aCD i j fr):=(aMy hc hN hi hj i' hx hy ha hw hs).imp fun _ _ _=>aNW
end
end TL
namespace Lib
open PySem L2 TL
def zQ:FS:=
 (fE (fIf (iJ (fLt Y1 (n6 (eU Y0 fB)))) (gT (fIx Y0 Y1)) iC)
  (gT (fI 0)))
def gK:List T->Option T:=iW zQ 2
def zH:FS:=
 (gT (fLeLt (fI 0) Y1 Y0))
def k7:List T->Option T:=iW zH 2
def aEl:FS:=
 (gT (uF (aBr "int" Y0) (y6 (aBr "bool" Y0))))
def p5:List T->Option T:=iW aEl 1
def nV:FS:=
 (fE (fIf (aCA (oU (nY (fQ 2 k7 (eU Y0 (eU Y3 fB))))) (oU (nY (fQ 2 k7 (eU Y0 (eU Y4 fB)))))) aAH iC)
  (fIf (iJ (aG1 Y3 (fIx Y2 Y4))) (uT (fIx Y2 Y4) (eU Y3 fB)) iC))
def pH:FS:=
 (fE (fM (iP (jO Y0 1 [] (gN 0) gS (iP (fU fB)))) (gN 2))
  (fE (oE Y1 (gU [3,4])
   nV)
  (gT Y2)))
def gH:List T->Option T:=iW pH 5
def oT:FS:=
 (fIf (nU (iJ (aG1 Y2 Y1)) (nY (aLD (eU (fL (jP (fIx Y0 Y2) 1 [1] (gN 0) gS (fIn Y0 Y1))) fB)))) (gT Y2) iC)
def qG:FS:=
 (fE (kA (n6 (eU Y0 fB)) (gN 2)
  oT)
  aAH)
def lP:List T->Option T:=iW qG 3
def rE:FS:=
 (uT Y3 (eU (fQ 2 lP (eU Y2 (eU Y3 fB))) fB))
def xQ:FS:=
 (fE (fM (fQ 2 gH (eU Y0 (eU Y1 fB))) (gN 2))
  (fE (fM (iP (fU fB)) (gN 3))
  (fE (lH (iJ (fLt (n6 (eU Y3 fB)) Y0)) rE 10)
  (gT Y3))))
def mL:List T->Option T:=iW xQ 4
def pB:FS:=
 (gT (fL (qV Y0 Y1 2 [] (gU [0,1]) gS (iD Y0 Y1))))
def j7:List T->Option T:=iW pB 2
def rD:FS:=
 (oY (aHu (fL (jP (fIx Y3 Y5) 1 [4,0] (gN 0) gS (iD (fIx Y1 Y0) (fIx Y2 Y0)))) (fI 0)) Y4 Y5)
def x6:FS:=
 (fE (fM (fQ 2 mL (eU (n6 (eU Y0 fB)) (eU Y1 fB))) (gN 2))
  (fE (fM (fQ 2 gH (eU (n6 (eU Y0 fB)) (eU Y1 fB))) (gN 3))
  (fE (fM (iP (jP Y2 1 [] (gN 0) gS (fI 0))) (gN 4))
  (fE (oE Y2 (gN 5)
   rD)
  (gT Y4)))))
def lJ:List T->Option T:=iW x6 6
def aBH:FS:=
 (gT (aHu (fQ 2 j7 (eU (fQ 2 lJ (eU Y0 (eU Y1 fB))) (eU Y0 fB))) (fI 0)))
def kP:List T->Option T:=iW aBH 2
def rC:FS:=
 (fE (fIf (aCA (oU (nY (fQ 2 k7 (eU Y0 (eU Y3 fB))))) (oU (nY (fQ 2 k7 (eU Y0 (eU Y4 fB)))))) (fRaise "NoOrder" (eU (fC (.str "a need names a number that is no work")) fB)) iC)
  (fIf (iJ (aG1 Y3 (fIx Y2 Y4))) (uT (fIx Y2 Y4) (eU Y3 fB)) iC))
def oV:FS:=
 (fE (fM (iP (jO Y0 1 [] (gN 0) gS (iP (fU fB)))) (gN 2))
  (fE (oE Y1 (gU [3,4])
   rC)
  (gT Y2)))
def uQ:List T->Option T:=iW oV 5
def tG:List T->Option String:=aMj oV 5
def sV:FS:=
 (fIf (nU (iJ (aG1 Y2 Y1)) (nY (aLD (eU (fL (jP (fIx Y0 Y2) 1 [1] (gN 0) gS (fIn Y0 Y1))) fB)))) (gT Y2) iC)
def pQ:FS:=
 (fE (kA (n6 (eU Y0 fB)) (gN 2)
  sV)
  (fRaise "NoOrder" (eU (fC (.str "a work would have to be done ahead of itself")) fB)))
def wE:List T->Option T:=iW pQ 3
def uR:List T->Option String:=aMj pQ 3
def yL:FS:=
 (fX (xApp Y3 (xCall 2 uR (eU Y2 (eU Y3 fB)))) (uT Y3 (eU (fQ 2 wE (eU Y2 (eU Y3 fB))) fB)))
def aB9:FS:=
 (fE (fX (xCall 2 tG (eU Y0 (eU Y1 fB))) (fM (fQ 2 uQ (eU Y0 (eU Y1 fB))) (gN 2)))
  (fE (fM (iP (fU fB)) (gN 3))
  (fE (lH (iJ (fLt (n6 (eU Y3 fB)) Y0)) yL 10)
  (gT Y3))))
def aA3:List T->Option String:=aMj aB9 4
def uD:FS:=
 (y7 Y2 Y4 (fIx Y3 (fI 0)))
def uH:FS:=
 (oE (fL (fSl Y3 (m5 (fI 1)) kF)) (gN 4)
  uD)
def zU:FS:=
 (fE (fM (iP (jO Y0 1 [] (gN 0) gS (fI 0))) (gN 2))
  (fE (oE Y1 (gN 3)
   uH)
  (gT Y2)))
def mI:List T->Option T:=iW zU 5
def sD:FS:=
 (fE (fIf (iJ (fLe Y1 (fIx Y0 (fI 2)))) (gT (kU Y1 (fIx Y0 (fI 0)))) iC)
  (gT (iD (kU (fIx Y0 (fI 2)) (qW (fIx Y0 (fI 0)) (fIx Y0 (fI 1)))) (kU Y1 (fIx Y0 (fI 1))))))
def lA:List T->Option T:=iW sD 2
def aDy:FS:=
 (fE (fM (fQ 2 mI (eU (n6 (eU Y0 fB)) (eU Y1 fB))) (gN 3))
  (fE (fM (aKI (eU (fL (qV Y0 Y3 2 [] (gU [0,1]) gS (fQ 2 lA (eU Y0 (eU Y1 fB))))) fB)) (gN 4))
  (gT (qW Y4 (kU Y2 (aKI (eU (fL (jP Y1 1 [] (gN 0) gS (fIx Y0 (fI 0)))) fB)))))))
def u6:List T->Option T:=iW aDy 5
def aBf:FS:=
 (fE (fM (gA (iD (iD (kU Y0 (fI 48271)) (kU (kU Y1 Y1) (fI 69621))) (fI 3)) (fI 2147483647)) (gN 2))
  (fE (fM (gA (kU Y2 Y2) (fI 2147483629)) (gN 2))
  (gT (gA (kU Y2 Y2) (fI 2147483587)))))
def iX:List T->Option T:=iW aBf 3
def sH:FS:=
 (fE (fM (gA Y2 (fI 40)) (gN 3))
  (oY (fQ 2 iX (eU (iD (fIx Y1 Y3) (fIx Y0 Y2)) (eU Y2 fB))) Y1 Y3))
def xA:FS:=
 (fE (fM (iP (jO (fI 40) 1 [0] (gN 0) gS (fQ 2 iX (eU (fQ 2 gK (eU Y1 (eU (fI 0) fB))) (eU (iD (fI 90) Y0) fB))))) (gN 1))
  (fE (o8 (fI 2) (oR (eU (fI 63) (eU (n6 (eU Y0 fB)) fB))) (gN 2)
   sH)
  (gT Y1)))
def lK:List T->Option T:=iW xA 4
def yD:FS:=
 (aFn Y2 (eU (gA (fQ 2 iX (eU Y0 (eU Y3 fB))) (iD Y3 (fI 1))) (eU Y3 fB)))
def aCa:FS:=
 (fE (fM (iP (fU fB)) (gN 2))
  (fE (kA Y1 (gN 3)
   yD)
  (gT Y2)))
def lU:List T->Option T:=iW aCa 4
def q9:FS:=
 (fE (fM (fQ 2 gK (eU Y0 (eU (iD (fI 3) Y5) fB))) (gN 6))
  (fE (fM (gA Y6 (fIx (fL (fU (eU (fI 5) (eU Y3 fB)))) (l7 (eU (fGt Y3 (fI 1)) fB)))) (gN 7))
  (fE (fM (uC Y6 (fIx (fL (fU (eU (fI 5) (eU Y3 fB)))) (l7 (eU (fGt Y3 (fI 1)) fB)))) (gN 6))
  (fE (fM (gA Y6 (fIx (fL (fU (eU (fI 6) (eU Y3 fB)))) (l7 (eU (fGt Y3 (fI 1)) fB)))) (gN 8))
  (fE (fM (uC Y6 (fIx (fL (fU (eU (fI 6) (eU Y3 fB)))) (l7 (eU (fGt Y3 (fI 1)) fB)))) (gN 6))
  (uT Y4 (eU (fL (fU (eU (iD Y7 Y8) (eU Y7 (eU (gA Y6 (fIx (fL (fU (eU (fI 5) (eU Y3 fB)))) (l7 (eU (fGt Y3 (fI 1)) fB)))) fB))))) fB)))))))
def rP:FS:=
 (fE (aFn Y9 (eU (gA Y6 (iD Y5 (fI 1))) (eU Y5 fB)))
  (fM (uC Y6 (iD Y5 (fI 1))) (gN 6)))
def rZ:FS:=
 (fE (fIf (iJ (fEq (gA Y6 (fI 2)) (fI 1))) (uT Y10 (eU (fL (fU (eU Y11 (eU (fIx Y9 Y5) fB)))) fB)) iC)
  (fM (jI Y6 (fI 2)) (gN 6)))
def rA:FS:=
 (oE (fL (fSl Y9 kF (m5 Y5))) (gN 11)
  rZ)
def wQ:FS:=
 (fE (fM (fIx (fL (fU (eU (fI 1) (eU (kU Y2 (aI2 (fI 10) (fI 9))) fB)))) (gA (jI (fQ 2 gK (eU Y0 (eU (fI 1) fB))) (fI 576)) (fI 2))) (gN 3))
  (fE (fM (iP (fU fB)) (gN 4))
  (fE (kA Y1 (gN 5)
   q9)
  (fE (fM (fQ 2 gK (eU Y0 (eU (fI 2) fB))) (gN 6))
  (fE (fM (iP (fU fB)) (gN 9))
  (fE (kA Y1 (gN 5)
   rP)
  (fE (fM (iP (fU fB)) (gN 10))
  (fE (kA Y1 (gN 5)
   rA)
  (gT (qM (eU Y4 (eU Y10 fB))))))))))))
def wU:List T->Option T:=iW wQ 12
def aDS:FS:=
 (fE (fM (gA Y0 (fI 5)) (gN 5))
  (fE (fM (gA Y1 (fI 6)) (gN 6))
  (fE (fM (gA Y2 (fI 5)) (gN 7))
  (fE (fIf (iJ (fEq Y3 (fI 1))) (fE (fM (iD (kU Y0 Y4) (gA Y1 (fI 97))) (gN 5))
  (fE (fM (kU (kU Y1 Y4) (l7 (eU (fGt (gA Y1 (fI 4)) (fI 0)) fB))) (gN 6))
  (fM (iD (kU Y2 Y4) (gA Y0 (fI 89))) (gN 7)))) iC)
  (fE (fIf (iJ (fEq Y3 (fI 2))) (fE (fM (kU (gA Y1 (fI 3)) (gA (jI Y1 (fI 3)) (fI 50))) (gN 6))
  (fM (fIx (fL (fU (eU (fI 0) (eU (fI 3) (eU (fI 3) (eU (iD (fI 1) (gA Y2 (fI 40))) fB)))))) (gA (jI Y2 (fI 64)) (fI 4))) (gN 7))) iC)
  (fE (fIf (nU (iJ (fEq Y3 (fI 3))) (iJ (fEq (gA Y0 (fI 3)) (fI 0)))) (fM (fI 0) (gN 5)) iC)
  (gT (fL (fU (eU (iD Y5 Y6) (eU Y5 (eU Y7 fB))))))))))))
def aAG:List T->Option T:=iW aDS 8
def aEo:FS:=
 (fIf (iJ (fGt Y6 (fI 1))) (fE (fM (iD (fI 1) (gA (fIx Y3 Y11) (qW Y6 (fI 1)))) (gN 12))
  (fE (fM (gA (jI (fIx Y3 Y11) (fI 16)) (oR (eU Y12 (eU (fIx (fL (fU (eU (fI 1) (eU (fI 2) (eU (fI 8) fB))))) (gA (jI Y7 (fI 16)) (fI 3))) fB)))) (gN 13))
  (fE (fM (fIx (fL (fU (eU (qW (qW Y12 (fI 1)) Y13) (eU Y13 fB)))) (gA (jI Y7 (fI 48)) (fI 2))) (gN 14))
  (aFn Y10 (eU (gA (jI (fIx Y3 Y11) (fI 256)) (iD (n6 (eU Y10 fB)) (fI 1))) (eU (fL (fU (eU (fIx Y9 Y14) (eU (fIx Y9 Y12) fB)))) fB)))))) iC)
def aLc:FS:=
 (fE (fM (fQ 1 lK (eU Y0 fB)) (gN 3))
  (fE (fM (fQ 2 gK (eU Y0 (eU (fI 0) fB))) (gN 4))
  (fE (fM (gA (jI Y4 (fI 4)) (oR (eU (fI 6) (eU (iD Y1 (fI 1)) fB)))) (gN 5))
  (fE (fM (fIx (fL (fU (eU Y5 (eU (qW Y1 (fIx (fL (fU (eU (fI 0) (eU (fI 0) (eU (fI 1) (eU (fI 2) fB)))))) (gA (jI Y4 (fI 4)) (fI 4)))) (eU Y5 (eU (oR (eU Y1 (eU (iD (fI 3) (gA (jI Y4 (fI 4)) (fI 3))) fB))) fB)))))) (gA Y4 (fI 4))) (gN 6))
  (fE (fM (fQ 2 gK (eU Y0 (eU (fI 1) fB))) (gN 7))
  (fE (fIf (iJ (fEq (gA (jI Y7 (fI 288)) (fI 2)) (fI 1))) (gT (fQ 3 wU (eU Y0 (eU (oR (eU Y6 (eU (fIx (fL (fU (eU (fI 5) (eU (fI 3) fB)))) (l7 (eU (fLt Y1 (fI 5)) fB))) fB))) (eU Y2 fB))))) iC)
  (fE (fM (fL (jO Y6 1 [3,7,2] (gN 0) gS (fQ 5 aAG (eU (fIx Y1 Y0) (eU (fIx Y1 (iD (fI 8) Y0)) (eU (fIx Y1 (iD (fI 16) Y0)) (eU (gA Y2 (fI 4)) (eU Y3 fB)))))))) (gN 8))
  (fE (fM (fQ 2 lU (eU (fIx Y3 (fI 39)) (eU Y6 fB))) (gN 9))
  (fE (fM (iP (fU fB)) (gN 10))
  (fE (o8 (fI 24) (iD (fI 24) (oR (eU (fI 14) (eU (iD Y6 (gA (jI Y7 (fI 4)) (fI 4))) fB)))) (gN 11)
   aEo)
  (gT (qM (eU Y8 (eU (fL (fSl Y10 (m5 (gA (jI Y7 (fI 96)) (fI 3))) kF)) fB))))))))))))))
def aDF:List T->Option T:=iW aLc 15
def qF:FS:=
 (gT (fL (jP Y0 1 [] (gN 0) gS (fIx Y0 (fI 1)))))
def kL:List T->Option T:=iW qF 1
def sG:FS:=
 (gT (aMV (iJ (fEq (fIx Y0 (fI 2)) (fI 0))) (fIx Y0 (fI 1)) (fIx Y0 (fI 0))))
def oM:List T->Option T:=iW sG 1
def uB:FS:=
 (gT (fQ 2 kP (eU (fQ 1 kL (eU Y0 fB)) (eU Y1 fB))))
def i6:List T->Option T:=iW uB 2
def wZ:FS:=
 (gT (fQ 2 kP (eU (fL (jP Y0 1 [] (gN 0) gS (fQ 1 oM (eU Y0 fB)))) (eU Y1 fB))))
def xV:List T->Option T:=iW wZ 2
def t9:FS:=
 (oY (fMax2 (eU (fIx Y2 Y5) (eU (iD (fIx Y2 Y4) (fIx Y0 Y4)) fB))) Y2 Y5)
def tX:FS:=
 (oE Y1 (gU [4,5])
  t9)
def aAa:FS:=
 (fE (fM (iP (jP Y0 1 [] (gN 0) gS (fI 0))) (gN 2))
  (fE (kA (n6 (eU Y0 fB)) (gN 3)
   tX)
  (gT (fMaxL (eU (fL (xK (fL (jO (n6 (eU Y0 fB)) 1 [2,0] (gN 0) gS (iD (fIx Y1 Y0) (fIx Y2 Y0)))) (fL (fU (eU (fI 0) fB))))) fB)))))
def jW:List T->Option T:=iW aAa 6
def aDT:FS:=
 (fE (fM (fQ 2 jW (eU (fL (jP Y0 1 [] (gN 0) gS (fIx Y0 (fI 1)))) (eU Y1 fB))) (gN 2))
  (gT (qM (eU Y2 (eU (fQ 2 jW (eU (fL (jP Y0 1 [] (gN 0) gS (fIx Y0 (l7 (eU (fEq (fIx Y0 (fI 2)) (fI 0)) fB))))) (eU Y1 fB))) fB)))))
def p8:List T->Option T:=iW aDT 3
def qL:FS:=
 (gT (iD (kU (fI 2) Y0) (fI 2)))
def iN:List T->Option T:=iW qL 1
def r6:FS:=
 (gT (iD (kU (fI 2) Y0) (fI 3)))
def i0:List T->Option T:=iW r6 1
def zM:FS:=
 (gT (qW (jI Y0 (fI 2)) (fI 1)))
def pS:List T->Option T:=iW zM 1
def wI:FS:=
 (fE (mY "Pipe" "tail" Y0 Y1)
  (fE (mY "Pipe" "head" Y0 Y2)
  (fE (mY "Pipe" "hours" Y0 Y3)
  (fE (mY "Pipe" "room" Y0 Y4)
  (mY "Pipe" "back" Y0 (fC .non))))))
def lN:List T->Sto->Option (T×Sto):=mV wI 5
def zR:FS:=
 (fE (fM (t8 "Pipe" 5 lN [] (eU Y1 (eU Y2 (eU Y3 (eU Y4 fB))))) (gN 5))
  (fE (fM (t8 "Pipe" 5 lN [] (eU Y2 (eU Y1 (eU (fNeg Y3) (eU (fI 0) fB))))) (gN 6))
  (fE (mY "Pipe" "back" Y5 Y6)
  (fE (mY "Pipe" "back" Y6 Y5)
  (uT (k8 "Net" "pipes" Y0) (eU Y5 fB))))))
def jD:List T->Sto->Option (T×Sto):=mV zR 7
def nB:FS:=
 (fE (mO (lE "Net" "lay" 5 jD Y0 (eU (fI 0) (eU (fQ 1 iN (eU Y5 fB)) (eU (fI 0) (eU Y4 fB))))))
  (fE (mO (lE "Net" "lay" 5 jD Y0 (eU (fQ 1 iN (eU Y5 fB)) (eU (fQ 1 i0 (eU Y5 fB)) (eU (fIx Y6 (fI 0)) (eU (fIx Y6 (fI 2)) fB))))))
  (fE (mO (lE "Net" "lay" 5 jD Y0 (eU (fQ 1 iN (eU Y5 fB)) (eU (fQ 1 i0 (eU Y5 fB)) (eU (fIx Y6 (fI 1)) (eU Y4 fB))))))
  (mO (lE "Net" "lay" 5 jD Y0 (eU (fQ 1 i0 (eU Y5 fB)) (eU (fI 1) (eU (fI 0) (eU Y4 fB)))))))))
def uA:FS:=
 (mO (lE "Net" "lay" 5 jD Y0 (eU (fQ 1 i0 (eU Y9 fB)) (eU (fQ 1 iN (eU Y7 fB)) (eU (fI 0) (eU Y4 fB))))))
def m7:FS:=
 (oE Y8 (gN 9)
  uA)
def zS:FS:=
 (fE (mY "Net" "pipes" Y0 (iP (fU fB)))
  (fE (mY "Net" "places" Y0 (iD (kU (fI 2) (n6 (eU Y1 fB))) (fI 2)))
  (fE (fM (iD (iD (aKI (eU (fL (jP Y1 1 [] (gN 0) gS (fIx Y0 (fI 2)))) fB)) Y3) (fI 1)) (gN 4))
  (fE (v8 Y1 (gU [5,6])
   nB)
  (v8 (fQ 2 gH (eU (n6 (eU Y1 fB)) (eU Y2 fB))) (gU [7,8])
   m7)))))
def nL:List T->Sto->Option (T×Sto):=mV zS 10
def nJ:FS:=
 (fE (fM (fL (xK (k8 "Net" "pipes" Y0) (fL (jP (k8 "Net" "pipes" Y0) 1 [] (gN 0) gS (k8 "Pipe" "back" Y0))))) (gN 1))
  (gT (fL (jP Y1 1 [] (gN 0) (iJ (fGt (k8 "Pipe" "room" Y0) (fI 0))) Y0))))
def i8:List T->Sto->Option (T×Sto):=mV nJ 2
def mZ:FS:=
 (fE (fM (iD (fIx Y0 (k8 "Pipe" "tail" Y3)) (k8 "Pipe" "hours" Y3)) (gN 4))
  (fIf (iJ (fGt Y4 (fIx Y0 (k8 "Pipe" "head" Y3)))) (fE (oY Y4 Y0 (k8 "Pipe" "head" Y3))
  (fM (fC (.bl true)) (gN 2))) iC))
def oQ:FS:=
 (fE (fM (fC (.bl false)) (gN 2))
  (fE (oE Y1 (gN 3)
   mZ)
  (gT Y2)))
def kS:List T->Sto->Option (T×Sto):=mV oQ 5
def uU:FS:=
 iC
def qP:FS:=
 (fE (fM (iP (jO (k8 "Net" "places" Y0) 1 [] (gN 0) gS (fI 0))) (gN 2))
  (fE (oY Y1 Y2 (fI 1))
  (fE (fM (lE "Net" "open_pipes" 1 i8 Y0 fB) (gN 3))
  (fE (lH (nY (kX 2 kS (eU Y2 (eU Y3 fB)))) uU (10^200))
  (gT Y2)))))
def jX:List T->Sto->Option (T×Sto):=mV qP 4
def oP:FS:=
 (fIf (nU (iJ (iU (k8 "Pipe" "tail" Y3) Y0 (yA true))) (iJ (iU (k8 "Pipe" "head" Y3) Y0 (yA false)))) (xL Y2 (k8 "Pipe" "head" Y3) (fL (xK (zO Y0 (k8 "Pipe" "tail" Y3)) (fL (fU (eU Y3 fB)))))) iC)
def qO:FS:=
 (fE (fM (uG (.dk [])) (gN 2))
  (fE (oE Y1 (gN 3)
   oP)
  (gT Y2)))
def lR:List T->Sto->Option (T×Sto):=mV qO 4
def oO:FS:=
 (mO (x8 Y3 (kX 2 lR (eU Y3 (eU Y2 fB)))))
def qJ:FS:=
 (fE (fM (fL (jP Y0 1 [1] (gN 0) (iJ (fEq (iD (fIx Y1 (k8 "Pipe" "tail" Y0)) (k8 "Pipe" "hours" Y0)) (fIx Y1 (k8 "Pipe" "head" Y0)))) Y0)) (gN 2))
  (fE (fM (sU (fI 0) (fL (fU fB))) (gN 3))
  (fE (lH (iJ (iU (fI 1) Y3 (yA false))) oO 40)
  (gT (zO Y3 (fI 1))))))
def lQ:List T->Sto->Option (T×Sto):=mV qJ 4
def zP:FS:=
 (gT (aGn (eU (fL (jP Y0 1 [] (gN 0) gS (k8 "Pipe" "room" Y0))) fB)))
def qC:List T->Sto->Option (T×Sto):=mV zP 1
def aCr:FS:=
 (fE (uI "Pipe" "room" (fun i j=>i - j) Y2 Y1)
  (uI "Pipe" "room" (fun i j=>i+j) (k8 "Pipe" "back" Y2) Y1))
def aIm:FS:=
 (oE Y0 (gN 2)
  aCr)
def aAl:List T->Sto->Option (T×Sto):=mV aIm 3
def rJ:FS:=
 (fE (fM (kX 2 lQ (eU (lE "Net" "open_pipes" 1 i8 Y0 fB) (eU Y2 fB))) (gN 3))
  (fE (mO (kX 2 aAl (eU Y3 (eU (kX 1 qC (eU Y3 fB)) fB))))
  (fM (lE "Net" "moments" 2 jX Y0 (eU (fI 0) fB)) (gN 2))))
def wS:FS:=
 (fE (fM (lE "Net" "moments" 2 jX Y0 (eU (fI 0) fB)) (gN 2))
  (lH (iJ (fGt (fIx Y2 (fI 1)) Y1)) rJ (10^200)))
def oB:List T->Sto->Option (T×Sto):=mV wS 4
def sB:FS:=
 (gT (fL (tN Y1 1 [0,1] (gN 0) (nU (iJ (fEq (fIx Y0 (fI 0)) Y1)) (iJ (fGt (zO Y2 Y0) (fI 0)))) Y0)))
def lG:List T->Sto->Option (T×Sto):=mV sB 2
def m4:FS:=
 (fE (uT Y1 (eU (fIx Y2 (fI 0)) fB))
  (fM (kX 2 lG (eU (fIx (fIx Y2 (fI 0)) (fI 1)) (eU Y0 fB))) (gN 2)))
def oS:FS:=
 (fE (fM (iP (fU fB)) (gN 1))
  (fE (fM (kX 2 lG (eU (fI 0) (eU Y0 fB))) (gN 2))
  (fE (lH (nY Y2) m4 40)
  (gT Y1))))
def jV:List T->Sto->Option (T×Sto):=mV oS 3
def vP:FS:=
 (gT (fL (jP (fL (aFL Y0)) 2 [] (gU [0,1]) gS (fQ 1 pS (eU Y0 fB)))))
def oA:List T->Sto->Option (T×Sto):=mV vP 1
def sA:FS:=
 (zD (fun i j=>i - j) Y0 Y3 Y2)
def wK:FS:=
 (fE (fM (aGn (eU (fL (jP Y1 1 [0] (gN 0) gS (zO Y1 Y0))) fB)) (gN 2))
  (fE (oE Y1 (gN 3)
   sA)
  (gT Y2)))
def oK:List T->Sto->Option (T×Sto):=mV wK 4
def pK:FS:=
 (fE (fM (qM (eU (k8 "Pipe" "tail" Y2) (eU (k8 "Pipe" "head" Y2) fB))) (gN 3))
  (xL Y1 Y3 (iD (tK Y1 Y3 (fI 0)) (k8 "Pipe" "room" (k8 "Pipe" "back" Y2)))))
def o3:FS:=
 (fE (uT Y4 (eU (iP (xK (fL (fU (eU (kX 2 oK (eU Y1 (eU Y5 fB))) fB))) (kX 1 oA (eU Y5 fB)))) fB))
  (fM (kX 1 jV (eU Y1 fB)) (gN 5)))
def rM:FS:=
 (fE (fM (uG (.dt [])) (gN 1))
  (fE (oE (k8 "Net" "pipes" Y0) (gN 2)
   pK)
  (fE (fM (iP (fU fB)) (gN 4))
  (fE (fM (kX 1 jV (eU Y1 fB)) (gN 5))
  (fE (lH (nY Y5) o3 (10^200))
  (gT Y4))))))
def mH:List T->Sto->Option (T×Sto):=mV rM 6
def rK:FS:=
 (fE (fM (t8 "Net" 4 nL [.int 0] (eU Y0 (eU Y1 fB))) (gN 3))
  (fE (mO (lE "Net" "fill" 2 oB Y3 (eU Y2 fB)))
  (gT Y3)))
def mC:List T->Sto->Option (T×Sto):=mV rK 4
def pD:FS:=
 (fE (fIf (iJ (fLt Y2 (fQ 2 i6 (eU Y0 (eU Y1 fB))))) (gT (fC .non)) iC)
  (gT (lE "Net" "stream" 1 mH (kX 3 mC (eU Y0 (eU Y1 (eU Y2 fB)))) fB)))
def kD:List T->Option (T×Sto):=aCd pD 3
def qY:FS:=
 (fE (fIf (iJ (fLt Y2 (fQ 2 i6 (eU Y0 (eU Y1 fB))))) (gT (fC .non)) iC)
  (gT (fQ 3 u6 (eU Y0 (eU (fCallR 3 kD (eU Y0 (eU Y1 (eU Y2 fB)))) (eU Y2 fB))))))
def gD:List T->Option T:=iW qY 3
end Lib
namespace TL
open PySem L2
section
variable {τ:TSt}{C:Sto}{a b c f fe fo fi:FE}{fa fr fn:FN}{fb ga gb:FB}{F G:FS}
def wpE(f:FE)(τ:TSt)(C:Sto)(Q:T->Sto->Prop):Prop:=∃t C',f τ C=some (t,C')/\Q t C'
def wpA(f:FN)(τ:TSt)(C:Sto)(Q:List T->Sto->Prop):Prop:=∃t C',f τ C=some (t,C')/\Q t C'
def wpB(f:FB)(τ:TSt)(C:Sto)(Q:Bool->Sto->Prop):Prop:=∃t C',f τ C=some (t,C')/\Q t C'
def wpS(F:FS)(τ:TSt)(C:Sto)(Q:Fl->TSt->Sto->Prop):Prop:=∃l t C',F τ C=some (l,t,C')/\Q l t C'
def wpO(o:Option (T×Sto))(Q:T->Sto->Prop):Prop:=∃t C',o=some (t,C')/\Q t C'
def wpL(o:Option (List T))(Q:List T->Prop):Prop:=∃t,o=some t/\Q t
def wpC(o:Option (List T×Sto))(Q:List T->Sto->Prop):Prop:=∃t C',o=some (t,C')/\Q t C'
def wpG(g:FG)(t:T)(C:Sto)(τ:TSt)(Q:TSt->Prop):Prop:=∃ag,g t C τ=some ag/\Q ag
def wpR(o:Option T)(Q:T->Prop):Prop:=∃t,o=some t/\Q t
variable {Q:T->Sto->Prop}{QL:List T->Sto->Prop}{QB:Bool->Sto->Prop}{QS:Fl->TSt->Sto->Prop}{QG:TSt->Prop}{Ql:List T->Prop}
variable{i j lo:Int}{u:T}{R:List T->Option T}{P:Sto->Prop}
theorem e9{i:Nat}:wpE (j4 i) τ C Q↔∃t,τ[i]?=some (some t)/\Q t C:=by
 unfold wpE j4;constructor
 ·rintro⟨t,C',e,q⟩;split at e
  ·rename_i t' h;cases e;exact⟨_,h,q⟩
  ·cases e
 ·rintro⟨t,e,q⟩
  exact⟨t,C,by rw[e],q⟩
theorem kZ{t:T}:wpE (fC t) τ C Q↔Q t C:=by
 unfold wpE fC;constructor
 ·rintro⟨_,_,e,q⟩;cases e;exact q
 ·exact fun q=>⟨_,_,rfl,q⟩
theorem gO{g:T->T->Sto->Option (T×Sto)}:wpE (iU a b g) τ C Q↔wpE a τ C fun x C1=>wpE b τ C1 fun y C2=>wpO (g x y C2) Q:=by
 unfold wpE iU wpO;constructor
 ·rintro⟨t,C',e,q⟩;obtain⟨⟨x,C1⟩,e1,e⟩:=aK.mp e;obtain⟨⟨y,C2⟩,e2,e⟩:=aK.mp e
  exact⟨x,C1,e1,y,C2,e2,t,C',e,q⟩
 ·rintro⟨x,C1,e1,y,C2,e2,t,C',e,q⟩
  exact⟨t,C',by simp[e1,e2,e],q⟩
theorem aDe{g:T->Sto->Option (T×Sto)}:wpE (fUn a g) τ C Q↔wpE a τ C fun x C1=>wpO (g x C1) Q:=by
 unfold wpE fUn wpO;constructor
 ·rintro⟨t,C',e,q⟩;obtain⟨⟨x,C1⟩,e1,e⟩:=aK.mp e
  exact⟨x,C1,e1,t,C',e,q⟩
 ·rintro⟨x,C1,e1,t,C',e,q⟩
  exact⟨t,C',by simp[e1,e],q⟩
theorem sJ{g:T->T->Sto->Option (List T)}:wpA (vN a b g) τ C QL↔wpE a τ C fun x C1=>wpE b τ C1 fun y C2=>wpL (g x y C2) fun us=>QL us C2:=by
 unfold wpA wpE vN wpL;constructor
 ·rintro⟨t,C',e,q⟩;obtain⟨⟨x,C1⟩,e1,e⟩:=aK.mp e;obtain⟨⟨y,C2⟩,e2,e⟩:=aK.mp e;obtain⟨us,e3,e⟩:=aL.mp e;cases e
  exact⟨x,C1,e1,y,_,e2,_,e3,q⟩
 ·rintro⟨x,C1,e1,y,C2,e2,t,e,q⟩
  exact⟨t,C2,by simp[e1,e2,e],q⟩
theorem fS:wpA fB τ C QL↔QL [] C:=by
 unfold wpA fB;constructor
 ·rintro⟨_,_,e,q⟩;cases e;exact q
 ·exact fun q=>⟨_,_,rfl,q⟩
theorem fF:wpA (eU a fr) τ C QL↔wpE a τ C fun x C1=>wpA fr τ C1 fun xs C2=>QL (x::xs) C2:=by
 unfold wpA wpE eU;constructor
 ·rintro⟨t,C',e,q⟩;obtain⟨⟨x,C1⟩,e1,e⟩:=aK.mp e;obtain⟨⟨y,C2⟩,e2,e⟩:=aL.mp e;cases e
  exact⟨x,C1,e1,y,_,e2,q⟩
 ·rintro⟨x,C1,e1,y,C2,e2,q⟩
  exact⟨_,C2,by simp[e1,e2],q⟩
theorem jT{g:List T->Sto->Option (T×Sto)}:wpE (mX fa g) τ C Q↔wpA fa τ C fun xs C1=>wpO (g xs C1) Q:=by
 unfold wpE wpA mX wpO;constructor
 ·rintro⟨t,C',e,q⟩;obtain⟨⟨x,C1⟩,e1,e⟩:=aK.mp e
  exact⟨x,C1,e1,t,C',e,q⟩
 ·rintro⟨x,C1,e1,t,C',e,q⟩
  exact⟨t,C',by simp[e1,e],q⟩
theorem yB{g:List T->Sto->Option (List T)}:wpA (uK fa g) τ C QL↔wpA fa τ C fun xs C1=>wpL (g xs C1) fun us=>QL us C1:=by
 unfold wpA uK wpL;constructor
 ·rintro⟨t,C',e,q⟩;obtain⟨⟨x,C1⟩,e1,e⟩:=aK.mp e;obtain⟨us,e3,e⟩:=aL.mp e;cases e
  exact⟨x,_,e1,_,e3,q⟩
 ·rintro⟨x,C1,e1,t,e,q⟩
  exact⟨t,C1,by simp[e1,e],q⟩
theorem kE:wpA (fU fa) τ C QL↔wpA fa τ C fun xs C1=>xs.length<=lim/\QL xs C1:=by
 unfold fU;rw[yB];unfold wpA wpL;constructor
 ·rintro⟨x,C1,e,t,e2,q⟩;split at e2
  ·cases e2;exact⟨_,_,e,‹_›,q⟩
  ·cases e2
 ·rintro⟨x,C1,e,h,q⟩
  exact⟨x,C1,e,x,by rw[if_pos h],q⟩
theorem hZ:wpE (fL fn) τ C Q↔wpA fn τ C fun us C1=>Q (.lst us) C1:=by
 unfold wpE wpA fL;constructor
 ·rintro⟨t,C',e,q⟩;obtain⟨⟨x,C1⟩,e1,e⟩:=aL.mp e;cases e
  exact⟨x,_,e1,q⟩
 ·rintro⟨x,C1,e1,q⟩
  exact⟨_,C1,by simp[e1],q⟩
theorem kK:wpE (iP fn) τ C Q↔wpA fn τ C fun us C1=>Q (.cell C1.length) (C1++[(.l,us)]):=by
 unfold wpE wpA iP;constructor
 ·rintro⟨t,C',e,q⟩;obtain⟨⟨x,C1⟩,e1,e⟩:=aL.mp e;cases e
  exact⟨x,_,e1,q⟩
 ·rintro⟨x,C1,e1,q⟩
  exact⟨_,_,by simp[e1],q⟩
theorem pI{g:Int->Int->T}:wpO (gI g (.int i) (.int j) C) Q↔Q (g i j) C:=by
 unfold wpO gI;constructor
 ·rintro⟨_,_,e,q⟩;cases e;exact q
 ·exact fun q=>⟨_,_,rfl,q⟩
theorem aLM{p:Prop}[Decidable p]{o:Option (T×Sto)}:wpO (if p then o else none) Q↔p/\wpO o Q:=by
 by_cases h:p<;>simp[h,wpO]
theorem nF{t:T}:wpO (some (t,C)) Q↔Q t C:=by
 unfold wpO;constructor
 ·rintro⟨_,_,e,q⟩;cases e;exact q
 ·exact fun q=>⟨_,_,rfl,q⟩
theorem aM3{k:Int->Int->Bool}{g:Int->Int->T}:wpO (gIc k g (.int i) (.int j) C) Q↔k i j=true/\Q (g i j) C:=by
 show wpO (if k i j=true then some (g i j,C)else none) Q↔_;rw[aLM,nF]
theorem pN{t:T}:wpO (gIx t (.int i) C) Q↔∃ts,sqT C t=some ts/\∃x,atI ts i=some x/\Q x C:=by
 unfold wpO gIx;constructor
 ·rintro⟨t,C',e,q⟩;obtain⟨ts,e1,e⟩:=aK.mp e;obtain⟨x,e2,e⟩:=aL.mp e;cases e
  exact⟨ts,e1,_,e2,q⟩
 ·rintro⟨ts,e1,x,e2,q⟩
  exact⟨_,C,by simp[e1,e2],q⟩
theorem aD3{t:T}:wpO (aFG [t] C) Q↔∃ts,sqT C t=some ts/\Q (.int ts.length) C:=by
 unfold wpO aFG;constructor
 ·rintro⟨t,C',e,q⟩;obtain⟨ts,e1,e⟩:=aL.mp e;cases e
  exact⟨ts,e1,q⟩
 ·rintro⟨ts,e1,q⟩
  exact⟨_,C,by simp[e1],q⟩
theorem aBT{t:T}:wpL (aEc [t] C) Ql↔∃ts,sqT C t=some ts/\Ql ts:=aPj
theorem vA{t:T}:wpL (aFD t u C) Ql↔∃ts,liT C t=some ts/\∃us,liT C u=some us/\ts.length+us.length<=lim/\Ql (ts++us):=by
 unfold wpL aFD;constructor
 ·rintro⟨t,e,q⟩;obtain⟨ts,e1,e⟩:=aK.mp e;obtain⟨us,e2,e⟩:=aK.mp e;split at e
  ·cases e;exact⟨ts,e1,us,e2,‹_›,q⟩
  ·cases e
 ·rintro⟨ts,e1,us,e2,h,q⟩
  exact⟨_,by simp[e1,e2,h],q⟩
theorem vX{k:List Int->Bool}{g:List Int->Int}{t:T}:wpO (wJ k g [t] C) Q↔∃us,liT C t=some us/\∃ns,ints? us=some ns/\k ns=true/\Q (.int (g ns)) C:=by
 unfold wpO wJ;constructor
 ·rintro⟨t,C',e,q⟩;obtain⟨ts,e1,e⟩:=aK.mp e;obtain⟨ns,e2,e⟩:=aK.mp e;split at e
  ·cases e;exact⟨ts,e1,ns,e2,‹_›,q⟩
  ·cases e
 ·rintro⟨ts,e1,us,e2,h,q⟩
  exact⟨_,_,by simp[e1,e2,h],q⟩
theorem aKK{g:List Bool->Bool}{t:T}:wpO (aGO g [t] C) Q↔∃us,liT C t=some us/\∃ns,bls? us=some ns/\Q (.bl (g ns)) C:=by
 unfold wpO aGO;constructor
 ·rintro⟨t,C',e,q⟩;obtain⟨ts,e1,e⟩:=aK.mp e;obtain⟨ns,e2,e⟩:=aL.mp e;cases e;exact⟨ts,e1,ns,e2,q⟩
 ·rintro⟨ts,e1,us,e2,q⟩
  exact⟨_,_,by simp[e1,e2],q⟩
theorem aH0{g:Int->Int->Int}:wpO (gI2 g [.int i,.int j] C) Q↔Q (.int (g i j)) C:=nF
theorem aIh:wpO (gI2 (fun i j=>if j<i then j else i) [.int i,.int j] C) Q↔Q (.int (min i j)) C:=by
 rw[aH0,show(if j<i then j else i)=min i j by lia]
theorem aG4:wpO (gI2 (fun i j=>if j>i then j else i) [.int i,.int j] C) Q↔Q (.int (max i j)) C:=by
 rw[aH0,show(if j>i then j else i)=max i j by lia]
theorem aEL{i:Bool}:wpO (aDU [.bl i] C) Q↔Q (.int (if i then 1 else 0)) C:=nF
theorem aJ2:wpO (aHr (.int i) C) Q↔Q (.int (-i)) C:=nF
theorem aIP{k:String}:wpE (aBr k a) τ C Q↔wpE a τ C fun t C1=>∃x,aLf k t=some x/\Q (.bl x) C1:=by
 unfold aBr;rw[aDe];unfold wpE wpO;constructor
 ·rintro⟨t,C',e,t2,C2,e2,q⟩;obtain⟨x,e3,e2⟩:=aL.mp e2;cases e2
  exact⟨t,_,e,x,e3,q⟩
 ·rintro⟨t,C',e,x,e2,q⟩
  exact⟨t,C',e,_,_,by simp[e2],q⟩
theorem aLI{n:Bool}{t:T}:wpO (gEq n t u C) Q↔∃x,dr 3 C t=some x/\∃y,dr 3 C u=some y/\∃k,eqT 5 x y=some k/\Q (.bl (if n then !k else k)) C:=by
 unfold wpO gEq;constructor
 ·rintro⟨t,C',e,q⟩;obtain⟨x,e1,e⟩:=aK.mp e;obtain⟨y,e2,e⟩:=aK.mp e;obtain⟨k,e3,e⟩:=aL.mp e;cases e
  exact⟨x,e1,y,e2,k,e3,q⟩
 ·rintro⟨x,e1,y,e2,k,e3,q⟩
  exact⟨_,_,by simp[e1,e2,e3],q⟩
theorem aNk{n:Bool}{t:T}:wpO (gIn n t u C) Q↔∃x,dr 3 C t=some x/\∃ts,liT C u=some ts/\∃us,mapO (dr 3 C) ts=some us/\∃k,inL (fun w=>eqT 5 w x) us=some k/\Q (.bl (if n then !k else k)) C:=by
 unfold wpO gIn;constructor
 ·rintro⟨t,C',e,q⟩;obtain⟨x,e1,e⟩:=aK.mp e;obtain⟨y,e2,e⟩:=aK.mp e;obtain⟨z,e4,e⟩:=aK.mp e;obtain⟨k,e3,e⟩:=aL.mp e;cases e
  exact⟨x,e1,y,e2,z,e4,k,e3,q⟩
 ·rintro⟨x,e1,y,e2,z,e4,k,e3,q⟩
  exact⟨_,_,by simp[e1,e2,e3,e4],q⟩
theorem aId{n:Nat}{ts:List T}(hl:ts.length=n)(hc:CFs ts=true):wpO (gY n R ts C) Q↔wpR (R ts) fun t=>Q t C:=by
 unfold wpO gY wpR;rw[if_pos hl,if_pos hc];constructor
 ·rintro⟨t,C',e,q⟩;obtain⟨x,e1,e⟩:=aL.mp e;cases e;exact⟨_,e1,q⟩
 ·rintro⟨t,e,q⟩
  exact⟨_,_,by simp[e],q⟩
theorem fN{n:Nat}{ts:List T}{t:T}(e:R ts=some t)(hl:ts.length=n)(hc:CFs ts=true):wpO (gY n R ts C) Q↔Q t C:=by
 rw[aId hl hc,e];unfold wpR;constructor
 ·rintro⟨_,e,q⟩;cases e;exact q
 ·exact fun q=>⟨_,rfl,q⟩
theorem sT{n:Nat}{ts us:List T}(hl:ts.length=n)(hu:mapO (dr 3 C) ts=some us)(h:wpR (R us) fun t=>sca t=true/\Q t C):wpO (gY n R ts C) Q:=by
 unfold wpO gY;obtain⟨t,e,hs,q⟩:=h;rw[if_pos hl];split
 ·rename_i hc;have:us=ts:=by
   have hi:=aAV.mp hc;clear hl hc e;induction ts generalizing us with
   |nil=>cases hu;rfl
   |cons t ts ih=>
    obtain⟨u,e1,hu⟩:=aK.mp hu;obtain⟨r,e2,hu⟩:=aL.mp hu;cases hu;have h1:=hi t bJ;rw[ih e2 fun t h=>hi t (aZ _ h)];have:u=t:=by
     cases t<;>simp_all [dr,CF]
    rw[this]
  rw[<-this,e]
  exact⟨_,_,rfl,q⟩
 ·rw[hu]
  exact⟨t,C,by simp[e,hs],q⟩
theorem j0:wpB (iJ a) τ C QB↔wpE a τ C fun t C1=>∃x,t=.bl x/\QB x C1:=by
 unfold wpB wpE iJ;constructor
 ·rintro⟨t,C',e,q⟩;obtain⟨⟨x,C1⟩,e1,e⟩:=aK.mp e;dsimp only at e;split at e
  ·cases e;exact⟨_,_,e1,_,rfl,q⟩
  ·cases e
 ·rintro⟨x,C1,e1,y,rfl,q⟩
  exact⟨y,C1,by simp[e1],q⟩
theorem vH:wpB (nY a) τ C QB↔wpE a τ C fun t C1=>∃x,aMg C1 t=some x/\QB x C1:=by
 unfold wpB wpE nY;constructor
 ·rintro⟨t,C',e,q⟩;obtain⟨⟨x,C1⟩,e1,e⟩:=aK.mp e;obtain⟨y,e2,e⟩:=aL.mp e;cases e
  exact⟨_,_,e1,_,e2,q⟩
 ·rintro⟨x,C1,e1,y,e2,q⟩
  exact⟨y,C1,by simp[e1,e2],q⟩
theorem aA8:wpB (nU ga gb) τ C QB↔wpB ga τ C fun x C1=>if x=true then wpB gb τ C1 QB else QB false C1:=by
 unfold wpB nU;constructor
 ·rintro⟨t,C',e,q⟩;obtain⟨⟨x,C1⟩,e1,e⟩:=aK.mp e
  refine⟨x,C1,e1,?_⟩
  dsimp only at e;split at e
  ·rw[if_pos ‹_›];exact⟨t,C',e,q⟩
  ·cases e;rw[if_neg ‹_›];exact q
 ·rintro⟨x,C1,e1,q⟩;split at q
  ·obtain⟨t,C',e,q⟩:=q
   exact⟨t,C',by simp_all,q⟩
  ·exact⟨false,C1,by simp_all,q⟩
theorem aMT:wpB (aCA ga gb) τ C QB↔wpB ga τ C fun x C1=>if x=true then QB true C1 else wpB gb τ C1 QB:=by
 unfold wpB aCA;constructor
 ·rintro⟨t,C',e,q⟩;obtain⟨⟨x,C1⟩,e1,e⟩:=aK.mp e
  refine⟨x,C1,e1,?_⟩
  dsimp only at e;split at e
  ·cases e;rw[if_pos ‹_›];exact q
  ·rw[if_neg ‹_›];exact⟨t,C',e,q⟩
 ·rintro⟨x,C1,e1,q⟩;split at q
  ·exact⟨true,C1,by simp_all,q⟩
  ·obtain⟨t,C',e,q⟩:=q
   exact⟨t,C',by simp_all,q⟩
theorem aJu:wpB (oU ga) τ C QB↔wpB ga τ C fun x C1=>QB (!x) C1:=by
 unfold wpB oU;constructor
 ·rintro⟨t,C',e,q⟩;obtain⟨⟨x,C1⟩,e1,e⟩:=aL.mp e;cases e
  exact⟨x,_,e1,q⟩
 ·rintro⟨x,C1,e1,q⟩
  exact⟨_,C1,by simp[e1],q⟩
theorem aID:wpE (uF a b) τ C Q↔wpE a τ C fun t C1=>∃x,t=.bl x/\if x=true then wpE b τ C1 Q else Q (.bl false) C1:=by
 unfold wpE uF;constructor
 ·rintro⟨t,C',e,q⟩;obtain⟨⟨x,C1⟩,e1,e⟩:=aK.mp e
  refine⟨x,C1,e1,?_⟩
  dsimp only at e;split at e
  ·exact⟨true,rfl,by rw[if_pos rfl];exact⟨t,C',e,q⟩⟩
  ·cases e;exact⟨false,rfl,by rw[if_neg (by simp)];exact q⟩
  ·cases e
 ·rintro⟨x,C1,e1,y,rfl,q⟩;split at q
  ·obtain⟨t,C',e,q⟩:=q
   exact⟨t,C',by simp_all,q⟩
  ·exact⟨.bl false,C1,by simp_all,q⟩
theorem aJQ:wpE (y6 a) τ C Q↔wpE a τ C fun t C1=>∃x,t=.bl x/\Q (.bl (!x)) C1:=by
 unfold wpE y6;constructor
 ·rintro⟨t,C',e,q⟩;obtain⟨⟨x,C1⟩,e1,e⟩:=aK.mp e;dsimp only at e;split at e
  ·cases e;exact⟨_,_,e1,_,rfl,q⟩
  ·cases e
 ·rintro⟨x,C1,e1,y,rfl,q⟩
  exact⟨_,C1,by simp[e1],q⟩
theorem aKi:wpE (aMV ga a b) τ C Q↔wpB ga τ C fun x C1=>if x=true then wpE a τ C1 Q else wpE b τ C1 Q:=by
 unfold wpB wpE aMV;constructor
 ·rintro⟨t,C',e,q⟩;obtain⟨⟨x,C1⟩,e1,e⟩:=aK.mp e
  refine⟨x,C1,e1,?_⟩
  dsimp only at e;split at e
  ·rw[if_pos ‹_›];exact⟨t,C',e,q⟩
  ·rw[if_neg ‹_›];exact⟨t,C',e,q⟩
 ·rintro⟨x,C1,e1,q⟩;split at q
  ·obtain⟨t,C',e,q⟩:=q
   exact⟨t,C',by simp_all,q⟩
  ·obtain⟨t,C',e,q⟩:=q
   exact⟨t,C',by simp_all,q⟩
theorem aEP{p q:Int->Int->Bool}:wpE (tJ a b c p q) τ C Q↔wpE a τ C fun x C1=>wpE b τ C1 fun y C2=>∃i j,x=.int i/\y=.int j/\if p i j=true then wpE c τ C2 (fun z C3=>∃l,z=.int l/\Q (.bl (q j l)) C3)else Q (.bl false) C2:=by
 unfold wpE tJ;constructor
 ·rintro⟨t,C',e,q⟩;obtain⟨⟨x,C1⟩,e1,e⟩:=aK.mp e;obtain⟨⟨y,C2⟩,e2,e⟩:=aK.mp e
  refine⟨x,C1,e1,y,C2,e2,?_⟩
  dsimp only at e;split at e
  ·refine⟨_,_,rfl,rfl,?_⟩
   split at e
   ·rw[if_pos ‹_›];obtain⟨⟨z,C3⟩,e3,e⟩:=aK.mp e;dsimp only at e;split at e
    ·cases e;exact⟨_,_,e3,_,rfl,q⟩
    ·cases e
   ·rw[if_neg ‹_›];cases e;exact q
  ·cases e
 ·rintro⟨x,C1,e1,y,C2,e2,i,j,rfl,rfl,h⟩;split at h
  ·obtain⟨z,C3,e3,l,rfl,q⟩:=h
   exact⟨_,C3,by simp_all,q⟩
  ·exact⟨_,C2,by simp_all,h⟩
theorem iL:wpS iC τ C QS↔QS .nx τ C:=by
 unfold wpS iC;constructor
 ·rintro⟨_,_,_,e,q⟩;cases e;exact q
 ·exact fun q=>⟨_,_,_,rfl,q⟩
def sq(G:FS)(Q:Fl->TSt->Sto->Prop)(l:Fl)(τ:TSt)(C:Sto):Prop:=match l with
 | .nx=>wpS G τ C Q
 |l=>Q l τ C
theorem fO:wpS (fE F G) τ C QS↔wpS F τ C (sq G QS):=by
 unfold wpS fE;constructor
 ·rintro⟨l,t,C',e,q⟩;obtain⟨⟨l1,t1,C1⟩,e1,e⟩:=aK.mp e
  refine⟨l1,t1,C1,e1,?_⟩
  cases l1<;>first| (cases e;exact q)|exact⟨l,t,C',e,q⟩
 ·rintro⟨l1,t1,C1,e1,h⟩;cases l1 with
  |nx=>obtain⟨l,t,C',e,q⟩:=h;exact⟨l,t,C',by rw[e1];exact e,q⟩
  |_=>exact⟨_,t1,C1,by rw[e1];rfl,h⟩
theorem gR:sq G QS .nx τ C↔wpS G τ C QS:=aPj
theorem aNS{t:T}:sq G QS (.rt t) τ C↔QS (.rt t) τ C:=aPj
theorem aNA{c:String}:sq G QS (.ex c) τ C↔QS (.ex c) τ C:=aPj
theorem aN8:sq G QS .bk τ C↔QS .bk τ C:=aPj
theorem aNI:sq G QS .ct τ C↔QS .ct τ C:=aPj
theorem l6:wpS (fIf ga F G) τ C QS↔wpB ga τ C fun x C1=>if x=true then wpS F τ C1 QS else wpS G τ C1 QS:=by
 unfold wpB wpS fIf;constructor
 ·rintro⟨l,t,C',e,q⟩;obtain⟨⟨x,C1⟩,e1,e⟩:=aK.mp e
  refine⟨x,C1,e1,?_⟩
  dsimp only at e;split at e
  ·rw[if_pos ‹_›];exact⟨l,t,C',e,q⟩
  ·rw[if_neg ‹_›];exact⟨l,t,C',e,q⟩
 ·rintro⟨x,C1,e1,q⟩;split at q
  ·obtain⟨l,t,C',e,q⟩:=q
   exact⟨l,t,C',by simp_all,q⟩
  ·obtain⟨l,t,C',e,q⟩:=q
   exact⟨l,t,C',by simp_all,q⟩
theorem jN:wpS (gT a) τ C QS↔wpE a τ C fun t C1=>QS (.rt t) τ C1:=by
 unfold wpE wpS gT;constructor
 ·rintro⟨l,t,C',e,q⟩;obtain⟨⟨x,C1⟩,e1,e⟩:=aL.mp e;cases e
  exact⟨x,_,e1,q⟩
 ·rintro⟨x,C1,e1,q⟩
  exact⟨_,_,C1,by simp[e1],q⟩
theorem o9:wpS (mO a) τ C QS↔wpE a τ C fun t C1=>QS .nx τ C1:=by
 unfold wpE wpS mO;constructor
 ·rintro⟨l,t,C',e,q⟩;obtain⟨⟨x,C1⟩,e1,e⟩:=aL.mp e;cases e
  exact⟨x,_,e1,q⟩
 ·rintro⟨x,C1,e1,q⟩
  exact⟨_,_,C1,by simp[e1],q⟩
theorem gF{g:FG}:wpS (fM a g) τ C QS↔wpE a τ C fun t C1=>wpG g t C1 τ fun aq=>QS .nx aq C1:=by
 unfold wpE wpS wpG fM;constructor
 ·rintro⟨l,t,C',e,q⟩;obtain⟨⟨x,C1⟩,e1,e⟩:=aK.mp e;obtain⟨aq,e2,e⟩:=aL.mp e;cases e
  exact⟨x,_,e1,_,e2,q⟩
 ·rintro⟨x,C1,e1,aq,e2,q⟩
  exact⟨_,_,C1,by simp[e1,e2],q⟩
theorem gQ{i:Nat}{t:T}:wpG (gN i) t C τ QG↔QG (τ.set i (some t)):=by
 unfold wpG gN;constructor
 ·rintro⟨_,e,q⟩;cases e;exact q
 ·exact fun q=>⟨_,rfl,q⟩
theorem aDE{is:List Nat}{t:T}:wpG (gU is) t C τ QG↔∃ts,sqT C t=some ts/\ts.length=is.length/\QG (setAll is ts τ):=by
 unfold wpG gU;constructor
 ·rintro⟨_,e,q⟩;obtain⟨ts,e1,e⟩:=aK.mp e;split at e
  ·cases e;exact⟨ts,e1,‹_›,q⟩
  ·cases e
 ·rintro⟨ts,e1,h,q⟩
  exact⟨_,by simp[e1,h],q⟩
theorem rQ:wpS (oY fe fo fi) τ C QS↔wpE fe τ C fun x C1=>wpE fo τ C1 fun y C2=>wpE fi τ C2 fun z C3=>∃k i,y=.cell k/\z=.int i/\∃ts,lc C3 k=some ts/\∃j,ixN ts.length i=some j/\QS .nx τ (C3.set k (.l,ts.set j x)):=by
 unfold wpE wpS oY;constructor
 ·rintro⟨l,t,C',e,q⟩;obtain⟨⟨x,C1⟩,e1,e⟩:=aK.mp e;obtain⟨⟨y,C2⟩,e2,e⟩:=aK.mp e;obtain⟨⟨z,C3⟩,e3,e⟩:=aK.mp e
  refine⟨x,C1,e1,y,C2,e2,z,C3,e3,?_⟩
  dsimp only at e;split at e
  ·obtain⟨ts,e4,e⟩:=aK.mp e;obtain⟨j,e5,e⟩:=aL.mp e;cases e
   exact⟨_,_,rfl,rfl,ts,e4,j,e5,q⟩
  ·cases e
 ·rintro⟨x,C1,e1,y,C2,e2,z,C3,e3,k,i,rfl,rfl,ts,e4,j,e5,q⟩
  exact⟨_,_,_,by simp[e1,e2,e3,e4,e5],q⟩
theorem aAu{g:List T->List T->Option (List T)}:wpS (aFN a fa g) τ C QS↔wpE a τ C fun x C1=>wpA fa τ C1 fun xs C2=>∃k,x=.cell k/\(lc C1 k).isSome=true/\∃ts,lc C2 k=some ts/\wpL (g ts xs) fun us=>QS .nx τ (C2.set k (.l,us)):=by
 unfold wpE wpA wpS aFN wpL;constructor
 ·rintro⟨l,t,C',e,q⟩;obtain⟨⟨x,C1⟩,e1,e⟩:=aK.mp e;obtain⟨⟨y,C2⟩,e2,e⟩:=aK.mp e
  refine⟨x,C1,e1,y,C2,e2,?_⟩
  dsimp only at e;split at e
  ·obtain⟨t0,e3,e⟩:=aK.mp e;obtain⟨ts,e4,e⟩:=aK.mp e;obtain⟨j,e5,e⟩:=aL.mp e;cases e
   exact⟨_,rfl,cU.mpr ⟨_,e3⟩,ts,e4,j,e5,q⟩
  ·cases e
 ·rintro⟨x,C1,e1,y,C2,e2,k,rfl,e3,ts,e4,j,e5,q⟩;obtain⟨t0,e3⟩:=cU.mp e3
  exact⟨_,_,_,by simp[e1,e2,e3,e4,e5],q⟩
theorem aAm{ts:List T}{y:T}:wpL (aBv ts [y]) Ql↔ts.length<lim/\Ql (ts++[y]):=by
 unfold wpL aBv;by_cases h:ts.length<lim<;>simp[h]
theorem aJN{ts:List T}{y:T}:wpL (aCh ts [.int i,y]) Ql↔(ts.length<lim/\ -(2^63)<=i/\i<2^63)/\Ql (insAt ts i y):=by
 unfold wpL aCh;by_cases h:ts.length<lim/\ -(2^63)<=i/\i<2^63
 ·simp only[if_pos h,cH.injEq,exists_eq_left',and_iff_right h]
 ·simp only[if_neg h,reduceCtorEq,false_and,exists_false]
  exact⟨False.elim,fun(z:_/\_)=>h z.1⟩
theorem aLk{g:FG}(I:Nat->TSt->Sto->Prop){ts:List T}(h0:I 0 τ C)
 (hs:∀i t τ C,ts[i]?=some t->I i τ C->wpG g t C τ fun aq=>wpS F aq C fun l ap C2=>match l with
  | .nx=>P C2/\I (i+1) ap C2
  | .ct=>P C2/\I (i+1) ap C2
  | .bk=>QS .nx ap C2
  | .rt v=>QS (.rt v) ap C2
  | .ex v=>QS (.ex v) ap C2)
 (hq:∀τ C,I ts.length τ C->QS .nx τ C):wpS (j9 P g F ts) τ C QS:=by
 induction ts generalizing τ C I with
 |nil=>exact⟨.nx,τ,C,by simp[j9],hq _ _ h0⟩
 |cons t ts ih=>
  obtain⟨aq,e1,l,ap,C2,e2,h2⟩:=hs 0 t τ C rfl h0;have go:P C2/\I 1 ap C2->wpS (j9 P g F ts) ap C2 QS:=fun h=>ih (fun i=>I (i+1)) h.2 (fun i t τ C e h=>hs (i+1) t τ C e h) (fun τ C h=>hq τ C h)
  cases l with
  |nx=>
   obtain⟨l,t',C',e,q⟩:=go h2
   exact⟨l,t',C',by simp[j9,e1,e2,h2.1,e],q⟩
  |ct=>
   obtain⟨l,t',C',e,q⟩:=go h2
   exact⟨l,t',C',by simp[j9,e1,e2,h2.1,e],q⟩
  |bk=>exact⟨.nx,ap,C2,by simp[j9,e1,e2],h2⟩
  |rt v=>exact⟨.rt v,ap,C2,by simp[j9,e1,e2],h2⟩
  |ex v=>exact⟨.ex v,ap,C2,by simp[j9,e1,e2],h2⟩
theorem p9{g:FG}:wpS (oE a g F) τ C QS↔wpE a τ C fun t C1=>∃ts,liT C1 t=some ts/\wpS (j9 (stays t ts) g F ts) τ C1 QS:=by
 unfold wpE wpS oE;constructor
 ·rintro⟨l,t,C',e,q⟩;obtain⟨⟨x,C1⟩,e1,e⟩:=aK.mp e;obtain⟨ts,e2,e⟩:=aK.mp e
  exact⟨x,C1,e1,ts,e2,l,t,C',e,q⟩
 ·rintro⟨x,C1,e1,ts,e2,l,t,C',e,q⟩
  exact⟨l,t,C',by simp[e1,e2,e],q⟩
theorem nT{g:FG}:wpS (kA a g F) τ C QS↔wpE a τ C fun t C1=>∃j,t=.int j/\(-(2^62)<=j/\j<2^62)/\wpS (j9 (fun _=>True) g F (uN 0 j.toNat)) τ C1 QS:=by
 unfold wpE wpS kA;constructor
 ·rintro⟨l,t,C',e,q⟩;obtain⟨⟨x,C1⟩,e1,e⟩:=aK.mp e;dsimp only at e;split at e
  ·split at e
   ·exact⟨_,C1,e1,_,rfl,‹_›,l,t,C',e,q⟩
   ·cases e
  ·cases e
 ·rintro⟨x,C1,e1,j,rfl,h,l,t,C',e,q⟩
  exact⟨l,t,C',by rw[e1];exact(if_pos h).trans e,q⟩
theorem aFi{g:FG}:wpS (o8 a b g F) τ C QS↔wpE a τ C fun t C1=>wpE b τ C1 fun u C2=>∃i j,t=.int i/\u=.int j/\(-(2^62)<=i/\i<2^62/\ -(2^62)<=j/\j<2^62)/\wpS (j9 (fun _=>True) g F (uN i (j - i).toNat)) τ C2 QS:=by
 unfold wpE wpS o8;constructor
 ·rintro⟨l,t,C',e,q⟩;obtain⟨⟨x,C1⟩,e1,e⟩:=aK.mp e;obtain⟨⟨y,C2⟩,e2,e⟩:=aK.mp e;dsimp only at e;split at e
  ·split at e
   ·exact⟨_,C1,e1,_,C2,e2,_,_,rfl,rfl,‹_›,l,t,C',e,q⟩
   ·cases e
  ·cases e
 ·rintro⟨x,C1,e1,y,C2,e2,i,j,rfl,rfl,h,l,t,C',e,q⟩
  exact⟨l,t,C',by rw[e1];show((b τ C1).bind _)=_;rw[e2];exact(if_pos h).trans e,q⟩
theorem jS{α:Type}{g:FG}{en:α->T}{xs:List α}(I:Nat->TSt->Sto->Prop)(h0:I 0 τ C)
 (hs:∀i x τ C,xs[i]?=some x->I i τ C->wpG g (en x) C τ fun aq=>wpS F aq C fun l ap C2=>match l with
  | .nx=>P C2/\I (i+1) ap C2
  | .ct=>P C2/\I (i+1) ap C2
  | .bk=>QS .nx ap C2
  | .rt v=>QS (.rt v) ap C2
  | .ex v=>QS (.ex v) ap C2)
 (hq:∀τ C,I xs.length τ C->QS .nx τ C):wpS (j9 P g F (xs.map en)) τ C QS:=by
 refine aLk I h0 (fun i t τ C e h=>?_) (fun τ C h=>hq τ C (by simpa using h))
 rw[bM]at e;obtain⟨x,ex,rfl⟩:=aL.mp e
 exact hs i x τ C ex h
theorem lO{g:FG}{n:Nat}(I:Nat->TSt->Sto->Prop)(h0:I 0 τ C)
 (hs:∀i τ C,i<n->I i τ C->wpG g (.int (lo+(i:Int))) C τ fun aq=>wpS F aq C fun l ap C2=>match l with
  | .nx=>P C2/\I (i+1) ap C2
  | .ct=>P C2/\I (i+1) ap C2
  | .bk=>QS .nx ap C2
  | .rt v=>QS (.rt v) ap C2
  | .ex v=>QS (.ex v) ap C2)
 (hq:∀τ C,I n τ C->QS .nx τ C):wpS (j9 P g F (uN lo n)) τ C QS:=by
 refine jS I h0 (fun i x τ C e h=>?_) (fun τ C h=>hq τ C (by simpa using h))
 obtain⟨hi,hx⟩:=aR.mp e;rw[eQ]at hx;subst hx
 exact hs _ τ C (by simpa using hi) h
theorem kO{k:Nat}{is:List Nat}{g:FG}:wpA (jP a k is g fb fe) τ C QL↔wpE a τ C fun t C1=>∃ts,liT C1 t=some ts/\ts.length<lim/\wpC (jR g fb fe (scT k is τ) ts C1) QL:=by
 unfold wpE wpA jP wpC;constructor
 ·rintro⟨t,C',e,q⟩;obtain⟨⟨x,C1⟩,e1,e⟩:=aK.mp e;obtain⟨ts,e2,e⟩:=aK.mp e;split at e
  ·exact⟨x,C1,e1,ts,e2,‹_›,t,C',e,q⟩
  ·cases e
 ·rintro⟨x,C1,e1,ts,e2,h,t,C',e,q⟩
  exact⟨t,C',by simp[e1,e2,h,e],q⟩
theorem n4{k:Nat}{is:List Nat}{g:FG}:wpA (jO a k is g fb fe) τ C QL↔wpE a τ C fun t C1=>∃j,t=.int j/\(j<50000/\ -(2^62)<=j)/\wpC (jR g fb fe (scT k is τ) (uN 0 j.toNat) C1) QL:=by
 unfold wpE wpA jO wpC;constructor
 ·rintro⟨t,C',e,q⟩;obtain⟨⟨x,C1⟩,e1,e⟩:=aK.mp e;dsimp only at e;split at e
  ·split at e
   ·exact⟨_,C1,e1,_,rfl,‹_›,t,C',e,q⟩
   ·cases e
  ·cases e
 ·rintro⟨x,C1,e1,j,rfl,h,t,C',e,q⟩
  exact⟨t,C',by rw[e1];exact(if_pos h).trans e,q⟩
theorem aFm{k:Nat}{is:List Nat}{g:FG}:wpA (qV a b k is g fb fe) τ C QL↔wpE a τ C fun t C1=>wpE b τ C1 fun u C2=>∃ts,liT C2 t=some ts/\∃us,liT C2 u=some us/\(yI ts us).length<lim/\wpC (jR g fb fe (scT k is τ) (yI ts us) C2) QL:=by
 unfold wpE wpA qV wpC;constructor
 ·rintro⟨t,C',e,q⟩;obtain⟨⟨x,C1⟩,e1,e⟩:=aK.mp e;obtain⟨⟨y,C2⟩,e2,e⟩:=aK.mp e;obtain⟨ts,e3,e⟩:=aK.mp e;obtain⟨us,e4,e⟩:=aK.mp e;split at e
  ·exact⟨x,C1,e1,y,C2,e2,ts,e3,us,e4,‹_›,t,C',e,q⟩
  ·cases e
 ·rintro⟨x,C1,e1,y,C2,e2,ts,e3,us,e4,h,t,C',e,q⟩
  exact⟨t,C',by simp[e1,e2,e3,e4,h,e],q⟩
theorem rO{α:Type}{g:FG}{en:α->T}{xs:List α}(p:α->Bool)(u:α->T)
 (h:∀x∈xs,wpG g (en x) C τ fun aq=>wpB fb aq C fun y C1=>C1=C/\y=p x/\(p x=true->wpE fe aq C fun t C2=>C2=C/\t=u x))
 (hq:QL ((xs.filter p).map u) C):wpC (jR g fb fe τ (xs.map en) C) QL:=by
 refine⟨_,C,?_,hq⟩
 clear hq;induction xs with
 |nil=>rfl
 |cons x xs ih=>
  obtain⟨aq,e1,y,C1,e2,rfl,rfl,h3⟩:=h x bJ;have ih:=ih fun y hy=>h y (aZ _ hy)
  rw[aM];unfold jR;rw[e1,aX,e2,aX];by_cases hp:p x=true
  ·obtain⟨t,C2,e3,rfl,rfl⟩:=h3 hp;rw[if_pos hp,e3,aX,ih,List.filter_cons_of_pos hp,aDB];rfl
  ·rw[if_neg hp,aDB,ih,List.filter_cons_of_neg hp]
theorem gG{α:Type}{g:FG}{en:α->T}{xs:List α}(u:α->T)
 (h:∀x∈xs,wpG g (en x) C τ fun aq=>wpE fe aq C fun t C2=>C2=C/\t=u x)
 (hq:QL (xs.map u) C):wpC (jR g gS fe τ (xs.map en) C) QL:=
 rO (fun _=>true) u (fun x hx=>let ⟨aq,e,q⟩:=h x hx;⟨aq,e,true,C,rfl,rfl,rfl,fun _=>q⟩) (by rw[List.filter_eq_self.mpr (fun _ _=>rfl)];exact hq)
theorem nP{n:Nat}:uN lo n=(bL n).map fun(i:Nat)=>T.int (lo+(i:Int)):=rfl
theorem aBE{α β:Type}{f:α->T}{g:β->T}{xs:List α}{ys:List β}:yI (xs.map f) (ys.map g)=(xs.zip ys).map fun p=>.tup [f p.1,g p.2]:=by
 unfold yI;rw[List.zip_map,b7];rfl
theorem hJ{B:FS}{m:Nat}{ts:List T}{t:T}(h:wpS B (st0 m ts) [] fun l τ C=>match l with
 | .rt r=>dr 3 C r=some t
 | .nx=>t=.non
 |_=>False):iW B m ts=some t:=by
 obtain⟨l,τ,C,e,q⟩:=h;unfold iW;rw[e];cases l with
 |nx=>cases q;rfl
 |rt r=>exact q
 |_=>exact q.elim
end
variable{i j:Int}{c:Nat}
theorem fJ{α:Type}{o:Option α}{y:α}{p:α->Prop}(e:o=some y):(∃x,o=some x/\p x)↔p y:=by
 constructor
 ·rintro⟨x,e',h⟩;rw[e]at e';cases e'
  exact h
 ·exact fun h=>⟨y,e,h⟩
def Bt(k:Nat)(n:Int):Prop:=n.natAbs<2^k
theorem Bt.bits{n:Int}{k:Nat}(h:Bt k n):Builtin.Int.intBits n<=k:=by
 unfold Builtin.Int.intBits;unfold Bt at h;by_cases z:n=0
 ·subst z;exact d3 _
 ·have:(n==0)=false:=by simpa using z
  rw[this];have:=(aQv (by lia)).mpr h;simp
  lia
theorem Bt.mono{n:Int}{k m:Nat}(h:Bt k n)(hm:k<=m):Bt m n:=bS h (aO0 (by decide) hm)
theorem Bt.mul{x y:Int}{k m:Nat}(h:Bt k x)(h':Bt m y):Bt (k+m) (x*y):=by
 unfold Bt at*;rw[Int.natAbs_mul,Nat.pow_add]
 exact Nat.mul_lt_mul'' h h'
theorem Bt.add{x y:Int}{k:Nat}(h:Bt k x)(h':Bt k y):Bt (k+1) (x+y):=by
 unfold Bt at*;rw[aQl]
 lia
theorem Bt.sub{x y:Int}{k:Nat}(h:Bt k x)(h':Bt k y):Bt (k+1) (x - y):=by
 unfold Bt at*;rw[aQl]
 lia
theorem Bt.of_lt{x:Int}{k:Nat}(h1:0<=x)(h2:x<2^k):Bt k x:=by
 unfold Bt;have:((x.natAbs:Nat):Int)<((2^k:Nat):Int):=by
  rw[aPB h1];simpa using h2
 exact aQj.mp this
theorem mP{m n:Nat}(h1:Bt m i)(h2:Bt n j)(h:m+n<=134217728):jY i j=true:=by
 have h1:=h1.bits;have h2:=h2.bits;have h':Builtin.Int.intTooBig (Builtin.Int.intBits i+Builtin.Int.intBits j)=false:=by
  unfold Builtin.Int.intTooBig bitsLine
  exact decide_eq_false (by lia)
 unfold jY;rw[h'];simp
theorem fZ(h1:Bt 64 i):jY i j=true:=by
 have:=h1.bits;unfold jY shortFactorBits;rw[show decide (Builtin.Int.intBits i>64)=false from decide_eq_false (by lia)];simp
theorem f8(h1:Bt 64 j):jY i j=true:=by
 have:=h1.bits;unfold jY shortFactorBits;rw[show decide (Builtin.Int.intBits j>64)=false from decide_eq_false (by lia)];simp
theorem Bt.mod{x m:Int}{k:Nat}(h1:0<m)(h2:m<=2^k):Bt k (x%m):=
 .of_lt (dX _ (by lia)) (Int.lt_of_lt_of_le (dN _ h1) h2)
theorem v4{n:Nat}(h0:0<=i)(h:i<n):ixN n i=some i.toNat:=by
 unfold ixN;rw[if_pos h0,if_pos h]
theorem aIB{n j:Nat}(h:j<n):ixN n (j:Int)=some j:=by
 rw[v4 (by lia) (by lia)];rfl
theorem pM{α:Type}{xs:List α}(h0:0<=i):atI xs i=xs[i.toNat]?:=by
 unfold atI ixN;rw[if_pos h0];by_cases h:i<xs.length
 ·rw[if_pos h];rfl
 ·rw[if_neg h,dE (by lia)];rfl
theorem rR{α:Type}{xs:List α}{j:Nat}:atI xs (j:Int)=xs[j]?:=pM (by lia)
theorem aB2{α:Type}{x:α}{xs:List α}:atI (x::xs) 0=some x:=by rw[pM (by decide)];rfl
theorem aBs{α:Type}{x y:α}{xs:List α}:atI (x::y::xs) 1=some y:=by rw[pM (by decide)];rfl
theorem aHK{α:Type}{x y z:α}{xs:List α}:atI (x::y::z::xs) 2=some z:=by rw[pM (by decide)];rfl
theorem aAe{x y:Int}:atI [T.int x,T.int y] (i%2)=some (.int (if i%2=0 then x else y)):=by
 rcases(by lia:i%2=0\/i%2=1)with h|h<;>rw[h]<;>rfl
theorem f7:CFs []=true:=by unfold CFs;rfl
theorem fH{t:T}{ts:List T}:CFs (t::ts)=(CF t&&CFs ts):=by rw[CFs]
theorem fY:CF (.int i)=true:=by unfold CF;rfl
theorem kY{i:Bool}:CF (.bl i)=true:=by unfold CF;rfl
theorem fW{ts:List T}:CF (.lst ts)=CFs ts:=by rw[CF]
theorem j8{ts:List T}:CF (.tup ts)=CFs ts:=by rw[CF]
theorem aJa:CF (.cell c)=false:=by unfold CF;rfl
theorem qE{α:Type}{f:α->T}{xs:List α}(h:∀x∈xs,CF (f x)=true):CFs (xs.map f)=true:=aAV.mpr fun t ht=>by
 obtain⟨x,hx,rfl⟩:=bI.mp ht
 exact h x hx
theorem gZ{ns:List Int}:CFs (ns.map T.int)=true:=qE fun _ _=>fY
theorem iH{t:T}{n:Nat}{C:Sto}(h:CF t=true):dr n C t=some t:=by
 cases n with
 |zero=>unfold dr;rw[if_pos h]
 |succ n=>
  cases t with
  |cell c=>rw[aJa]at h;cases h
  |lst ts=>unfold dr;rw[fW]at h;rw[if_pos h]
  |tup ts=>unfold dr;rw[j8]at h;rw[if_pos h]
  |_=>unfold dr;rw[if_pos h]
theorem aJi{f:T->Option T}{ts:List T}(h:∀t∈ts,f t=some t):mapO f ts=some ts:=by
 induction ts with
 |nil=>rfl
 |cons t ts ih=>unfold mapO;rw[h t bJ,aX,ih fun u hu=>h u (aZ _ hu)];rfl
theorem aAg{ts:List T}{n:Nat}{C:Sto}(h:CFs ts=true):mapO (dr n C) ts=some ts:=aJi fun t ht=>iH (aAV.mp h t ht)
theorem rG{n:Nat}{C:Sto}{ts:List T}(e:lc C c=some ts)(h:CFs ts=true):dr (n+1) C (.cell c)=some (.lst ts):=by
 unfold dr;rw[e,aX,aAg h];rfl
theorem aCb{f:T->Option T}:mapO f []=some []:=rfl
theorem jC{f:T->Option T}{t u:T}{ts us:List T}(h:f t=some u)(hs:mapO f ts=some us):mapO f (t::ts)=some (u::us):=by
 unfold mapO;rw[h,aX,hs];rfl
theorem aJ5{n:Nat}:eqT n (.int i) (.int j)=some (i==j):=by cases n<;>rfl
theorem pO{α:Type}{xs:List α}{f:α->Int}:ints? (xs.map fun x=>T.int (f x))=some (xs.map f):=by
 rw[show(xs.map fun x=>T.int (f x))=(xs.map f).map T.int by simp];exact pZ _
theorem aKk{α:Type}{xs:List α}{f:α->Bool}:bls? (xs.map fun x=>T.bl (f x))=some (xs.map f):=by
 rw[show(xs.map fun x=>T.bl (f x))=(xs.map f).map T.bl by simp];exact aFW _
theorem sE{α:Type}{f:α->T}{xs:List α}{j:Nat}{x:α}:(xs.map f).set j (f x)=(xs.set j x).map f:=by rw[aQm]
theorem sS{n:Nat}(h:n<=1000):n<lim:=by unfold lim;lia
section
variable {τ:TSt}{C:Sto}{a b c f fe fo fi:FE}{fa fr fn:FN}{fb ga gb:FB}{F G:FS}{lo hi:FO}
variable {Q:T->Sto->Prop}{QL:List T->Sto->Prop}{QB:Bool->Sto->Prop}{QS:Fl->TSt->Sto->Prop}{QG:TSt->Prop}{Ql:List T->Prop}{QO:Option Int->Sto->Prop}
variable{l h:Option Int}{p:Int×Int×Int}{ns:List Int}{u:T}
def wpP(f:FO)(τ:TSt)(C:Sto)(Q:Option Int->Sto->Prop):Prop:=∃o C',f τ C=some (o,C')/\Q o C'
theorem aL2:wpP kF τ C QO↔QO none C:=by
 unfold wpP kF;constructor
 ·rintro⟨_,_,e,q⟩;cases e;exact q
 ·exact fun q=>⟨_,_,rfl,q⟩
theorem aF3:wpP (m5 a) τ C QO↔wpE a τ C fun t C1=>∃i,t=.int i/\QO (some i) C1:=by
 unfold wpP wpE m5;constructor
 ·rintro⟨t,C',e,q⟩;obtain⟨⟨x,C1⟩,e1,e⟩:=aK.mp e;dsimp only at e;split at e
  ·cases e;exact⟨_,_,e1,_,rfl,q⟩
  ·cases e
 ·rintro⟨x,C1,e1,y,rfl,q⟩
  exact⟨some y,C1,by simp[e1],q⟩
theorem aLC:wpA (fSl a lo hi) τ C QL↔wpE a τ C fun t C1=>wpP lo τ C1 fun l C2=>wpP hi τ C2 fun h C3=>∃ts,liT C3 t=some ts/\QL (aCL ts l h) C3:=by
 unfold wpA wpE wpP fSl;constructor
 ·rintro⟨t,C',e,q⟩;obtain⟨⟨x,C1⟩,e1,e⟩:=aK.mp e;obtain⟨⟨y,C2⟩,e2,e⟩:=aK.mp e;obtain⟨⟨z,C3⟩,e3,e⟩:=aK.mp e;obtain⟨ts,e4,e⟩:=aL.mp e;cases e
  exact⟨x,C1,e1,y,C2,e2,z,_,e3,ts,e4,q⟩
 ·rintro⟨x,C1,e1,y,C2,e2,z,C3,e3,ts,e4,q⟩
  exact⟨_,C3,by simp[e1,e2,e3,e4],q⟩
def vQ{α:Type}(xs:List α)(lo hi:Option Int):List α:=(xs.drop (HT.sIx xs.length 0 lo)).take (HT.sIx xs.length xs.length hi - HT.sIx xs.length 0 lo)
theorem rS{α:Type}{f:α->T}{xs:List α}:aCL (xs.map f) l h=(vQ xs l h).map f:=by
 unfold aCL vQ;simp[aQc,aQd]
theorem aGB{α:Type}{xs:List α}{x:α}(m:x∈vQ xs l h):x∈xs:=aPC (aO1 m)
theorem aH9{α:Type}{xs:List α}:(vQ xs l h).length<=xs.length:=by
 unfold vQ;simp;lia
theorem zN{α:Type}{xs:List α}{k:Int}(hk:0<=k):vQ xs (some k) none=xs.drop k.toNat:=by
 unfold vQ;have e:HT.sIx xs.length 0 (some k)=min k.toNat xs.length:=by
  show(if k<0 then(k+(xs.length:Int)).toNat else min k.toNat xs.length)=_;rw[if_neg (by lia)]
 rw[e,HT.aB8];by_cases h:k.toNat<=xs.length
 ·rw[aPt h,dZ (by simp)]
 ·rw[aPn (by lia),eR (by lia:xs.length<=xs.length),eR (by lia:xs.length<=k.toNat)];simp
theorem aAP{α:Type}{xs:List α}{k:Int}(hk:0<=k):vQ xs none (some k)=xs.take k.toNat:=by
 unfold vQ;have e:HT.sIx xs.length xs.length (some k)=min k.toNat xs.length:=by
  show(if k<0 then(k+(xs.length:Int)).toNat else min k.toNat xs.length)=_;rw[if_neg (by lia)]
 rw[e,HT.aB8,aP8,aQn];by_cases h:k.toNat<=xs.length
 ·rw[aPt h]
 ·rw[aPn (by lia),dZ (bG _),dZ (by lia)]
noncomputable def pT(p:Int×Int):T:=.lst [.int p.1,.int p.2]
noncomputable def w3(p:Int×Int×Int):T:=.lst [.int p.1,.int p.2.1,.int p.2.2]
noncomputable def iT(ns:List Int):T:=.lst (ns.map T.int)
theorem aOf{p:Int×Int}:CF (pT p)=true:=by simp[pT,fW,fH,f7,fY]
theorem aG8:CF (w3 p)=true:=by simp[w3,fW,fH,f7,fY]
theorem aK6:CF (iT ns)=true:=by rw[iT,fW];exact gZ
theorem j6{ps:List (Int×Int)}:CFs (ps.map pT)=true:=qE fun _ _=>aOf
theorem lY{ps:List (Int×Int×Int)}:CFs (ps.map w3)=true:=qE fun _ _=>aG8
theorem aLw{ps:List (List Int)}:CFs (ps.map iT)=true:=qE fun _ _=>aK6
theorem vL{n:Nat}{i j:Int}:eqT n (.int i) (.int j)=some (decide (i=j)):=by rw[aJ5];congr 1
theorem aD6{α:Type}[DecidableEq α]{e:T->T->Option Bool}{f:α->T}(h:∀x y,e (f x) (f y)=some (decide (x=y))){y:α}:∀{xs:List α},inL (fun u=>e u (f y)) (xs.map f)=some (decide (y∈xs))
 | []=>rfl
 |x::xs=>by
  rw[aM];unfold inL;rw[h,aX,aD6 h];simp only[aOP,cH.injEq,bE,Bool.decide_or];congr 1;by_cases z:x=y
  ·simp[z]
  ·simp[z,show¬y=x from fun q=>z q.symm]
theorem aIH{α:Type}[DecidableEq α]{n:Bool}{f:α->T}{y:α}{xs:List α}[Decidable (y∈xs)]{t:T}(h:∀x y,eqT 5 (f x) (f y)=some (decide (x=y)))(hc:∀x,CF (f x)=true)(ht:dr 3 C t=some (f y))(hu:liT C u=some (xs.map f)):
 wpO (gIn n t u C) Q↔Q (.bl (if n then !decide (y∈xs)else decide (y∈xs))) C:=by
 rw[aNk,fJ ht,fJ hu,fJ (aAg (qE fun x _=>hc x)),fJ ((aD6 h).trans (congrArg some (decide_eq_decide.mpr aPj)))]
theorem aDJ{α:Type}[DecidableEq α]{n:Bool}{f:α->T}{x y:α}{t:T}(h:∀x y,eqT 5 (f x) (f y)=some (decide (x=y)))(ht:dr 3 C t=some (f x))(hu:dr 3 C u=some (f y)):
 wpO (gEq n t u C) Q↔Q (.bl (if n then !decide (x=y)else decide (x=y))) C:=by
 rw[aLI,fJ ht,fJ hu,fJ (h x y)]
theorem aAh{i j:Int}:wpO (gEq false (.int i) (.int j) C) Q↔Q (.bl (decide (i=j))) C:=aDJ (f:=T.int) (fun _ _=>vL) (iH fY) (iH fY)
theorem aDW{i j:Int}:wpO (gEq true (.int i) (.int j) C) Q↔Q (.bl (!decide (i=j))) C:=aDJ (f:=T.int) (fun _ _=>vL) (iH fY) (iH fY)
theorem aDV{n:Bool}{i:Int}(h:liT C u=some (ns.map T.int)):wpO (gIn n (.int i) u C) Q↔Q (.bl (if n then !decide (i∈ns)else decide (i∈ns))) C:=aIH (f:=T.int) (fun _ _=>vL) (fun _=>fY) (iH fY) h
theorem aHk{n:Bool}{i:Int}:wpO (gIn n (.int i) (.lst (ns.map T.int)) C) Q↔Q (.bl (if n then !decide (i∈ns)else decide (i∈ns))) C:=aDV rfl
theorem aN9{x y:Bool}:(if false=true then x else y)=y:=rfl
theorem aNN{x y:Bool}:(if true=true then x else y)=x:=rfl
instance{k:Nat}{n:Int}:Decidable (Bt k n):=by unfold Bt;infer_instance
theorem Bt.zero{k:Nat}:Bt k 0:=Nat.two_pow_pos k
theorem Bt.sml{k:Nat}{n:Int}(h0:0<=n)(h:n<1024)(hk:10<=k):Bt k n:=(Bt.of_lt (k:=10) h0 h).mono hk
theorem aHl{t:T}{d:Int}:wpO (aBO t (.int d) C) Q↔∃us,liT C t=some us/\∃ns,ints? us=some ns/\Q (.int (jQ d ns)) C:=by
 unfold wpO aBO;constructor
 ·rintro⟨t,C',e,q⟩;obtain⟨us,e1,e⟩:=aK.mp e;obtain⟨ns,e2,e⟩:=aL.mp e;cases e
  exact⟨us,e1,ns,e2,q⟩
 ·rintro⟨us,e1,ns,e2,q⟩
  exact⟨_,C,by simp[e1,e2],q⟩
theorem aKC{ts:List T}:liT C (.lst ts)=some ts:=rfl
theorem aJ4{ts:List T}:lc ((.l,ts)::C) 0=some ts:=rfl
theorem aJK{x:Cl}{n:Nat}:lc (x::C) (n+1)=lc C n:=rfl
theorem aHA{c:Nat}:liT C (.cell c)=lc C c:=rfl
theorem aJD{ts:List T}:sqT C (.lst ts)=some ts:=rfl
theorem aHi{c:Nat}:sqT C (.cell c)=lc C c:=rfl
theorem aJc{ts:List T}:sqT C (.tup ts)=some ts:=rfl
theorem aMf{p:Int×Int}:sqT C (pT p)=some [.int p.1,.int p.2]:=rfl
theorem aM8:sqT C (w3 p)=some [.int p.1,.int p.2.1,.int p.2.2]:=rfl
theorem aL9{p:List Int}:sqT C (iT p)=some (p.map T.int):=rfl
theorem aLE{p:List Int}:liT C (iT p)=some (p.map T.int):=rfl
theorem aL5{p:Int×Int}:liT C (pT p)=some [.int p.1,.int p.2]:=rfl
theorem aMK:liT C (w3 p)=some [.int p.1,.int p.2.1,.int p.2.2]:=rfl
def frzQ(Q:Fl->TSt->Sto->Prop)(l:Fl)(τ:TSt)(C:Sto):Prop:=match l with
 | .nx=>∃ap,frz C τ=some ap/\Q .nx ap []
 |l=>Q l τ C
theorem aKJ:frzQ QS .nx τ C↔∃ap,frz C τ=some ap/\QS .nx ap []:=aPj
theorem aKe{t:T}:frzQ QS (.rt t) τ C↔QS (.rt t) τ C:=aPj
theorem aHT{b:Bool}:aMg C (.bl b)=some b:=rfl
end
variable{β:Type}{ps:List (Int×Int)}
theorem lF{B:FS}{m:Nat}{ts:List T}{P:T->Prop}(h:wpS B (st0 m ts) [] fun l τ C=>match l with
 | .rt r=>∃t,dr 3 C r=some t/\P t
 | .nx=>P .non
 |_=>False):∃t,iW B m ts=some t/\P t:=by
 obtain⟨l,τ,C,e,q⟩:=h;unfold iW;rw[e];cases l with
 |nx=>exact⟨_,rfl,q⟩
 |rt r=>exact q
 |_=>exact q.elim
theorem xF{α:Type}{xs:List α}{i:Int}{y:α}:(insAt xs i y).length=xs.length+1:=by
 unfold insAt;rw[bA,aN,d7,aOW]
 lia
theorem tR{α:Type}{f:α->β}{xs:List α}{i:Int}{y:α}:insAt (xs.map f) i (f y)=(insAt xs i y).map f:=by
 unfold insAt;simp[aQd,aQc]
theorem tZ{α:Type}{xs:List α}{i:Int}{y:α}:(insAt xs i y).Perm (y::xs):=by
 unfold insAt
 refine List.perm_middle.trans ?_
 rw[aPw]
theorem aAj{α:Type}{f:α->β}{xs:List α}{i:Int}:atI (xs.map f) i=(atI xs i).map f:=by
 unfold atI;rw[aP];cases ixN xs.length i<;>simp
theorem aLK{α:Type}{xs:List α}{i:Int}(h0:0<=i)(h:i<xs.length):atI xs i=some (xs[i.toNat]'(by lia)):=by
 rw[pM h0,bC (by lia)]
theorem iB{x m:Int}(h:0<m):0<=x%m/\x%m<m:=⟨dX _ (by lia),dN _ h⟩
theorem gB{x y:Int}(h0:0<=x)(h:x<1024):jY x y=true:=fZ (Bt.sml h0 h (by decide))
theorem gM{x y:Int}(h0:0<=y)(h:y<1024):jY x y=true:=f8 (Bt.sml h0 h (by decide))
theorem j5{p:Prop}[Decidable p](h:p):decide p=true:=decide_eq_true h
theorem aHI{n c:Nat}{C:Sto}(e:lc C c=some (ps.map pT)):dr (n+1) C (.cell c)=some (.lst (ps.map pT)):=rG e j6
theorem mT{n c:Nat}{C:Sto}{ps:List Int}(e:lc C c=some (ps.map T.int)):dr (n+1) C (.cell c)=some (.lst (ps.map T.int)):=rG e gZ
theorem tW{ns:List Int}{i:Int}(h0:0<=i)(h:i<ns.length):atI (ns.map T.int) i=some (.int (ns[i.toNat]'(by lia))):=by rw[aAj,aLK h0 h];rfl
theorem aJs{a b:Int}:ps.map pT++[.lst [.int a,.int b]]=(ps++[(a,b)]).map pT:=by rw[bV];rfl
theorem aC5{ps:List Int}{a:Int}:ps.map T.int++[.int a]=(ps++[a]).map T.int:=by rw[bV];rfl
theorem aOe{n:Nat}{C:Sto}{vs:List Int}:dr n C (.lst (vs.map T.int))=some (.lst (vs.map T.int)):=iH (by rw[fW];exact gZ)
theorem qU:∀{ns:List Int},ns≠[]->tQ ns∈ns/\∀a∈ns,a<=tQ ns:=by
 have key:∀(ns:List Int)(n:Int),(ns.foldl (fun a b=>if b>a then b else a) n=n\/ns.foldl (fun a b=>if b>a then b else a) n∈ns)/\n<=ns.foldl (fun a b=>if b>a then b else a) n/\∀a∈ns,a<=ns.foldl (fun a b=>if b>a then b else a) n:=by
  intro ns;induction ns with
  |nil=>intro n;simp
  |cons m ns ih=>
   intro n;rw[aO4];obtain⟨h1,h2,h3⟩:=ih (if m>n then m else n);by_cases hm:m>n
   ·rw[if_pos hm]at h1 h2 h3|-
    refine⟨?_,by lia,fun a ha=>?_⟩
    ·rcases h1 with h1|h1
     ·rw[h1];simp
     ·exact .inr (aZ _ h1)
    ·rcases bE.mp ha with rfl|ha
     ·exact h2
     ·exact h3 a ha
   ·rw[if_neg hm]at h1 h2 h3|-
    refine⟨?_,h2,fun a ha=>?_⟩
    ·rcases h1 with h1|h1
     ·exact .inl h1
     ·exact .inr (aZ _ h1)
    ·rcases bE.mp ha with rfl|ha
     ·lia
     ·exact h3 a ha
 intro ns bb;cases ns with
 |nil=>exact absurd rfl bb
 |cons n ns=>
  obtain⟨h1,h2,h3⟩:=key ns n
  refine⟨?_,fun a ha=>?_⟩
  ·rcases h1 with h1|h1
   ·show aPK (fun a b=>if b>a then b else a) n ns∈n::ns;rw[h1];simp
   ·exact aZ _ h1
  ·rcases bE.mp ha with rfl|ha
   ·exact h2
   ·exact h3 a ha
end TL
section
open PySem L2 TL
local macro_rules
 | `(tactic|simp_arith[$xs,*])=>do
   let xs:Lean.TSyntaxArray [`Lean.Parser.Tactic.simpStar,`Lean.Parser.Tactic.simpErase,`Lean.Parser.Tactic.simpLemma]:=xs
   `(tactic|simp (maxSteps:=2000000) (disch:=first|assumption|decide) only[↓aKJ,↓aKe,↓aMf,↓aM8,↓aL9,↓aLE,↓aL5,↓aMK,↓aHl,if_true,if_false,Bool.false_eq_true,↓aHk,aN9,aNN,↓aL2,↓aF3,↓aLC,↓aAh,↓aDW,↓e9,↓kZ,↓gO,↓aDe,↓sJ,↓fS,↓fF,↓jT,↓yB,↓kE,↓hZ,↓kK,↓pI,↓nF,↓aM3,↓pN,↓aD3,↓aBT,↓vA,↓vX,↓aKK,↓aIh,↓aG4,↓aEL,↓aJ2,↓aIP,↓j0,↓vH,↓aA8,↓aMT,↓aJu,↓aID,↓aJQ,↓aKi,↓aEP,↓iL,↓fO,↓gR,↓aNS,↓aN8,↓aNI,↓aNA,↓l6,↓jN,↓o9,↓gF,↓gQ,↓aDE,↓rQ,↓aAu,↓aAm,↓aJN,↓p9,↓nT,↓aFi,↓kO,↓n4,↓aFm,aJ4,aJK,Option.isSome_some,List.getElem?_cons_zero,List.getElem?_cons_succ,List.set_cons_zero,List.set_cons_succ,List.length_cons,List.length_nil,List.nil_append,List.cons_append,Option.some.injEq,T.int.injEq,T.bl.injEq,T.lst.injEq,T.cell.injEq,T.tup.injEq,exists_eq_left,exists_eq_left',exists_and_left,setAll,aJD,aHi,aJc,aKC,aHA,and_true,true_and,Nat.reduceAdd,$xs,*])
namespace Lib
open PySem L2 TL
variable{ns:List Int}{Q:T->Sto->Prop}
abbrev Bg(n:Int):Prop:=Bt 1100000 n
theorem Bg.of{n:Int}{k:Nat}(h:Bt k n)(hk:k<=1100000):Bg n:=h.mono hk
noncomputable def lS(ns:List Int)(k:Int):Int:=(ns[k.toNat]?).getD 0
theorem aKl{k:Int}(hk:0<=k):gK [.lst (ns.map T.int),.int k]=some (.int (lS ns k)):=by
 apply hJ;unfold zQ;walk_at "b";simp_arith[if_true];simp only[aP];unfold lS;by_cases h:k<ns.length
 ·rw[if_pos (by simpa using h)];rw[pM hk,bM,bC (by lia)]
  exact⟨_,rfl,iH fY⟩
 ·rw[if_neg (by simpa using h)];rw[dE (by lia)]
  exact iH fY
theorem lV{k:Int}{C:Sto}(hk:0<=k):wpO (gY 2 gK [.lst (ns.map T.int),.int k] C) Q↔Q (.int (lS ns k)) C:=fN (aKl hk) rfl (by walk_at "c")
noncomputable def aAn(m n:Int):Bool:=decide (0<=n/\n<m)
theorem aCR{m n:Int}:k7 [.int m,.int n]=some (.bl (aAn m n)):=by
 apply hJ;unfold zH aAn;walk_at "b";simp_arith[if_true];by_cases h:0<=n
 ·rw[if_pos (by simpa using h)];rw[iH kY];simp[h]
 ·rw[if_neg (by simpa using h),iH kY];simp[h]
theorem aB3{m n:Int}{C:Sto}:wpO (gY 2 k7 [.int m,.int n] C) Q↔Q (.bl (aAn m n)) C:=fN aCR rfl (by walk_at "c")
end Lib
namespace TL
open PySem L2
section
variable {τ:TSt}{C:Sto}{c:FB}{F:FS}{Q:Fl->TSt->Sto->Prop}
theorem aFc{n:Nat}(I:Nat->TSt->Sto->Prop){k:Nat}(hk:k<n)(h0:I k τ C)
 (hs:∀i τ C,i<n->I i τ C->wpB c τ C fun b C1=>if b=true then wpS F τ C1 (fun l ap C2=>match l with
  | .nx=>i+1<n/\I (i+1) ap C2
  | .ct=>i+1<n/\I (i+1) ap C2
  | .bk=>Q .nx ap C2
  | .rt v=>Q (.rt v) ap C2
  | .ex v=>Q (.ex v) ap C2)else Q .nx τ C1):wpS (lH c F (n - k)) τ C Q:=by
 obtain⟨d,hd⟩:∃d,n - k=d:=⟨_,rfl⟩;rw[hd];induction d generalizing k τ C with
 |zero=>lia
 |succ d ih=>
  obtain⟨b,C1,e1,h⟩:=hs k τ C hk h0;cases b with
  |false=>
   rw[if_neg (by simp)]at h
   exact⟨.nx,τ,C1,by unfold lH;rw[e1];rfl,h⟩
  |true=>
   rw[if_pos rfl]at h;obtain⟨l,ap,C2,e2,h⟩:=h;cases l with
   |nx=>
    obtain⟨l,ag,C',e,q⟩:=ih h.1 h.2 (by lia)
    exact⟨l,ag,C',by unfold lH;rw[e1,aX,if_pos rfl,e2,aX];exact e,q⟩
   |ct=>
    obtain⟨l,ag,C',e,q⟩:=ih h.1 h.2 (by lia)
    exact⟨l,ag,C',by unfold lH;rw[e1,aX,if_pos rfl,e2,aX];exact e,q⟩
   |bk=>exact⟨.nx,ap,C2,by unfold lH;rw[e1,aX,if_pos rfl,e2];rfl,h⟩
   |rt v=>exact⟨.rt v,ap,C2,by unfold lH;rw[e1,aX,if_pos rfl,e2];rfl,h⟩
   |ex v=>exact⟨.ex v,ap,C2,by unfold lH;rw[e1,aX,if_pos rfl,e2];rfl,h⟩
theorem aAB{g:FG}{ts:List T}(hg:∀t∈ts,∀C,∃aq,g t C τ=some aq):∀{C:Sto},jR g gS (iP (fU fB)) τ ts C=some ((bL ts.length).map (fun i=>T.cell (C.length+i)),C++aS ts.length (.l,[])):=by
 induction ts with
 |nil=>intro C;simp[jR]
 |cons t ts ih=>
  intro C;obtain⟨aq,e⟩:=hg t bJ C;unfold jR;rw[e,aX];show(gS aq C).bind _=_;have e2:iP (fU fB) aq C=some (.cell C.length,C++[(.l,[])]):=by
   unfold iP fU uK fB;simp[lim]
  simp only[gS,aX,if_true,e2];rw[ih fun u hu=>hg u (aZ _ hu),aKQ (List.prefix_append _ _)];simp only[aOP,bA,aN,aQ,cZ];congr 2
  ·rw[aOS,aM,b7];simp only[aQk,aQe.injEq,true_and];apply cL;intro i _;simp only[eI];congr 1;lia
end
end TL
namespace Lib
open PySem L2 TL
variable{ps:List (Int×Int)}{nd:List (List Int)}{told o:List Int}{w:Nat}
def Nd(ps:List (Int×Int))(m:Nat)(nd:List (List Int)):Prop:=nd.length=m/\∀(b:Nat)(l:List Int),nd[b]?=some l->l.length<=ps.length/\∀a,a∈l↔(a,(b:Int))∈ps
def InW(m:Nat)(ps:List (Int×Int)):Prop:=∀p∈ps,(0<=p.1/\p.1<m)/\(0<=p.2/\p.2<m)
theorem aBG{m n:Int}(h:0<=n/\n<m):aAn m n=true:=j5 h
theorem sY{m:Nat}(hm:m<=100)(hl:ps.length<=1000)(hw:InW m ps):∃t,gH [.int m,.lst (ps.map pT)]=some t/\∃nd,t=.lst (nd.map iT)/\Nd ps m nd:=by
 apply lF;unfold pH;walk_at "b";simp_arith[if_true]
 refine⟨by lia,?_⟩
 refine⟨_,_,aAB (g:=gN 0) (fun t ht C=>⟨_,rfl⟩),?_⟩
 simp only[uN,aP,aPk,aW,aQ,aOG,aOz,cE]
 refine jS (fun i τ C=>∃a b,τ=[some (.int m),some (.lst (ps.map pT)),some (.cell m),a,b]/\∃ls:List (List Int),C=ls.map (fun l=>(Kd.l,l.map T.int))++[(.l,(bL m).map T.cell)]/\ls.length=m/\
  ∀(b:Nat)(l:List Int),ls[b]?=some l->l.length<=i/\∀a,a∈l↔(a,(b:Int))∈ps.take i) ?_ ?_ ?_
 ·refine⟨_,_,rfl,aS m [],by simp,by simp,fun b l e=>?_⟩
  rw[cS]at e;split at e
  ·cases e;simp
  ·cases e
 ·rintro i ⟨x,y⟩ τ C hx ⟨a,b,rfl,ls,rfl,kc,gk⟩;obtain⟨vo,jy⟩:=hw _ (bD hx);have hi:i<ps.length:=(aR.mp hx).1;simp only at vo jy;unfold nV;obtain⟨y,rfl⟩:∃y':Nat,y=y':=⟨_,(bN jy.1).symm⟩;have ol:y<ls.length:=by lia
  have ec:lc (ls.map (fun l=>(Kd.l,l.map T.int))++[(.l,(bL m).map T.cell)]) m=some ((bL m).map T.cell):=by
   rw[gP];rw[bH (by simp[kc])];simp[kc]
  have ey:lc (ls.map (fun l=>(Kd.l,l.map T.int))++[(.l,(bL m).map T.cell)]) y=some (ls[y].map T.int):=by
   rw[gP];rw[aY (by simpa using ol)];simp[ol]
  have ea:atI ((bL m).map T.cell) (y:Int)=some (.cell y):=by
   rw[rR,bM,dY (by lia)];rfl
  simp_arith[↓aB3,aHT,aBG vo,aBG jy,↓fJ ec,↓fJ ea,↓aDV (show liT _ (T.cell y)=_ from ey),Bool.not_true,Bool.not_false];have next:∀l,(∀c,c∈l↔c∈ls[y]\/c=x)->l.length<=i+1->∀(b:Nat)(l':List Int),(ls.set y l)[b]?=some l'->l'.length<=i+1/\∀a,a∈l'↔(a,(b:Int))∈ps.take (i+1):=by
   intro l lm mw b l' e;have et:∀a,(a,(b:Int))∈ps.take (i+1)↔(a,(b:Int))∈ps.take i\/(a=x/\b=y):=fun a=>by
    rw[eE,hx];simp only[dO,bK,bO,aQy.injEq];constructor
    ·rintro(h| ⟨h1,h2⟩)
     ·exact .inl h
     ·exact .inr ⟨h1,by lia⟩
    ·rintro(h| ⟨h1,h2⟩)
     ·exact .inl h
     ·exact .inr ⟨h1,by lia⟩
   by_cases hb:b=y
   ·subst hb;rw[bQ ol]at e;cases e
    refine⟨mw,fun a=>?_⟩
    rw[lm,et,(gk b _ (bC ol)).2];simp
   ·rw[aU (Ne.symm hb)]at e;obtain⟨h1,h2⟩:=gk b l' e
    refine⟨by lia,fun a=>?_⟩
    rw[et,h2];simp[hb]
  obtain⟨hly,_⟩:=gk y _ (bC ol);split
  ·rw[ey]
   refine⟨rfl,_,rfl,by walk_at "a",trivial,_,_,rfl,ls.set y (ls[y]++[x]),?_,by simpa using kc,next _ (fun c=>by simp) (by simp;lia)⟩
   rw[aC5,aPD _ _ (by simpa using ol),aQm]
  ·rename_i hn;have mh:x∈ls[y]:=by simpa using hn
   refine⟨trivial,_,_,rfl,ls,rfl,kc,fun b l e=>?_⟩
   have:=next ls[y] (fun c=>⟨.inl,fun h=>h.elim id fun h=>by rw[h];exact mh⟩) (by lia) b l
   rw[aOA]at this
   exact this e
 ·rintro τ C ⟨a,b,rfl,ls,rfl,kc,gk⟩;simp_arith[if_true]
  refine⟨.lst (ls.map iT),?_,ls,rfl,kc,fun b l e=>?_⟩
  ·unfold dr;rw[show lc (ls.map (fun l=>(Kd.l,l.map T.int))++[(.l,(bL m).map T.cell)]) m=some ((bL m).map T.cell)from by rw[gP,bH (by simp[kc])];simp[kc]];simp only[aX];rw[show mapO (dr 2 (ls.map (fun l=>(Kd.l,l.map T.int))++[(.l,(bL m).map T.cell)])) ((bL m).map T.cell)=some (ls.map iT)from ?_]
   ·rfl
   ·have:∀(k:Nat),k<=m->mapO (dr 2 (ls.map (fun l=>(Kd.l,l.map T.int))++[(.l,(bL m).map T.cell)])) (((bL m).drop (m - k)).map T.cell)=some ((ls.drop (m - k)).map iT):=by
     intro k;induction k with
     |zero=>intro _;rw[aQn,eR (by simp),eR (by lia)];rfl
     |succ k ih=>
      intro hk;have bn:m - (k+1)<m:=by lia
      rw[aOJ (by simpa using bn),aOJ (by lia:m - (k+1)<ls.length),show m - (k+1)+1=m - k by lia];rw[aM,aM]
      refine jC ?_ (ih (by lia))
      rw[eQ]
      refine rG ?_ gZ
      rw[gP];rw[aY (by simp;lia)];simp[kc,bn]
    have:=this m (bG _);simpa using this
  ·have:=gk b l e;rw[dA]at this
   exact this
def Rdy(nd:List (List Int))(told:List Int)(w:Nat):Prop:=(w:Int)∉told/\∀l,nd[w]?=some l->∀a∈l,a∈told
theorem xC(hn:nd.length<=100)(hl:∀l∈nd,l.length<=1000)(hw:w<nd.length)(hr:Rdy nd told w)(dj:∀v<w,¬Rdy nd told v):
 lP [.lst (nd.map iT),.lst (told.map T.int)]=some (.int w):=by
 apply hJ;unfold qG;walk_at "b";simp_arith[aP]
 refine⟨by lia,lO (fun i τ C=>C=[]/\∃a,τ=[some (.lst (nd.map iT)),some (.lst (told.map T.int)),a]/\i<=w) ⟨rfl,_,rfl,d3 _⟩ ?_ ?_⟩
 ·rintro i τ C hi ⟨rfl,a,rfl,hiw⟩;have ei:i<nd.length:=by lia
  have e1:atI (nd.map iT) (0+(i:Int))=some (iT nd[i]):=by
   rw[aOH,rR,bM,bC ei];rfl
  have hli:=hl _ (d8 ei);unfold oT;simp_arith[↓fJ e1];have fin:∀b:Bool,(b=true↔Rdy nd told i)->if b=true then dr 3 [] (.int (0+(i:Int)))=some (T.int w)else∃a,[some (T.lst (nd.map iT)),some (T.lst (told.map T.int)),some (T.int (0+(i:Int)))]=[some (.lst (nd.map iT)),some (.lst (told.map T.int)),a]/\i+1<=w:=by
   intro b hb;have yo:i<w\/i=w:=by lia
   rcases yo with h|h
   ·rw[if_neg (fun z=>dj i h (hb.mp z))]
    exact⟨_,rfl,h⟩
   ·subst h;rw[if_pos (hb.mpr hr),aOH]
    exact iH fY
  by_cases ht:(0+(i:Int))∈told
  ·have h0:=fin false (Iff.intro (fun z=>nomatch z) (fun z=>(z.1 (by simpa using ht)).elim));rw[if_neg (by simp)]at h0;rw[if_neg (by simpa using ht)]
   exact h0
  ·rw[if_pos (by simpa using ht)]
   refine⟨by walk_at "a",gG (fun a=>T.bl (decide (a∈told))) (fun a _=>?_) ?_⟩
   ·simp only[scT,aS,aM,bB,aW,aT,aV,bP,bR,b8];simp_arith[if_true]
   rw[aKk]
   refine⟨_,rfl,_,aHT,?_⟩
   have h0:=fin (List.all (nd[i].map fun a=>decide (a∈told)) id) (by
    rw[aQh,aOF];constructor
    ·intro h
     refine⟨by simpa using ht,fun l e a ha=>?_⟩
     rw[bC ei]at e;cases e;simpa using h a ha
    ·intro h a ha;simpa using h.2 _ (bC ei) a ha)
   split at h0
   ·rename_i hb;rw[if_pos hb];exact h0
   ·rename_i hb;rw[if_neg hb];exact⟨rfl,h0⟩
 ·rintro τ C ⟨rfl,a,rfl,hiw⟩
  lia
theorem aBJ{P:Nat->Prop}(h:∃n,P n):∃n,P n/\∀k<n,¬P k:=by
 obtain⟨n,hn⟩:=h;induction n using Nat.strongRecOn with
 |_ n ih=>
  by_cases hk:∃k,k<n/\P k
  ·obtain⟨k,h1,h2⟩:=hk
   exact ih k h1 h2
  ·exact⟨n,hn,fun k h1 h2=>hk ⟨k,h1,h2⟩⟩
theorem aEd:∀(m:Nat)(l:List Int),(∀w:Nat,w<m->(w:Int)∈l)->m<=l.length
 |0,_,_=>d3 _
 |m+1,l,h=>by
  have hm:=h m (eK _);have:=aEd m (l.erase m) fun w hw=>(List.mem_erase_of_ne (by lia)).mpr (h w (by lia))
  rw[aON hm]at this;have:=List.length_pos_of_mem hm
  lia
theorem uX:∀(m:Nat)(l:List Int),l.Nodup->(∀x∈l,0<=x/\x<m)->l.length<=m
 |0,l,_,h=>by
  cases l with
  |nil=>simp
  |cons x l=>have:=h x bJ;lia
 |m+1,l,hn,h=>by
  by_cases hm:(m:Int)∈l
  ·have:=uX m (l.erase m) (hn.erase _) fun x hx=>by
    have h1:=h x (List.mem_of_mem_erase hx);have h2:x≠m:=fun z=>by subst z;exact(List.Nodup.mem_erase_iff hn).mp hx |>.1 rfl
    lia
   rw[aON hm]at this
   lia
  ·have:=uX m l hn fun x hx=>by
    have h1:=h x hx;have h2:x≠m:=fun z=>hm (z ▸ hx)
    lia
   lia
def aCO(ps:List (Int×Int))(told:List Int)(w:Nat):Prop:=(w:Int)∉told/\∀a,(a,(w:Int))∈ps->a∈told
theorem Nd.rdy{m:Nat}(h:Nd ps m nd)(hw:w<m):Rdy nd told w↔aCO ps told w:=by
 have cg:w<nd.length:=by rw[h.1];exact hw
 have e:=bC cg;obtain⟨_,h2⟩:=h.2 w _ e;constructor
 ·rintro⟨h3,h4⟩
  exact⟨h3,fun a ha=>h4 _ e a ((h2 a).mpr ha)⟩
 ·rintro⟨h3,h4⟩
  refine⟨h3,fun l e' a ha=>?_⟩
  rw[e]at e';cases e'
  exact h4 a ((h2 a).mp ha)
def Acy(ps:List (Int×Int)):Prop:=∃r:Int->Nat,∀p∈ps,r p.1<r p.2
theorem aLv{m:Nat}(hw:InW m ps)(hr:Acy ps)(hl:told.length<m):∃w,w<m/\aCO ps told w:=by
 obtain⟨r,hr⟩:=hr;have hex:∃w:Nat,w<m/\(w:Int)∉told:=cB fun hn=>by
  have:=aEd m told fun w hw=>cB fun hc=>hn ⟨w,hw,hc⟩
  lia
 obtain⟨k,⟨w,h1,h2,h3⟩,dj⟩:=aBJ (P:=fun k=>∃w:Nat,w<m/\(w:Int)∉told/\r w=k) (by obtain⟨w,h1,h2⟩:=hex;exact⟨r w,w,h1,h2,rfl⟩)
 refine⟨w,h1,h2,fun a ha=>cB fun hc=>?_⟩
 have h4:=(hw _ ha).1;have h5:=hr _ ha;simp only at h4 h5
 refine dj (r a) (by lia) ⟨a.toNat,by lia,?_,?_⟩
 ·rw[bN h4.1];exact hc
 ·rw[bN h4.1]
def aDt(ps:List (Int×Int))(m:Nat)(o:List Int):Prop:=∀(i:Nat)(x:Int),o[i]?=some x->∃w:Nat,x=w/\w<m/\aCO ps (o.take i) w/\∀v<w,¬aCO ps (o.take i) v
theorem aDt.snoc{m:Nat}(h:aDt ps m o)(hw:w<m)(hr:aCO ps o w)(dj:∀v<w,¬aCO ps o v):aDt ps m (o++[(w:Int)]):=by
 intro i x e;by_cases hi:i<o.length
 ·rw[aY hi]at e;rw[List.take_append_of_le_length (by lia)]
  exact h i x e
 ·have ei:i=o.length:=by
   have:=(aR.mp e).1;simp at this;lia
  subst ei;simp only[List.getElem?_concat_length,cH.injEq]at e;rw[List.take_left']
  ·exact⟨w,e.symm,hw,hr,dj⟩
  ·rfl
theorem wH{m:Nat}(hm:m<=8)(hl:ps.length<=1000)(hw:InW m ps)(hr:Acy ps):∃t,mL [.int m,.lst (ps.map pT)]=some t/\∃o,t=.lst (o.map T.int)/\o.length=m/\aDt ps m o:=by
 obtain⟨_,e1,nd,rfl,gh⟩:=sY (by lia) hl hw;have yj:=gh.1;have w1:∀{C Q},wpO (gY 2 gH [.int m,.lst (ps.map pT)] C) Q↔Q (.lst (nd.map iT)) C:=fN e1 rfl (by rw[fH,fH,f7,fW,fY,j6];rfl);apply lF;unfold xQ;walk_at "b";simp_arith[↓w1]
 refine⟨by walk_at "a",aFc (n:=10) (k:=0) (fun i τ C=>∃o:List Int,τ=[some (.int m),some (.lst (ps.map pT)),some (.lst (nd.map iT)),some (.cell 0)]/\C=[(.l,o.map T.int)]/\o.length=i/\i<=m/\aDt ps m o) (by lia) ⟨[],rfl,rfl,rfl,d3 _,fun i x e=>by simp at e⟩ ?_⟩
 rintro i τ C hi ⟨o,rfl,rfl,ho,him,hp⟩;simp_arith[aP];by_cases bn:i<m
 ·obtain⟨w,⟨h1,h2⟩,h3⟩:=aBJ (aLv hw hr (told:=o) (by lia));have dj:∀v<w,¬aCO ps o v:=fun v hv z=>h3 v hv ⟨by lia,z⟩
  have el:=xC (nd:=nd) (told:=o) (w:=w) (by lia) (fun l eh=>by
   obtain⟨b,hb⟩:=bT.mp eh;have:=(gh.2 b l hb).1
   lia) (by lia) ((gh.rdy h1).mpr h2) (fun v hv z=>dj v hv ((gh.rdy (by lia)).mp z))
  rw[if_pos (j5 (by lia))];unfold rE;simp_arith[if_true]
  refine sT rfl (jC (iH (by rw[fW];exact aLw)) (jC (mT rfl) rfl)) ?_
  refine⟨_,el,rfl,?_⟩
  simp_arith[if_true]
  refine⟨by walk_at "a",by lia,o++[(w:Int)],by rw[aC5],by simp[ho],bn,hp.snoc h1 h2 dj⟩
 ·rw[if_neg (by simpa using(by lia:m<=o.length))]
  exact⟨_,mT rfl,o,rfl,by lia,hp⟩
structure Topo(ps:List (Int×Int))(m:Nat)(o:List Int):Prop where
 len:o.length=m
 nd:o.Nodup
 rng:∀x∈o,0<=x/\x<m
 all:∀w:Nat,w<m->(w:Int)∈o
 top:∀(j:Nat)(b:Int),o[j]?=some b->∀a,(a,b)∈ps->a∈o.take j
theorem aDt.topo{m:Nat}(h:aDt ps m o)(hl:o.length=m):Topo ps m o:=by
 have rng:∀x∈o,0<=x/\x<m:=fun x hx=>by
  obtain⟨i,hi⟩:=bT.mp hx;obtain⟨w,rfl,hw,_⟩:=h i x hi
  lia
 have nd:o.Nodup:=by
  refine List.pairwise_iff_getElem.mpr fun i j hi hj i' e=>?_
  have ej:=bC hj;obtain⟨w,e1,_,h2,_⟩:=h j _ ej
  refine h2.1 (bD (i:=i) ?_)
  rw[dF i',bC hi,e,e1]
 refine⟨hl,nd,rng,fun w hw=>cB fun hc=>?_,fun j b e a ha=>?_⟩
 ·have:=uX m ((w:Int)::o) (bY.mpr ⟨hc,nd⟩) (fun x hx=>by
   rcases bE.mp hx with rfl|hx
   ·lia
   ·exact rng x hx)
  simp at this;lia
 ·obtain⟨w,rfl,_,h2,_⟩:=h j b e
  exact h2.2 a ha
end Lib
namespace TL
open PySem L2
section
variable {τ:TSt}{C:Sto}{fa:FN}{x:XF}{F:FS}{Q:Fl->TSt->Sto->Prop}{c:String}
end
end TL
namespace Lib
open PySem L2 TL
variable{rs:List Int}{ps:List (Int×Int)}
theorem aGH{i:Int}:p5 [.int i]=some (.bl true):=by
 apply hJ;unfold aEl;walk_at "b";simp_arith[aLf]
 exact rfl
theorem aE1{a:Int}{C:Sto}{Q:T->Sto->Prop}:wpO (gY 1 p5 [.int a] C) Q↔Q (.bl true) C:=fN aGH rfl (by walk_at "c")
structure Rk(m:Nat)(rs:List Int):Prop where
 len:rs.length=m
 nd:rs.Nodup
 rng:∀x∈rs,0<=x/\x<m
theorem Rk.ins{m:Nat}{q:Int}(h:Rk m rs):Rk (m+1) (insAt rs q m):=by
 have p:=tZ (xs:=rs) (i:=q) (y:=(m:Int))
 refine⟨by rw[xF,h.len],p.nodup_iff.mpr (bY.mpr ⟨fun z=>?_,h.nd⟩),fun x hx=>?_⟩
 ·have:=h.rng _ z;lia
 ·rcases bE.mp (p.mem_iff.mp hx)with rfl|hx
  ·lia
  ·have:=h.rng _ hx;lia
def Al(rs:List Int)(p:Int×Int):Prop:=∃i j:Nat,i<j/\rs[i]?=some p.1/\rs[j]?=some p.2
theorem Al.inW{m:Nat}(hr:Rk m rs)(h:∀p∈ps,Al rs p):InW m ps:=fun p hp=>by
 obtain⟨i,j,_,h1,h2⟩:=h p hp
 exact⟨hr.rng _ (bD h1),hr.rng _ (bD h2)⟩
theorem Al.acy{m:Nat}(hr:Rk m rs)(h:∀p∈ps,Al rs p):Acy ps:=by
 refine⟨fun x=>rs.idxOf x,fun p hp=>?_⟩
 obtain⟨i,j,i',h1,h2⟩:=h p hp;have key:∀(k:Nat)(x:Int),rs[k]?=some x->rs.idxOf x=k:=fun k x e=>by
  obtain⟨hk,e⟩:=aR.mp e;rw[<-e]
  exact hr.nd.idxOf_getElem k hk
 show rs.idxOf p.1<rs.idxOf p.2;rw[key i _ h1,key j _ h2]
 exact i'
theorem aAO{α:Type}{xs:List α}{f:α->Int}:(xs.map fun x=>T.int (f x))=(xs.map f).map T.int:=by simp
end Lib
namespace Lib
open PySem L2 TL
variable{bs hs ns:List Int}{d:Int}{ps:List (Int×Int)}{S:Int->Prop}
noncomputable def at0(bs:List Int)(x:Int):Int:=bs.getD x.toNat 0
theorem wM{x:Int}(h0:0<=x)(h:x<bs.length):atI (bs.map T.int) x=some (.int (at0 bs x)):=by
 rw[tW h0 h];unfold at0;rw[cI,bC (by lia)];rfl
theorem vI{x y v:Int}(h0:0<=x)(h:x<bs.length)(hy:0<=y):at0 (bs.set x.toNat v) y=if y=x then v else at0 bs y:=by
 unfold at0;rw[cI,cI];by_cases e:y=x
 ·subst e;rw[if_pos rfl,bQ (by lia)];rfl
 ·rw[if_neg e,aU (by lia)]
theorem rB{P:Int->Prop}{x:Int}(h:∀b∈bs,P b)(h0:P 0):P (at0 bs x):=by
 unfold at0;rw[cI];cases e:bs[x.toNat]?with
 |none=>exact h0
 |some b=>exact h b (bD e)
theorem jF{i:Nat}(h:i<bs.length):at0 bs (i:Int)=bs[i]:=by
 unfold at0;rw[cI,cE,bC h];rfl
theorem aJe(hl:bs.length<=1000):j7 [.lst (bs.map T.int),.lst (hs.map T.int)]=some (.lst (((bs.zip hs).map fun p=>p.1+p.2).map T.int)):=by
 apply hJ;unfold pB;walk_at "b";simp_arith[aBE]
 refine⟨by rw[aP,dJ];unfold lim;lia,gG (fun p:Int×Int=>T.int (p.1+p.2)) (fun p _=>?_) ?_⟩
 ·simp only[scT,aS,aM,bB,aW,aT,aV];simp_arith[if_true]
 ·rw[aAO];exact aOe
theorem vC{n:Int}(h:n∈ns):n<=jQ d ns:=by
 unfold jQ;have bb:ns≠[]:=by rintro rfl;simp at h
 rw[if_neg (by simpa using bb)]
 exact(qU bb).2 n h
theorem pA:(ns=[]/\jQ d ns=d)\/jQ d ns∈ns:=by
 unfold jQ;by_cases h:ns=[]
 ·left;subst h;exact⟨rfl,rfl⟩
 ·right;rw[if_neg (by simpa using h)]
  exact(qU h).1
structure Early(ps:List (Int×Int))(hs:List Int)(bs:List Int):Prop where
 len:bs.length=hs.length
 pos:∀x,0<=at0 bs x
 ge:∀p∈ps,at0 bs p.1+at0 hs p.1<=at0 bs p.2
 att:∀w:Nat,w<hs.length->at0 bs w=0\/∃a,(a,(w:Int))∈ps/\at0 bs w=at0 bs a+at0 hs a
theorem aBV(hm:hs.length<=8)(hl:ps.length<=1000)(hw:InW hs.length ps)(hr:Acy ps)(hp:∀h∈hs,0<=h):
 ∃t,lJ [.lst (hs.map T.int),.lst (ps.map pT)]=some t/\∃bs,t=.lst (bs.map T.int)/\Early ps hs bs:=by
 obtain⟨_,e1,nd,rfl,gh⟩:=sY (by lia) hl hw;obtain⟨_,e2,o,rfl,ho,iu⟩:=wH hm hl hw hr;have tp:=iu.topo ho;have w1:∀{C Q},wpO (gY 2 gH [.int hs.length,.lst (ps.map pT)] C) Q↔Q (.lst (nd.map iT)) C:=fN e1 rfl (by rw[fH,fH,f7,fW,fY,j6];rfl);have w2:∀{C Q},wpO (gY 2 mL [.int hs.length,.lst (ps.map pT)] C) Q↔Q (.lst (o.map T.int)) C:=fN e2 rfl (by rw[fH,fH,f7,fW,fY,j6];rfl);have yj:=gh.1;apply lF;unfold x6;walk_at "b";simp_arith[↓w1,↓w2,aP]
 refine⟨by unfold lim;lia,gG (fun _:Int=>T.int 0) (fun i _=>?_) ?_⟩
 ·simp only[scT,aS,aM,bB,aW,aT,aV];simp_arith[if_true]
 simp_arith[if_true]
 refine jS (fun i τ C=>∃a,τ=[some (.lst (hs.map T.int)),some (.lst (ps.map pT)),some (.lst (o.map T.int)),some (.lst (nd.map iT)),some (.cell 0),a]/\∃bs:List Int,C=[(.l,bs.map T.int)]/\bs.length=hs.length/\(∀x,0<=at0 bs x)/\
  ∀(j:Nat)(w:Int),j<i->o[j]?=some w->(∀a,(a,w)∈ps->at0 bs a+at0 hs a<=at0 bs w)/\(at0 bs w=0\/∃a,(a,w)∈ps/\at0 bs w=at0 bs a+at0 hs a)) ?_ ?_ ?_
 ·refine⟨_,rfl,aS hs.length 0,?_,by simp,fun x=>rB (fun b hb=>by rw[List.eq_of_mem_replicate hb];exact b4 _) (b4 _),fun j w hj=>by lia⟩
  rw[aP5,aPM,ho]
 ·rintro i w τ C cg ⟨a,rfl,bs,rfl,za,we,gk⟩;obtain⟨ji,hw1⟩:=tp.rng w (bD cg);have hwn:w.toNat<nd.length:=by lia
  obtain⟨hnl,ox⟩:=gh.2 w.toNat _ (bC hwn);rw[bN ji]at ox;have en:atI (nd.map iT) w=some (iT nd[w.toNat]):=by rw[pM ji,bM,bC hwn];rfl
  generalize nd[w.toNat]=l at hnl ox en;unfold rD;simp_arith[↓fJ en]
  refine⟨by walk_at "a",gG (fun a:Int=>T.int (at0 bs a+at0 hs a)) (fun a ha=>?_) ?_⟩
  ·have zc:=(hw _ ((ox a).mp ha)).1;simp only at zc;have g1:=wM (bs:=bs) zc.1 (by lia);have g2:=wM (bs:=hs) zc.1 (by lia);simp only[scT,aS,aM,bB,aW,aT,aV,bP,bR,b8];simp_arith[↓fJ g1,↓fJ g2]
  ·rw[aAO,fJ (pZ _)];simp_arith[if_true];have ix:ixN (bs.map T.int).length w=some w.toNat:=v4 ji (by simp;lia);rw[fJ ix];obtain⟨v,hv⟩:∃v,jQ 0 (l.map fun a=>at0 bs a+at0 hs a)=v:=⟨_,rfl⟩;rw[hv];have v0:0<=v:=by
    rw[<-hv];rcases pA (d:=0) (ns:=l.map fun a=>at0 bs a+at0 hs a)with⟨_,h⟩|h
    ·rw[h];exact b4 _
    ·obtain⟨a,_,e⟩:=bI.mp h;rw[<-e];have:=we a;have:=rB (x:=a) hp (b4 0)
     lia
   have keep:∀(j:Nat)(u a:Int),j<=i->o[j]?=some u->(a,u)∈ps->at0 (bs.set w.toNat v) a=at0 bs a:=by
    intro j u a hj hu ha;have hm:=tp.top j u hu a ha;obtain⟨k,hk⟩:=bT.mp hm;have hkj:k<j:=by
     have:=(aR.mp hk).1;simp at this;lia
    rw[dF hkj]at hk;have kj:=(hw _ ha).1;rw[vI ji (by lia) kj.1,if_neg];rintro rfl;have:=(aOB (by have:=(aR.mp hk).1;exact this) tp.nd).mp (hk.trans cg.symm)
    lia
   refine⟨trivial,_,rfl,bs.set w.toNat v,by rw[<-sE],by simpa using za,fun x=>rB (fun b hb=>?_) (b4 _),fun j u hj hu=>?_⟩
   ·rcases aPe hb with hb|rfl
    ·obtain⟨k,hk⟩:=bT.mp hb;obtain⟨hk1,hk2⟩:=aR.mp hk;have:=we k;rw[jF hk1,hk2]at this
     exact this
    ·exact v0
   ·obtain⟨oo,xx⟩:=tp.rng u (bD hu);by_cases hji:j=i
    ·subst hji;rw[cg]at hu;cases hu;have ev:at0 (bs.set w.toNat v) w=v:=by rw[vI ji (by lia) ji,if_pos rfl]
     rw[ev]
     refine⟨fun a ha=>?_,?_⟩
     ·rw[keep j w a (bG _) cg ha,<-hv]
      exact vC (bI.mpr ⟨a,(ox a).mpr ha,rfl⟩)
     ·rcases pA (d:=0) (ns:=l.map fun a=>at0 bs a+at0 hs a)with⟨_,h⟩|h
      ·left;rw[<-hv];exact h
      ·right;obtain⟨a,ha,e⟩:=bI.mp h
       exact⟨a,(ox a).mp ha,by rw[keep j w a (bG _) cg ((ox a).mp ha),e,hv]⟩
    ·have bb:u≠w:=by
      rintro rfl;have:=(aOB (by have:=(aR.mp hu).1;exact this) tp.nd).mp (hu.trans cg.symm)
      lia
     have eu:at0 (bs.set w.toNat v) u=at0 bs u:=by rw[vI ji (by lia) oo,if_neg bb]
     obtain⟨h1,h2⟩:=gk j u (by lia) hu;rw[eu]
     refine⟨fun a ha=>?_,?_⟩
     ·rw[keep j u a (by lia) hu ha];exact h1 a ha
     ·rcases h2 with h2| ⟨a,ha,e⟩
      ·exact .inl h2
      ·exact .inr ⟨a,ha,by rw[keep j u a (by lia) hu ha];exact e⟩
 ·rintro τ C ⟨a,rfl,bs,rfl,za,we,gk⟩;simp_arith[if_true]
  refine⟨_,mT rfl,bs,rfl,za,we,fun p ow=>?_,fun w cg=>?_⟩
  ·have h2:=(hw p ow).2;have:=tp.all p.2.toNat (by lia);rw[bN h2.1]at this;obtain⟨j,hj⟩:=bT.mp this
   exact(gk j p.2 (aR.mp hj).1 hj).1 p.1 ow
  ·obtain⟨j,hj⟩:=bT.mp (tp.all w cg)
   exact(gk j w (aR.mp hj).1 hj).2
noncomputable def dones(bs hs:List Int):List Int:=(bs.zip hs).map fun p=>p.1+p.2
theorem aFw(e:lJ [.lst (hs.map T.int),.lst (ps.map pT)]=some (.lst (bs.map T.int)))(hl:bs.length<=1000):
 kP [.lst (hs.map T.int),.lst (ps.map pT)]=some (.int (jQ 0 (dones bs hs))):=by
 have w1:∀{C Q},wpO (gY 2 lJ [.lst (hs.map T.int),.lst (ps.map pT)] C) Q↔Q (.lst (bs.map T.int)) C:=fN e rfl (by rw[fH,fH,f7,fW,fW,j6,gZ];rfl);have w2:∀{C Q},wpO (gY 2 j7 [.lst (bs.map T.int),.lst (hs.map T.int)] C) Q↔Q (.lst ((dones bs hs).map T.int)) C:=fN (aJe hl) rfl (by walk_at "c");apply hJ;unfold aBH;walk_at "b";simp_arith[↓w1,↓w2];rw[fJ (pZ _)]
 exact iH fY
theorem mJ(hl:bs.length=hs.length){x:Int}:x∈dones bs hs↔∃w:Nat,w<hs.length/\x=at0 bs w+at0 hs w:=by
 unfold dones;rw[bI];constructor
 ·rintro⟨p,hp,rfl⟩;obtain⟨w,hw⟩:=bT.mp hp;rw[eA]at hw;obtain⟨h1,e1⟩:=aR.mp hw.1;obtain⟨h2,e2⟩:=aR.mp hw.2
  exact⟨w,h2,by rw[jF h1,jF h2,e1,e2]⟩
 ·rintro⟨w,hw,rfl⟩
  refine⟨(bs[w]'(by lia),hs[w]),bD (i:=w) ?_,?_⟩
  ·rw[eA];exact⟨bC (by lia),bC hw⟩
  ·rw[jF (by lia),jF hw]
def Mx(S:Int->Prop)(d:Int):Prop:=0<=d/\(∀x,S x->x<=d)/\(d=0\/S d)
theorem Mx.uniq{d':Int}(h:Mx S d)(h':Mx S d'):d=d':=by
 obtain⟨a1,a2,a3⟩:=h;obtain⟨b1,b2,b3⟩:=h';apply eB
 ·rcases a3 with rfl|a3
  ·exact b1
  ·exact b2 _ a3
 ·rcases b3 with rfl|b3
  ·exact a1
  ·exact a2 _ b3
theorem Mx.nil(h:∀x,¬S x):Mx S 0:=⟨b4 _,fun x hx=>(h x hx).elim,.inl rfl⟩
theorem Early.mxL(h:Early ps hs bs)(hp:∀x∈hs,0<=x):Mx (fun x=>∃w:Nat,w<hs.length/\x=at0 bs w+at0 hs w) (jQ 0 (dones bs hs)):=by
 have hl:=h.len;have nn:∀w,0<=at0 bs w+at0 hs w:=fun w=>by
  have:=h.pos w;have:=rB (x:=w) hp (b4 0)
  lia
 refine⟨?_,fun x hx=>vC ((mJ hl).mpr hx),?_⟩
 ·rcases pA (d:=0) (ns:=dones bs hs)with⟨_,e⟩|e
  ·rw[e];exact b4 _
  ·obtain⟨w,_,e⟩:=(mJ hl).mp e;rw[e];exact nn _
 ·rcases pA (d:=0) (ns:=dones bs hs)with⟨_,e⟩|e
  ·exact .inl e
  ·exact .inr ((mJ hl).mp e)
end Lib
namespace Lib
open PySem L2 TL
def Chn(ps:List (Int×Int))(ws:List Int):Prop:=∀(j:Nat)(x y:Int),ws[j]?=some x->ws[j+1]?=some y->(x,y)∈ps
theorem Chn.cons{ps:List (Int×Int)}{ws:List Int}{a w:Int}(h:Chn ps (w::ws))(ha:(a,w)∈ps):Chn ps (a::w::ws):=by
 intro j x y ex ey;cases j with
 |zero=>
  simp at ex ey;subst ex ey
  exact ha
 |succ j=>exact h j x y (by simpa using ex) (by simpa using ey)
end Lib
set_option maxHeartbeats 4000000
namespace Lib
open PySem L2 TL
end Lib
namespace TL
open PySem L2
section
variable {τ:TSt}{C:Sto}{fo fi fe:FE}{fa:FN}{Q:T->Sto->Prop}{QS:Fl->TSt->Sto->Prop}
theorem eZ:wpS (y7 fo fi fe) τ C QS↔wpE fo τ C fun y C1=>wpE fi τ C1 fun z C2=>∃k i,y=.cell k/\z=.int i/\∃ts,lc C2 k=some ts/\∃x,atI ts i=some (.int x)/\wpE fe τ C2 fun w C3=>∃v,w=.int v/\∃us,lc C3 k=some us/\∃j,ixN us.length i=some j/\QS .nx τ (C3.set k (.l,us.set j (.int (x+v)))):=by
 unfold wpE wpS y7;constructor
 ·rintro⟨l,t,C',e,q⟩;obtain⟨⟨t1,C1⟩,e1,e⟩:=aK.mp e;obtain⟨⟨t2,C2⟩,e2,e⟩:=aK.mp e;dsimp only at e;split at e
  ·obtain⟨ts,e3,e⟩:=aK.mp e;obtain⟨old,e4,e⟩:=aK.mp e;split at e
   ·obtain⟨⟨t3,C3⟩,e5,e⟩:=aK.mp e;dsimp only at e;split at e
    ·obtain⟨us,e6,e⟩:=aK.mp e;obtain⟨j,e7,e⟩:=aL.mp e;cases e
     exact⟨_,_,e1,_,_,e2,_,_,rfl,rfl,ts,e3,_,e4,_,_,e5,_,rfl,us,e6,j,e7,q⟩
    ·cases e
   ·cases e
  ·cases e
 ·rintro⟨_,_,e1,_,_,e2,k,i,rfl,rfl,ts,e3,x,e4,_,_,e5,v,rfl,us,e6,j,e7,q⟩
  exact⟨_,_,_,by rw[e1,aX,e2,aX];dsimp only;rw[e3,aX,e4,aX];dsimp only;rw[e5,aX];dsimp only;rw[e6,aX,e7];rfl,q⟩
theorem eY:wpE (qM fa) τ C Q↔wpA fa τ C fun ts C1=>ts.length<=lim/\Q (.tup ts) C1:=by
 unfold wpE wpA qM mX;constructor
 ·rintro⟨t,C',e,q⟩;obtain⟨⟨ts,C1⟩,e1,e⟩:=aK.mp e;dsimp only at e;split at e
  ·cases e;exact⟨ts,_,e1,‹_›,q⟩
  ·cases e
 ·rintro⟨ts,C1,e1,h,q⟩
  exact⟨_,_,by rw[e1];exact if_pos h,q⟩
end
end TL
namespace Lib
open PySem L2 TL
end Lib
namespace Lib
open PySem L2 TL
variable{r:Int×List Int}{rows:List (Int×List Int)}
noncomputable def sR(rows:List (Int×List Int))(w:Nat):Int:=(rows.map fun r=>r.1*(r.2.count (w:Int):Int)).sum
noncomputable def rT(r:Int×List Int):T:=.lst (.int r.1::r.2.map T.int)
theorem aN0:rT r=iT (r.1::r.2):=rfl
theorem aNB:CF (rT r)=true:=by rw[aN0];exact aK6
theorem aLG:CFs (rows.map rT)=true:=qE fun _ _=>aNB
theorem aMN{a:Int}{ws:List Int}:aCL (T.int a::ws.map T.int) (some 1) none=ws.map T.int:=by
 rw[show T.int a::ws.map T.int=(a::ws).map T.int from rfl,rS,zN (by decide)];rfl
theorem aCC{m:Nat}(hm:m<=100)(hx:∀r∈rows,∀w∈r.2,0<=w/\w<(m:Int)):
 mI [.int m,.lst (rows.map rT)]=some (.lst (((bL m).map (sR rows)).map T.int)):=by
 apply hJ;unfold zU;walk_at "b";simp_arith[↓eZ,↓eY]
 refine⟨by lia,?_⟩
 rw[nP]
 refine gG (fun _=>T.int 0) (fun i _=>?_) ?_
 ·simp only[scT,aS,aM,bB,aW,aT,aV,bP,bR,b8];simp_arith[↓eZ,↓eY]
 simp_arith[↓eZ,↓eY]
 refine jS (fun i τ C=>∃a b:Option T,τ=[some (.int m),some (.lst (rows.map rT)),some (.cell 0),a,b]/\C=[(.l,((bL m).map (sR (rows.take i))).map T.int)]) ⟨_,_,rfl,by simp[sR]⟩ ?_ ?_
 ·rintro i ⟨a,ws⟩ τ C hi ⟨_,_,rfl,rfl⟩;have ml:=hx _ (bD hi);simp only at ml;unfold uH rT;simp_arith[↓eZ,↓eY,aMN]
  refine jS (fun j τ C=>∃b:Option T,τ=[some (.int m),some (.lst (rows.map rT)),some (.cell 0),some (rT (a,ws)),b]/\C=[(.l,((bL m).map fun w=>sR (rows.take i) w+a*((ws.take j).count (w:Int):Int)).map T.int)]) ⟨_,rfl,by simp⟩ ?_ ?_
  ·rintro j x τ C hj ⟨_,rfl,rfl⟩;obtain⟨x0,x1⟩:=ml x (bD hj);obtain⟨w,rfl⟩:∃w:Nat,x=w:=⟨_,(bN x0).symm⟩;have hw:w<m:=by lia
   unfold uD rT;have e1:atI (((bL m).map fun w=>sR (rows.take i) w+a*((ws.take j).count (w:Int):Int)).map T.int) (w:Int)=some (.int (sR (rows.take i) w+a*((ws.take j).count (w:Int):Int))):=by
    rw[rR,bM,bM,dY hw];rfl
   simp_arith[↓eZ,↓eY,↓fJ e1,↓fJ (aB2 (x:=T.int a) (xs:=ws.map T.int))]
   refine⟨_,e1,?_⟩
   rw[fJ (aIB (by simpa using hw))]
   refine⟨trivial,_,rfl,?_⟩
   congr 1;congr 1;rw[sE (f:=T.int)];congr 1;apply aPR;intro v;by_cases hv:v=w
   ·subst hv;rw[bQ (by simpa using hw),bM,dY hw];simp only[aOP,cH.injEq];rw[eE,hj];simp only[dO,aPS,List.count_singleton_self]
    push_cast
    rw[aOD];lia
   ·rw[aU (Ne.symm hv),bM,bM];by_cases hvm:v<m
    ·rw[dY hvm];simp only[aOP,cH.injEq];rw[eE,hj];simp only[dO,aPS];rw[aPE,if_neg (by simp;lia)];simp
    ·rw[dE (by simp;lia)];rfl
  ·rintro τ C ⟨_,rfl,rfl⟩
   refine⟨trivial,_,_,rfl,?_⟩
   congr 4;funext w;unfold sR;rw[eE,hi];simp[dA]
 ·rintro τ C ⟨_,_,rfl,rfl⟩;simp_arith[↓eZ,↓eY];rw[dA]
  exact mT rfl
theorem aBw{m:Nat}{C:Sto}{Q:T->Sto->Prop}(hm:m<=100)(hx:∀r∈rows,∀w∈r.2,0<=w/\w<(m:Int)):
 wpO (gY 2 mI [.int m,.lst (rows.map rT)] C) Q↔Q (.lst (((bL m).map (sR rows)).map T.int)) C:=
 fN (aCC hm hx) rfl (by rw[fH,fH,f7,fW,fY,aLG];rfl)
end Lib
namespace Lib
open PySem L2 TL
theorem aDM{f:T->Option T}:∀{ts us:List T},ts.length=us.length->(∀(i:Nat)(t u:T),ts[i]?=some t->us[i]?=some u->f t=some u)->mapO f ts=some us
 | [],[],_,_=>rfl
 |t::ts,u::us,hl,h=>jC (h 0 t u rfl rfl) (aDM (by simpa using hl) fun i t u e1 e2=>h (i+1) t u e1 e2)
end Lib
set_option maxHeartbeats 1000000
namespace Lib
open PySem L2 TL
variable{w:Int×Int×Int}
noncomputable def wworth(w:Int×Int×Int)(x:Int):Int:=if x<=w.2.2 then x*w.1 else w.2.2*(w.1 - w.2.1)+x*w.2.1
def WB(w:Int×Int×Int):Prop:=Bt 300 w.1/\Bt 300 w.2.1/\Bt 300 w.2.2
theorem yP{x:Int}(hw:WB w)(hx:Bt 1000 x):lA [w3 w,.int x]=some (.int (wworth w x)):=by
 obtain⟨h1,h2,h3⟩:=hw;apply hJ;unfold sD wworth;walk_at "b";simp_arith[↓eZ,↓eY,w3,↓fJ (aB2 (α:=T)),↓fJ (aBs (α:=T)),↓fJ (aHK (α:=T))];by_cases h:x<=w.2.2
 ·rw[if_pos (j5 h),if_pos h]
  exact⟨mP hx h1 (by decide),iH fY⟩
 ·rw[if_neg (by simpa using h),if_neg h]
  exact⟨mP h3 (h1.sub h2) (by decide),mP hx h2 (by decide),iH fY⟩
theorem v7{x:Int}{C:Sto}{Q:T->Sto->Prop}(hw:WB w)(hx:Bt 1000 x):wpO (gY 2 lA [w3 w,.int x] C) Q↔Q (.int (wworth w x)) C:=fN (yP hw hx) rfl (by rw[fH,fH,f7,aG8,fY];rfl)
def aCY(ws:List (Int×Int×Int))(rows:List (Int×List Int))(e:Int):Int:=((ws.zip ((bL ws.length).map (sR rows))).map fun p=>wworth p.1 p.2).sum - e*(rows.map (·.1)).sum
theorem Bt.sum{k:Nat}:∀{xs:List Int},(∀x∈xs,Bt k x)->Bt (k+xs.length) xs.sum
 | [],_=>by simp[Bt.zero]
 |x::xs,h=>by
  rw[d4,aN];have h1:=(h x bJ).mono (eL k xs.length)
  exact h1.add (Bt.sum fun y hy=>h y (aZ _ hy))
end Lib
namespace Lib
open PySem L2 TL
variable{pl:List (Int×Int)}{rs:List Int}
noncomputable def plA(pl:List (Int×Int))(x:Int):Int×Int:=pl.getD x.toNat (0,0)
theorem aJC{x y:Int}{v:Int×Int}(h0:0<=x)(h:x<pl.length)(hy:0<=y):plA (pl.set x.toNat v) y=if y=x then v else plA pl y:=by
 unfold plA;rw[cI,cI];by_cases e:y=x
 ·subst e;rw[if_pos rfl,bQ (by lia)];rfl
 ·rw[if_neg e,aU (by lia)]
noncomputable def wsA(ws:List (Int×Int×Int))(x:Int):Int×Int×Int:=ws.getD x.toNat (0,0,0)
structure aMd(ws:List (Int×Int×Int))(ps:List (Int×Int))(rs:List Int)(i:Nat)(pl:List (Int×Int)):Prop where
 len:pl.length=ws.length
 nn:∀x:Int,0<=x->x<ws.length->0<=(plA pl x).1/\0<=(plA pl x).2/\(plA pl x).1+(plA pl x).2<=i*2^113
 fit:∀x∈rs.take i,(wsA ws x).2.1<=(plA pl x).2/\(plA pl x).2<=(wsA ws x).1
 ord:∀p∈ps,p.2∈rs.take i->(plA pl p.1).1+(plA pl p.1).2<=(plA pl p.2).1
theorem aMd.step{ws:List (Int×Int×Int)}{ps:List (Int×Int)}{i:Nat}{w b h:Int}(I:aMd ws ps rs i pl)(bx:Rk ws.length rs)(cm:∀p∈ps,Al rs p)(hw:rs[i]?=some w)
 (hb:∀p∈ps,p.2=w->(plA pl p.1).1+(plA pl p.1).2<=b)(b0:0<=b)(b1:b<=i*2^113+2^111)(h0:0<=h)(h1:(wsA ws w).2.1<=h)(h2:h<=(wsA ws w).1)(h3:h<=2^111):aMd ws ps rs (i+1) (pl.set w.toNat (b,h)):=by
 obtain⟨w0,w1⟩:=bx.rng w (bD hw);have aj:=I.len;have es:∀x:Int,0<=x->plA (pl.set w.toNat (b,h)) x=if x=w then(b,h)else plA pl x:=fun x hx=>aJC w0 (by lia) hx
 have tk:∀u,u∈rs.take (i+1)↔u∈rs.take i\/u=w:=fun u=>by rw[eE,hw];simp
 have qi:w∉rs.take i:=fun z=>by
  obtain⟨k,hk⟩:=bT.mp z;have bn:k<i:=by have:=(aR.mp hk).1;simp at this;lia
  rw[dF bn]at hk;have:=(aOB (aR.mp hk).1 bx.nd).mp (hk.trans hw.symm)
  lia
 have early:∀p∈ps,p.2∈rs.take (i+1)->p.1≠w:=fun p hp hm z=>by
  obtain⟨a,c,lq,ea,ec⟩:=cm p hp;obtain⟨k,hk⟩:=bT.mp hm;have bn:k<i+1:=by have:=(aR.mp hk).1;simp at this;lia
  rw[dF bn]at hk;have e1:=(aOB (aR.mp ec).1 bx.nd).mp (ec.trans hk.symm);rw[z]at ea;have e2:=(aOB (aR.mp ea).1 bx.nd).mp (ea.trans hw.symm)
  lia
 have rng:∀x∈rs,0<=x:=fun x hx=>(bx.rng x hx).1
 have pin:∀p∈ps,0<=p.1/\0<=p.2:=fun p hp=>by
  obtain⟨a,c,_,ea,ec⟩:=cm p hp
  exact⟨rng _ (bD ea),rng _ (bD ec)⟩
 refine⟨by simpa using aj,fun x om vo=>?_,fun x hx=>?_,fun p hp hm=>?_⟩
 ·have:=I.nn x om vo;rw[es x om]
  push_cast
  split
  ·simp only;lia
  ·lia
 ·rw[es x (rng x (aO1 hx))];rcases(tk x).mp hx with hx|rfl
  ·rw[if_neg (fun z:x=w=>qi (by rw[<-z];exact hx))]
   exact I.fit x hx
  ·rw[if_pos rfl];exact⟨h1,h2⟩
 ·rw[es _ (pin p hp).1,es _ (pin p hp).2,if_neg (early p hp hm)];rcases(tk p.2).mp hm with hx|hx
  ·rw[if_neg (fun z:p.2=w=>qi (by rw[<-z];exact hx))]
   exact I.ord p hp hx
  ·rw[if_pos hx];exact hb p hp hx
theorem Rk.all{m:Nat}(h:Rk m rs){x:Int}(h0:0<=x)(h1:x<m):x∈rs:=by
 have hz:∀(l:List Int),l.Nodup->(∀y∈l,0<=y/\y<m)->x∉l->l.length<m:=fun l nd hr hx=>by
  have:=uX m (x::l) (bY.mpr ⟨hx,nd⟩) fun y hy=>by
   rcases bE.mp hy with rfl|hy
   ·exact⟨h0,h1⟩
   ·exact hr y hy
  simp at this;lia
 exact cB fun hx=>by
  have:=hz rs h.nd h.rng hx;have:=h.len
  lia
end Lib
namespace Lib
open PySem L2 TL
end Lib
namespace Lib
open PySem L2 TL
end Lib
namespace Lib
open PySem L2 TL
end Lib
namespace Lib
open PySem L2 TL
theorem aA4{α:Type}{xs:List α}{i:Int}(h0:0<=i)(h:i<xs.length):∃t∈xs,atI xs i=some t:=
 ⟨xs[i.toNat]'(by lia),d8 _,by rw[pM h0,bC (by lia)]⟩
def Sm(n:Int):Prop:=0<=n/\n<2147483587
theorem Sm.bt{n:Int}(h:Sm n):Bt 31 n:=.of_lt h.1 (by have:=h.2;lia)
theorem p7{a k:Int}(hk:Bt 20 k):∃t,iX [.int a,.int k]=some t/\∃r,t=.int r/\Sm r:=by
 apply lF;unfold aBf;walk_at "b";simp_arith[↓eZ,↓eY];have h1:=iB (x:=a*48271+k*k*69621+3) (m:=2147483647) (by lia);generalize (a*48271+k*k*69621+3)%2147483647=n1 at h1;have h2:=iB (x:=n1*n1) (m:=2147483629) (by lia);have b1:Bt 31 n1:=.of_lt h1.1 (by lia);generalize n1*n1%2147483629=n2 at h2;have h3:=iB (x:=n2*n2) (m:=2147483587) (by lia);have b2:Bt 31 n2:=.of_lt h2.1 (by lia)
 exact⟨f8 (.of_lt (by decide) (by decide)),fZ (hk.mono (by decide)),f8 (.of_lt (by decide) (by decide)),by decide,fZ (b1.mono (by decide)),by decide,fZ (b2.mono (by decide)),by decide,_,iH fY,_,rfl,h3⟩
noncomputable def kH(a k:Int):Int:=if h:Bt 20 k then aQA (dL (p7 (a:=a) h)).2 else 0
theorem aJM{a k:Int}(h:Bt 20 k):iX [.int a,.int k]=some (.int (kH a k)):=by
 unfold kH;rw[dif_pos h];have e:=(dL (p7 (a:=a) h)).1;have e2:=(dL (dL (p7 (a:=a) h)).2).1;rw[<-e2];exact e
theorem wW{a k:Int}:Sm (kH a k):=by
 unfold kH;split
 ·rename_i h
  exact(dL (dL (p7 (a:=a) h)).2).2
 ·exact⟨by decide,by decide⟩
theorem nQ{a k:Int}{C:Sto}{Q:T->Sto->Prop}(h:Bt 20 k):wpO (gY 2 iX [.int a,.int k] C) Q↔Q (.int (kH a k)) C:=fN (aJM h) rfl (by walk_at "c")
theorem aCf{ns:List Int}(hl:ns.length<=63):∃t,lK [.lst (ns.map T.int)]=some t/\∃xs:List Int,t=.lst (xs.map T.int)/\xs.length=40/\∀x∈xs,Sm x:=by
 apply lF;unfold xA;walk_at "b";simp_arith[↓eZ,↓eY,aP]
 refine⟨by lia,?_⟩
 rw[nP]
 refine gG (fun i=>T.int (kH (lS ns 0) (90+(0+(i:Int))))) (fun i hi=>?_) ?_
 ·have hi:=c7.mp hi;have hb:Bt 20 (90+(0+(i:Int))):=.sml (by lia) (by lia) (by decide);simp only[scT,aS,aM,bB,aW,aT,aV,bP,bR,b8];simp_arith[↓eZ,↓eY,↓lV,↓nQ]
 rw[show(aPT (fun(i:Nat)=>T.int (kH (lS ns 0) (90+(0+(i:Int))))) (bL (eN 40)))=((bL 40).map fun(i:Nat)=>kH (lS ns 0) (90+(0+(i:Int)))).map T.int by simp];obtain⟨qf,om⟩:∃qf,((bL 40).map fun(i:Nat)=>kH (lS ns 0) (90+(0+(i:Int))))=qf:=⟨_,rfl⟩;have vz:qf.length=40:=by rw[<-om];simp
 have oq:∀x∈qf,Sm x:=by
  rw[<-om];intro x hx;obtain⟨i,_,rfl⟩:=bI.mp hx
  exact wW
 rw[om]
 refine⟨by lia,lO (fun i τ C=>∃a b:Option T,τ=[some (.lst (ns.map T.int)),some (.cell 0),a,b]/\∃xs:List Int,C=[(.l,xs.map T.int)]/\xs.length=40/\∀x∈xs,Sm x) ⟨_,_,rfl,qf,rfl,vz,oq⟩ ?_ ?_⟩
 ·rintro i τ C hi ⟨_,_,rfl,xs,rfl,mj,gc⟩;have hb:Bt 20 (2+(i:Int)):=.sml (by lia) (by lia) (by decide);have hq:=iB (x:=2+(i:Int)) (m:=40) (by lia);unfold sH;generalize hqe:(2+(i:Int))%40=q at hq;have e1:=tW (ns:=xs) (i:=q) hq.1 (by lia);have e2:=tW (ns:=ns) (i:=2+(i:Int)) (by lia) (by lia);simp_arith[↓eZ,↓eY,hqe,↓fJ e1,↓fJ e2,↓nQ]
  refine⟨by decide,?_⟩
  rw[fJ (v4 hq.1 (by simp[mj];lia))]
  refine⟨_,_,rfl,xs.set q.toNat _,by rw[sE (f:=T.int)],by simpa using mj,fun x hx=>?_⟩
  rcases aPe hx with h|h
  ·exact gc x h
  ·rw[h];exact wW
 ·rintro τ C ⟨_,_,rfl,xs,rfl,mj,gc⟩;simp_arith[↓eZ,↓eY]
  exact⟨_,mT rfl,xs,rfl,mj,gc⟩
theorem z7{c:Int}{m:Nat}(hm:m<=8):∃t,lU [.int c,.int m]=some t/\∃rs:List Int,t=.lst (rs.map T.int)/\Rk m rs:=by
 apply lF;unfold aCa;walk_at "b";simp_arith[↓eZ,↓eY]
 refine⟨by walk_at "a",by lia,lO (fun i τ C=>∃(a:Option T),τ=[some (.int c),some (.int m),some (.cell 0),a]/\∃rs:List Int,C=[(.l,rs.map T.int)]/\Rk i rs) ⟨_,rfl,[],rfl,⟨rfl,.nil,by simp⟩⟩ ?_ ?_⟩
 ·rintro i τ C hi ⟨a,rfl,rs,rfl,hr⟩;have hb:Bt 20 (0+(i:Int)):=.sml (by lia) (by lia) (by decide);have aj:=hr.len;unfold yD;simp_arith[↓eZ,↓eY,↓nQ];have b2:=iB (x:=kH c (0+(i:Int))) (m:=0+(i:Int)+1) (by lia);generalize kH c (0+(i:Int))%(0+(i:Int)+1)=q at b2
  refine⟨by walk_at "a",⟨by walk_at "a",by lia,by lia⟩,_,rfl,insAt rs q (i:Int),by rw[aOH,<-tR],hr.ins⟩
 ·rintro τ C ⟨a,rfl,rs,rfl,hr⟩;simp_arith[↓eZ,↓eY]
  exact⟨_,mT rfl,rs,rfl,by simpa using hr⟩
end Lib
namespace Lib
open PySem L2 TL
theorem aJb{ws:List (Int×Int×Int)}{a b c:Int}:ws.map w3++[T.lst [.int a,.int b,.int c]]=(ws++[(a,b,c)]).map w3:=by
 rw[bV];rfl
theorem aLJ{n:Nat}{C:Sto}{ts us:List T}(h:mapO (dr n C) ts=some us):dr (n+1) C (.tup ts)=some (.tup us):=by
 unfold dr;split
 ·rename_i hc;rw[aAg hc]at h;cases h;rfl
 ·rw[h];rfl
end Lib
namespace Lib
open PySem L2 TL
variable{ws:List (Int×Int×Int)}{w:Int×Int×Int}{Q:T->Sto->Prop}
theorem aEg{hs:List Int}{ps:List (Int×Int)}:CFs [.lst (hs.map T.int),.lst (ps.map pT)]=true:=by rw[fH,fH,f7,fW,fW,gZ,j6];rfl
theorem vY(hl:ws.length<=1000):kL [.lst (ws.map w3)]=some (.lst ((ws.map (·.2.1)).map T.int)):=by
 apply hJ;unfold qF;walk_at "b";simp_arith[↓eZ,↓eY]
 refine⟨sS (by simpa using hl),gG (fun w=>T.int w.2.1) (fun w _=>?_) ?_⟩
 ·simp only[scT,aS,aM,bB,aW,aT,aV,bP,bR,b8];simp_arith[↓eZ,↓eY,w3,↓fJ (aBs (α:=T))]
 ·rw[aAO,aOe]
theorem yJ:oM [w3 w]=some (.int (if w.2.2=0 then w.2.1 else w.1)):=by
 apply hJ;unfold sG;walk_at "b";simp_arith[↓eZ,↓eY,w3,↓fJ (aB2 (α:=T)),↓fJ (aBs (α:=T)),↓fJ (aHK (α:=T))];by_cases h:w.2.2=0
 ·rw[if_pos (j5 h),if_pos h];exact iH fY
 ·rw[if_neg (by simpa using h),if_neg h];exact iH fY
theorem uP{C:Sto}(hl:ws.length<=1000):wpO (gY 1 kL [.lst (ws.map w3)] C) Q↔Q (.lst ((ws.map (·.2.1)).map T.int)) C:=fN (vY hl) rfl (by rw[fH,f7,fW,lY];rfl)
theorem xZ{C:Sto}:wpO (gY 1 oM [w3 w] C) Q↔Q (.int (if w.2.2=0 then w.2.1 else w.1)) C:=fN yJ rfl (by rw[fH,f7,aG8];rfl)
def NoOrd(m:Nat)(ps:List (Int×Int)):Prop:=aA3 [.int m,.lst (ps.map pT)]=some "NoOrder"
section
variable {ws:List (Int×Int×Int)}{ps:List (Int×Int)}{e:Int}(hl:ws.length<=1000)(h:NoOrd ws.length ps)
include hl h
end
end Lib
namespace Lib
open PySem L2 TL
variable{ps:List (Int×Int)}{ws:List (Int×Int×Int)}{z:Int}
theorem aCZ{hs bs:List Int}(hm:hs.length<=8)(hl:ps.length<=1000)(hw:InW hs.length ps)(hr:Acy ps)(hp:∀h∈hs,0<=h)(hE:Early ps hs bs):
 jW [.lst (hs.map T.int),.lst (ps.map pT)]=some (.int (jQ 0 (dones bs hs))):=by
 obtain⟨_,e2,o,rfl,ho,iu⟩:=wH hm hl hw hr;have tp:=iu.topo ho;apply hJ;unfold aAa;walk_at "b";simp_arith[↓eZ,↓eY,aP]
 refine⟨by walk_at "a",gG (fun _:Int=>T.int 0) (fun i _=>?_) ?_⟩
 ·simp only[scT,aS,aM,bB,aW,aT,aV,bP,bR,b8];simp_arith[↓eZ,↓eY]
 simp_arith[↓eZ,↓eY,aP];rw[show(aPT (fun _=>T.int 0) hs)=(aS hs.length (0:Int)).map T.int by rw[aP5,aPM]]
 refine⟨by lia,lO (fun k τ C=>∃a b c:Option T,τ=[some (.lst (hs.map T.int)),some (.lst (ps.map pT)),some (.cell 0),a,b,c]/\∃g:List Int,C=[(.l,g.map T.int)]/\g.length=hs.length/\(∀x:Int,0<=x->x<hs.length->0<=at0 g x/\at0 g x<=at0 bs x)/\∀(j:Nat)(w:Int),j<k->o[j]?=some w->at0 g w=at0 bs w) ?_ ?_ ?_⟩
 ·refine⟨_,_,_,rfl,aS hs.length 0,rfl,by simp,fun x h0 h1=>?_,fun j w hj=>by lia⟩
  have:at0 (aS hs.length 0) x=0:=by
   unfold at0;rw[cI,cS,if_pos (by lia)];rfl
  rw[this]
  exact⟨b4 _,hE.pos x⟩
 ·rintro k τ C hk ⟨_,_,_,rfl,g,rfl,ck,hg,hq⟩;have hk:k<hs.length:=by lia
  have hok:o[k]?=some o[k]:=bC (by lia);generalize o[k]=u at hok;unfold tX;simp_arith[↓eZ,↓eY]
  refine jS (fun i τ C=>∃b c:Option T,τ=[some (.lst (hs.map T.int)),some (.lst (ps.map pT)),some (.cell 0),some (.int (0+(k:Int))),b,c]/\∃g:List Int,C=[(.l,g.map T.int)]/\g.length=hs.length/\(∀x:Int,0<=x->x<hs.length->0<=at0 g x/\at0 g x<=at0 bs x)/\(∀(j:Nat)(w:Int),j<k->o[j]?=some w->at0 g w=at0 bs w)/\∀p∈ps.take i,p.2=u->at0 bs p.1+at0 hs p.1<=at0 g u) ⟨_,_,rfl,g,rfl,ck,hg,hq,by simp⟩ ?_ ?_
  ·rintro i p τ C hi ⟨_,_,rfl,g,rfl,ck,hg,hq,ht⟩;have ow:=bD hi;obtain⟨h1,h2⟩:=hw p ow;have g1:=wM (bs:=g) h2.1 (by lia);have g2:=wM (bs:=g) h1.1 (by lia);have g3:=wM (bs:=hs) h1.1 (by lia);unfold t9;simp_arith[↓eZ,↓eY,pT,↓fJ g1,↓fJ g2,↓fJ g3];rw[fJ (v4 h2.1 (by simp[ck];lia))];obtain⟨v,hv⟩:∃v,max (at0 g p.2) (at0 g p.1+at0 hs p.1)=v:=⟨_,rfl⟩;rw[hv];have yq:=hE.ge p ow;have q1:=hg p.1 h1.1 h1.2;have q2:=hg p.2 h2.1 h2.2;have hh:0<=at0 hs p.1:=rB hp (b4 0);have es:∀x:Int,0<=x->at0 (g.set p.2.toNat v) x=if x=p.2 then v else at0 g x:=fun x h0=>vI h2.1 (by lia) h0
   refine⟨trivial,_,_,rfl,g.set p.2.toNat v,by rw[sE (f:=T.int)],by simpa using ck,fun x h0 h3=>?_,fun j w hj pd=>?_,fun q su ye=>?_⟩
   ·rw[es x h0];have:=hg x h0 h3;split
    ·rename_i e;subst e;lia
    ·exact this
   ·obtain⟨w0,w1⟩:=tp.rng w (bD pd);rw[es w w0];have:=hq j w hj pd;split
    ·rename_i e;subst e;lia
    ·exact this
   ·obtain⟨u0,u1⟩:=tp.rng u (bD hok);rw[eE,hi]at su;simp only[dO,bK,bO]at su;rw[es u u0];rcases su with su|rfl
    ·have:=ht q su ye;split
     ·rename_i e;subst e;lia
     ·exact this
    ·rw[if_pos ye.symm];have ha:=tp.top k u hok q.1 (by rw[<-ye];exact ow);obtain⟨j,hj⟩:=bT.mp ha;have wb:j<k:=by have:=(aR.mp hj).1;simp at this;lia
     rw[dF wb]at hj;have:=hq j q.1 wb hj
     lia
  ·rintro τ C ⟨_,_,rfl,g,rfl,ck,hg,hq,ht⟩;rw[dA]at ht
   refine⟨_,_,_,rfl,g,rfl,ck,hg,fun j w hj pd=>?_⟩
   by_cases e:j=k
   ·subst e;rw[hok]at pd;cases pd;obtain⟨u0,u1⟩:=tp.rng u (bD hok);have hu:=hg u u0 u1;have uj:=hE.att u.toNat (by lia);rw[bN u0]at uj;rcases uj with h| ⟨a,ha,h⟩
    ·lia
    ·have:=ht _ ha rfl;simp only at this
     lia
   ·exact hq j w (by lia) pd
 ·rintro τ C ⟨_,_,_,rfl,g,rfl,ck,hg,hq⟩;have heq:∀w:Nat,w<hs.length->at0 g w=at0 bs w:=fun w cg=>by
   obtain⟨j,hj⟩:=bT.mp (tp.all w cg)
   exact hq j w (by have:=(aR.mp hj).1;lia) hj
  simp_arith[↓eZ,↓eY,aP]
  refine⟨by lia,?_⟩
  rw[nP]
  refine gG (fun(w:Nat)=>T.int (at0 bs w+at0 hs w)) (fun w cg=>?_) ?_
  ·have cg:w<hs.length:=by simpa using cg
   have g1:=wM (bs:=g) (x:=0+(w:Int)) (by lia) (by lia);have g2:=wM (bs:=hs) (x:=0+(w:Int)) (by lia) (by lia);simp only[scT,aS,aM,bB,aW,aT,aV,bP,bR,b8];simp_arith[↓eZ,↓eY,↓fJ g1,↓fJ g2];rw[aOH,heq w cg]
  obtain⟨xs,gc⟩:∃xs:List Int,((bL hs.length).map fun(w:Nat)=>at0 bs w+at0 hs w)=xs:=⟨_,rfl⟩;have mj:xs.length=hs.length:=by rw[<-gc];simp
  have iz:∀x,x∈xs↔∃w:Nat,w<hs.length/\x=at0 bs w+at0 hs w:=fun x=>by
   rw[<-gc,bI];constructor
   ·rintro⟨w,cg,rfl⟩;exact⟨w,c7.mp cg,rfl⟩
   ·rintro⟨w,cg,rfl⟩;exact⟨w,c7.mpr cg,rfl⟩
  rw[show(aPT (fun(w:Nat)=>T.int (at0 bs w+at0 hs w)) (bL (hs.length:Int).toNat))=xs.map T.int by rw[<-gc];simp,aC5,fJ (pZ _)]
  refine⟨by walk_at "a",by simp[lim,mj];lia,by simp,?_⟩
  obtain⟨m1,m2⟩:=qU (ns:=xs++[0]) (by simp);have:tQ (xs++[0])=jQ 0 (dones bs hs):=by
   refine Mx.uniq (S:=fun x=>∃w:Nat,w<hs.length/\x=at0 bs w+at0 hs w) ⟨m2 0 (by simp),fun x hx=>m2 x (dR _ ((iz x).mpr hx)),?_⟩ (hE.mxL hp)
   rcases bK.mp m1 with h|h
   ·exact .inr ((iz _).mp h)
   ·exact .inl (bO.mp h)
  rw[this]
  exact iH fY
noncomputable def iV(w:Int×Int×Int):Int:=if w.2.2=0 then w.2.1 else w.1
theorem aA7(hl:ws.length<=1000)(h:kP [.lst ((ws.map (·.2.1)).map T.int),.lst (ps.map pT)]=some (.int z)):i6 [.lst (ws.map w3),.lst (ps.map pT)]=some (.int z):=by
 have w1:∀{C Q},wpO (gY 2 kP [.lst ((ws.map (·.2.1)).map T.int),.lst (ps.map pT)] C) Q↔Q (.int z) C:=fN h rfl aEg;apply hJ;unfold uB;walk_at "b";simp_arith[↓eZ,↓eY,↓uP,↓w1]
 exact iH fY
theorem aBY(hl:ws.length<=1000)(h:kP [.lst ((ws.map iV).map T.int),.lst (ps.map pT)]=some (.int z)):xV [.lst (ws.map w3),.lst (ps.map pT)]=some (.int z):=by
 have w1:∀{C Q},wpO (gY 2 kP [.lst ((ws.map iV).map T.int),.lst (ps.map pT)] C) Q↔Q (.int z) C:=fN h rfl aEg;apply hJ;unfold wZ;walk_at "b";simp_arith[↓eZ,↓eY]
 refine⟨sS (by simpa using hl),gG (fun w=>T.int (iV w)) (fun w _=>?_) ?_⟩
 ·simp only[scT,aS,aM,bB,aW,aT,aV,bP,bR,b8];simp_arith[↓eZ,↓eY,↓xZ]
  exact rfl
 ·rw[show(ws.map fun w=>T.int (iV w))=(ws.map iV).map T.int by simp];simp_arith[↓eZ,↓eY,↓w1]
  exact iH fY
theorem aGR{y:Int}(hl:ws.length<=1000)(h1:jW [.lst ((ws.map (·.2.1)).map T.int),.lst (ps.map pT)]=some (.int z))(h2:jW [.lst ((ws.map iV).map T.int),.lst (ps.map pT)]=some (.int y)):
 p8 [.lst (ws.map w3),.lst (ps.map pT)]=some (.tup [.int z,.int y]):=by
 have w1:∀{C Q},wpO (gY 2 jW [.lst ((ws.map (·.2.1)).map T.int),.lst (ps.map pT)] C) Q↔Q (.int z) C:=fN h1 rfl aEg;have w2:∀{C Q},wpO (gY 2 jW [.lst ((ws.map iV).map T.int),.lst (ps.map pT)] C) Q↔Q (.int y) C:=fN h2 rfl aEg;apply hJ;unfold aDT;walk_at "b";simp_arith[↓eZ,↓eY]
 refine⟨sS (by simpa using hl),gG (fun w=>T.int w.2.1) (fun w _=>?_) ?_⟩
 ·simp only[scT,aS,aM,bB,aW,aT,aV,bP,bR,b8];simp_arith[↓eZ,↓eY,w3,↓fJ (aBs (α:=T))]
 rw[show(ws.map fun w=>T.int w.2.1)=(ws.map (·.2.1)).map T.int by simp];simp_arith[↓eZ,↓eY,↓w1]
 refine⟨sS (by simpa using hl),gG (fun w=>T.int (iV w)) (fun w _=>?_) ?_⟩
 ·simp only[scT,aS,aM,bB,aW,aT,aV,bP,bR,b8];simp_arith[↓eZ,↓eY,w3,↓fJ (aHK (α:=T))];unfold iV;by_cases h:w.2.2=0
  ·rw[j5 h,if_pos rfl,fJ aBs,if_pos h]
  ·rw[decide_eq_false h,if_neg (by decide),fJ aB2,if_neg h]
 ·rw[show(ws.map fun w=>T.int (iV w))=(ws.map iV).map T.int by simp];simp_arith[↓eZ,↓eY,↓w2]
  exact⟨by walk_at "a",iH (by walk_at "c")⟩
end Lib
namespace NF
noncomputable def sm:Nat->(Nat->Int)->Int
 |0,_=>0
 |n+1,g=>sm n g+g n
theorem iF{n:Nat}{g g':Nat->Int}(h:∀k,k<n->g k=g' k):sm n g=sm n g':=by
 induction n with
 |zero=>rfl
 |succ n ih=>unfold sm;rw[ih fun k hk=>h k (by lia),h n (by lia)]
theorem wN{n:Nat}{g g':Nat->Int}(h:∀k,k<n->g k<=g' k):sm n g<=sm n g':=by
 induction n with
 |zero=>exact b4 _
 |succ n ih=>unfold sm;have:=ih fun k hk=>h k (by lia);have:=h n (by lia);lia
theorem aML{n:Nat}{g g':Nat->Int}:sm n (fun k=>g k+g' k)=sm n g+sm n g':=by
 induction n with
 |zero=>rfl
 |succ n ih=>unfold sm;rw[ih];dsimp only;lia
theorem aMh{n:Nat}{g g':Nat->Int}:sm n (fun k=>g k - g' k)=sm n g - sm n g':=by
 induction n with
 |zero=>rfl
 |succ n ih=>unfold sm;rw[ih];dsimp only;lia
theorem oF{n:Nat}{g:Nat->Int}(h:∀k,k<n->g k=0):sm n g=0:=by
 induction n with
 |zero=>rfl
 |succ n ih=>unfold sm;rw[ih fun k hk=>h k (by lia),h n (by lia)];rfl
theorem pX{n:Nat}{g:Nat->Int}(h:∀k,k<n->0<=g k):0<=sm n g:=by
 induction n with
 |zero=>exact b4 _
 |succ n ih=>unfold sm;have:=ih fun k hk=>h k (by lia);have:=h n (by lia);lia
theorem aLU{n:Nat}{g:Nat->Int}(h:∀k,k<n->0<=g k){k:Nat}(hk:k<n):g k<=sm n g:=by
 induction n with
 |zero=>lia
 |succ n ih=>
  unfold sm;by_cases e:k=n
  ·subst e;have:=pX fun j hj=>h j (aPh hj);lia
  ·have:=ih (fun j hj=>h j (by lia)) (by lia);have:=h n (by lia);lia
noncomputable def up(f:Nat->Int)(k:Nat)(v:Int):Nat->Int:=fun j=>if j=k then v else f j
theorem zI{f:Nat->Int}{k:Nat}{v:Int}:up f k v k=v:=by unfold up;rw[if_pos rfl]
theorem xJ{f:Nat->Int}{k j:Nat}{v:Int}(h:j≠k):up f k v j=f j:=by unfold up;rw[if_neg h]
theorem aKY{n:Nat}{f g:Nat->Int}{k:Nat}{v:Int}(hk:k<n):sm n (fun j=>up f k v j*g j)=sm n (fun j=>f j*g j)+(v - f k)*g k:=by
 induction n with
 |zero=>lia
 |succ n ih=>
  unfold sm;dsimp only;by_cases e:k=n
  ·subst e;rw[zI,iF (g':=fun j=>f j*g j) (fun j hj=>by rw[xJ (by lia)]),aO2]
   lia
  ·rw[ih (by lia),xJ (by lia)];lia
structure Nt where
 m:Nat
 t:Nat->Nat
 h:Nat->Nat
 d:Nat->Int
 c:Nat->Int
variable {N:Nt}{f f' p q:Nat->Int}{a b x:Int}
variable{r:List (Nat×Bool)}
def Pot(N:Nt)(f p:Nat->Int):Prop:=∀k,k<N.m->(f k<N.c k->p (N.t k)+N.d k<=p (N.h k))/\(0<f k->p (N.h k)<=p (N.t k)+N.d k)
def Flo(N:Nt)(f:Nat->Int)(a:Int):Prop:=∀p:Nat->Int,sm N.m (fun k=>f k*(p (N.h k) - p (N.t k)))=a*(p 1 - p 0)
def Cap(N:Nt)(f:Nat->Int):Prop:=∀k,k<N.m->0<=f k/\f k<=N.c k
noncomputable def pos(x:Int):Int:=if 0<x then x else 0
theorem aCS:0<=pos x:=by unfold pos;split<;>lia
theorem aNg:x<=pos x:=by unfold pos;split<;>lia
def len(N:Nt)(f:Nat->Int):Int:=sm N.m fun k=>f k*N.d k
def cost(N:Nt)(p:Nat->Int):Int:=sm N.m fun k=>N.c k*pos (N.d k - (p (N.h k) - p (N.t k)))
theorem gap(hf:Flo N f a)(p:Nat->Int):len N f - a*(p 1 - p 0)=sm N.m fun k=>f k*(N.d k - (p (N.h k) - p (N.t k))):=by
 unfold len;rw[<-hf p,<-aMh]
 exact iF fun k _=>by rw[<-c9]
theorem weak(hf:Flo N f a)(hc:Cap N f)(p:Nat->Int):len N f - a*(p 1 - p 0)<=cost N p:=by
 rw[gap hf]
 refine wN fun k hk=>?_
 obtain⟨h1,h2⟩:=hc k hk;have h3:f k*(N.d k - (p (N.h k) - p (N.t k)))<=f k*pos (N.d k - (p (N.h k) - p (N.t k))):=bW aNg h1;have h4:f k*pos (N.d k - (p (N.h k) - p (N.t k)))<=N.c k*pos (N.d k - (p (N.h k) - p (N.t k))):=dP h2 aCS
 lia
theorem strong(hf:Flo N f a)(hc:Cap N f)(hp:Pot N f p):len N f - a*(p 1 - p 0)=cost N p:=by
 rw[gap hf]
 refine iF fun k hk=>?_
 obtain⟨h1,h2⟩:=hc k hk;obtain⟨h3,h4⟩:=hp k hk;generalize hx:N.d k - (p (N.h k) - p (N.t k))=y;unfold pos;by_cases hy:0<y
 ·rw[if_pos hy];have:f k=N.c k:=by
   by_cases h:f k<N.c k
   ·have:=h3 h;lia
   ·lia
  rw[this]
 ·rw[if_neg hy,aOt];by_cases hz:y=0
  ·rw[hz,aOt]
  ·have:f k=0:=by
    by_cases h:0<f k
    ·have:=h4 h;lia
    ·lia
   rw[this,aOu]
noncomputable def rt(N:Nt)(e:Nat×Bool):Nat:=if e.2 then N.t e.1 else N.h e.1
noncomputable def rh(N:Nt)(e:Nat×Bool):Nat:=if e.2 then N.h e.1 else N.t e.1
noncomputable def rd(N:Nt)(e:Nat×Bool):Int:=if e.2 then N.d e.1 else - N.d e.1
noncomputable def rr(N:Nt)(f:Nat->Int)(e:Nat×Bool):Int:=if e.2 then N.c e.1 - f e.1 else f e.1
def Walk(N:Nt):List (Nat×Bool)->Nat->Nat->Prop
 | [],u,v=>u=v
 |e::r,u,v=>e.1<N.m/\rt N e=u/\Walk N r (rh N e) v
def pr(r:List (Nat×Bool))(x:Int)(f:Nat->Int):Nat->Int:=match r with
 | []=>f
 |e::r=>pr r x (up f e.1 (f e.1+if e.2 then x else -x))
theorem aIl:∀{r:List (Nat×Bool)}{u v:Nat}{f:Nat->Int},Walk N r u v->∀p:Nat->Int,sm N.m (fun k=>pr r x f k*(p (N.h k) - p (N.t k)))=sm N.m (fun k=>f k*(p (N.h k) - p (N.t k)))+x*(p v - p u)
 | [],u,v,f,w,p=>by cases w;simp[pr]
 |e::r,u,v,f,⟨h1,h2,h3⟩,p=>by
  show sm N.m (fun k=>pr r x (up f e.1 _) k*_)=_;rw[aIl h3,aKY h1];subst h2;unfold rt rh;cases e.2
  ·simp only[cD,if_false];have:(f e.1+ -x - f e.1)*(p (N.h e.1) - p (N.t e.1))=x*p (N.t e.1) - x*p (N.h e.1):=by
    rw[show f e.1+ -x - f e.1= -x by lia,Int.neg_mul,c9];lia
   rw[this,c9,c9];lia
  ·simp only[if_true];have:(f e.1+x - f e.1)*(p (N.h e.1) - p (N.t e.1))=x*p (N.h e.1) - x*p (N.t e.1):=by
    rw[show f e.1+x - f e.1=x by lia,c9]
   rw[this,c9,c9];lia
theorem Flo.pour(hf:Flo N f a)(w:Walk N r 0 1):Flo N (pr r x f) (a+x):=fun p=>by
 rw[aIl w,hf p,aO3]
theorem aHL:∀{r:List (Nat×Bool)}{f:Nat->Int}{k:Nat},(∀e∈r,e.1≠k)->pr r x f k=f k
 | [],_,_,_=>rfl
 |e::r,f,k,h=>by
  show pr r x (up f e.1 _) k=_;rw[aHL fun e' he=>h e' (aZ _ he),xJ (fun z=>h e bJ z.symm)]
theorem aKO:∀{r:List (Nat×Bool)}{f:Nat->Int}{e:Nat×Bool},(r.map (·.1)).Nodup->e∈r->pr r x f e.1=f e.1+if e.2 then x else -x
 | [],_,_,_,h=>by cases h
 |e::r,f,e',hn,h=>by
  rw[aM,bY]at hn;show pr r x (up f e.1 _) e'.1=_;rcases bE.mp h with rfl|h
  ·rw[aHL fun e hr z=>hn.1 (bI.mpr ⟨e,hr,z⟩),zI]
  ·rw[aKO hn.2 h,xJ fun z=>hn.1 (bI.mpr ⟨e',h,z⟩)]
theorem aBm(hn:(r.map (·.1)).Nodup)(f:Nat->Int)(x:Int)(k:Nat):(pr r x f k=f k/\∀e∈r,e.1≠k)\/∃b,(k,b)∈r/\pr r x f k=f k+if b then x else -x:=by
 by_cases h:∃e∈r,e.1=k
 ·obtain⟨⟨k',b⟩,he,rfl⟩:=h
  exact .inr ⟨b,he,aKO (e:=(k',b)) hn he⟩
 ·exact .inl ⟨aHL fun e he z=>h ⟨e,he,z⟩,fun e he z=>h ⟨e,he,z⟩⟩
theorem Cap.pour(hc:Cap N f)(hn:(r.map (·.1)).Nodup)(hx:0<=x)(hr:∀e∈r,x<=rr N f e):Cap N (pr r x f):=fun k hk=>by
 obtain⟨h1,h2⟩:=hc k hk;rcases aBm hn f x k with⟨e,_⟩| ⟨b,hb,e⟩
 ·rw[e];exact⟨h1,h2⟩
 ·rw[e];have:=hr _ hb;unfold rr at this;cases b<;>simp at this|- <;>lia
def Tight(N:Nt)(p:Nat->Int)(r:List (Nat×Bool)):Prop:=∀e∈r,p (rt N e)+rd N e=p (rh N e)
theorem Pot.pour(hp:Pot N f p)(hn:(r.map (·.1)).Nodup)(ht:Tight N p r):Pot N (pr r x f) p:=fun k hk=>by
 obtain⟨h1,h2⟩:=hp k hk;rcases aBm hn f x k with⟨e,_⟩| ⟨b,hb,e⟩
 ·rw[e];exact⟨h1,h2⟩
 ·have:=ht _ hb;unfold rt rd rh at this;cases b<;>simp at this<;>exact⟨fun _=>by lia,fun _=>by lia⟩
theorem cut(hf:Flo N f a)(hc:Cap N f)(hp:Pot N f p)(W:Nat->Bool)(hq:∀k,k<N.m->W k=false->q (N.t k)+N.d k<=q (N.h k))(h0:p 0<=q 0)(h1:q 1<p 1):
 a<=sm N.m fun k=>if W k then N.c k else 0:=by
 have g:=hf fun v=>if q v<p v then 1 else 0
 simp only[if_pos h1,if_neg (Int.not_lt.mpr h0)]at g;rw[show a=a*(1 - 0)by lia,<-g]
 refine wN fun k hk=>?_
 obtain⟨c1,c2⟩:=hc k hk;obtain⟨h3,h4⟩:=hp k hk;by_cases z:f k=0
 ·rw[z,aOu];split<;>lia
 ·have h4:=h4 (by lia);cases hw:W k
  ·have:=hq k hk hw;have:¬(¬q (N.t k)<p (N.t k)/\q (N.h k)<p (N.h k)):=by lia
   simp only[cD,if_false];by_cases e1:q (N.h k)<p (N.h k)
   ·by_cases e2:q (N.t k)<p (N.t k)
    ·rw[if_pos e1,if_pos e2];lia
    ·exact absurd ⟨e2,e1⟩ this
   ·rw[if_neg e1];by_cases e2:q (N.t k)<p (N.t k)
    ·rw[if_pos e2];lia
    ·rw[if_neg e2];lia
  ·rw[if_pos rfl];by_cases e1:q (N.h k)<p (N.h k)
   ·by_cases e2:q (N.t k)<p (N.t k)
    ·rw[if_pos e1,if_pos e2];lia
    ·rw[if_pos e1,if_neg e2];lia
   ·by_cases e2:q (N.t k)<p (N.t k)
    ·rw[if_neg e1,if_pos e2];lia
    ·rw[if_neg e1,if_neg e2];lia
theorem aCP(hf:Flo N f a)(hc:∀k,k<N.m->0<=f k)(ρ:Nat->Int)(hr:∀k,k<N.m->ρ (N.t k)<ρ (N.h k)){j:Nat}(hj:j<N.m)(h0:ρ 0<ρ (N.h j))(h1:ρ (N.h j)<=ρ 1):f j<=a:=by
 have g:=hf fun v=>if ρ (N.h j)<=ρ v then 1 else 0
 simp only[if_pos h1,if_neg (aQx.mpr h0)]at g;rw[show a=a*(1 - 0)by lia,<-g];have k0:∀k,k<N.m->0<=f k*((if ρ (N.h j)<=ρ (N.h k)then(1:Int)else 0) - if ρ (N.h j)<=ρ (N.t k)then 1 else 0):=fun k hk=>by
  refine cO (hc k hk) ?_
  have:=hr k hk;split<;>split<;>lia
 have hl:=hr j hj;have:=aLU k0 hj;rw[if_pos (b4 _),if_neg (by lia)]at this
 lia
end NF
namespace NF
variable {N:Nt}{f p q st:Nat->Int}{a e x:Int}{n:Nat}
def In(N:Nt)(n:Nat):Prop:=∀k,k<N.m->N.t k<n/\N.h k<n
structure Least(N:Nt)(n:Nat)(f st p:Nat->Int):Prop where
 ge:∀v,v<n->st v<=p v
 pot:Pot N f p
 le:∀q,(∀v,v<n->st v<=q v)->Pot N f q->∀v,v<n->p v<=q v
def Open(N:Nt)(f:Nat->Int)(o:Nat×Bool):Prop:=o.1<N.m/\0<rr N f o
theorem mF:Pot N f p↔∀o,Open N f o->p (rt N o)+rd N o<=p (rh N o):=by
 constructor
 ·rintro h ⟨k,b⟩ ⟨hk,ho⟩;obtain⟨h1,h2⟩:=h k hk;unfold rr at ho;unfold rt rd rh;cases b
  ·simp only[cD,if_false]at ho|-;have:=h2 ho;lia
  ·simp only[if_true]at ho|-;exact h1 (by lia)
 ·intro h k hk
  refine⟨fun h1=>?_,fun h1=>?_⟩
  ·have:=h (k,true) ⟨hk,by unfold rr;simp only[if_true];lia⟩;simpa only[rt,rd,rh,if_true]using this
  ·have:=h (k,false) ⟨hk,by unfold rr;simp only[cD,if_false];lia⟩;simp only[rt,rd,rh,cD,if_false]at this
   lia
theorem aH7{o:Nat×Bool}(hq:Pot N f q)(ho:Open N f o)(hl:∀v,v<n->p v<=q v)(hi:rt N o<n):∀v,v<n->up p (rh N o) (p (rt N o)+rd N o) v<=q v:=fun v hv=>by
 unfold up;split
 ·rename_i z;subst z;have:=mF.mp hq o ho;have:=hl _ hi
  lia
 ·exact hl v hv
theorem reach(L:Least N n f st p)(hi:In N n)(h1:1<n)(R:Nat->Prop)(hz:∀v,v<n->p v=st v->R v)(hc:∀o,Open N f o->R (rt N o)->p (rt N o)+rd N o=p (rh N o)->R (rh N o)):R 1:=by
 by_cases hr:R 1
 ·exact hr
 ·exfalso;have key:=L.le (fun v=>open Classical in if R v then p v else p v - 1) (fun v hv=>?_) (mF.mpr fun o ho=>?_) 1 h1
  ·simp only[if_neg hr]at key;lia
  ·have:=L.ge v hv;try dsimp only
   split
   ·exact this
   ·rename_i z;have:p v≠st v:=fun w=>z (hz v hv w)
    lia
  ·have h:=mF.mp L.pot o ho;have h':=hc o ho;try dsimp only
   split
   ·rename_i z1;split
    ·exact h
    ·rename_i z2;have:p (rt N o)+rd N o≠p (rh N o):=fun w=>z2 (h' z1 w)
     lia
   ·split<;>lia
theorem aIQ(h1:Pot N f p)(h2:Pot N f q)(x:Int):Pot N f fun v=>if p v<q v - x then q v - x else p v:=mF.mpr fun o ho=>by
 have:=mF.mp h1 o ho;have:=mF.mp h2 o ho;try dsimp only
 split<;>split<;>lia
end NF
namespace NF
structure Wk where
 u:Nat->Int
 l:Nat->Int
 p:Nat->Int
noncomputable def net(w:Wk)(n:Nat)(es:List (Nat×Nat))(P:Int):Nt where
 m:=4*n+es.length
 t k:=if k<4*n then(match k%4 with|0=>0|1=>2*(k/4)+2|2=>2*(k/4)+2|_=>2*(k/4)+3)else 2*((es[k - 4*n]?).getD (0,0)).1+3
 h k:=if k<4*n then(match k%4 with|0=>2*(k/4)+2|1=>2*(k/4)+3|2=>2*(k/4)+3|_=>1)else 2*((es[k - 4*n]?).getD (0,0)).2+2
 d k:=if k<4*n then(match k%4 with|1=>w.u (k/4)|2=>w.l (k/4)|_=>0)else 0
 c k:=if k<4*n/\k%4=1 then w.p (k/4)else P
variable {w:Wk}{n:Nat}{es:List (Nat×Nat)}{P:Int}{f p q:Nat->Int}{a:Int}
variable{r:Nat->Int}{i:Nat}
inductive Pipe(w:Wk)(n:Nat)(es:List (Nat×Nat))(P:Int)(k:Nat):Prop where
 |src (i:Nat) (hi:i<n) (e:k=4*i) (t:(net w n es P).t k=0) (h:(net w n es P).h k=2*i+2) (d:(net w n es P).d k=0) (c:(net w n es P).c k=P)
 |usu (i:Nat) (hi:i<n) (e:k=4*i+1) (t:(net w n es P).t k=2*i+2) (h:(net w n es P).h k=2*i+3) (d:(net w n es P).d k=w.u i) (c:(net w n es P).c k=w.p i)
 |lea (i:Nat) (hi:i<n) (e:k=4*i+2) (t:(net w n es P).t k=2*i+2) (h:(net w n es P).h k=2*i+3) (d:(net w n es P).d k=w.l i) (c:(net w n es P).c k=P)
 |snk (i:Nat) (hi:i<n) (e:k=4*i+3) (t:(net w n es P).t k=2*i+3) (h:(net w n es P).h k=1) (d:(net w n es P).d k=0) (c:(net w n es P).c k=P)
 |nee (x y:Nat) (j:Nat) (hj:es[j]?=some (x,y)) (e:k=4*n+j) (t:(net w n es P).t k=2*x+3) (h:(net w n es P).h k=2*y+2) (d:(net w n es P).d k=0) (c:(net w n es P).c k=P)
theorem pipe{k:Nat}(hk:k<(net w n es P).m):Pipe w n es P k:=by
 have hk:k<4*n+es.length:=hk;by_cases h4:k<4*n
 ·have hi:k/4<n:=by lia
  have hm:k%4=0\/k%4=1\/k%4=2\/k%4=3:=by lia
  rcases hm with hm|hm|hm|hm
  ·exact .src (k/4) hi (by lia) (by simp[net,h4,hm]) (by simp[net,h4,hm]) (by simp[net,h4,hm]) (by simp[net,h4,hm])
  ·exact .usu (k/4) hi (by lia) (by simp[net,h4,hm]) (by simp[net,h4,hm]) (by simp[net,h4,hm]) (by simp[net,h4,hm])
  ·exact .lea (k/4) hi (by lia) (by simp[net,h4,hm]) (by simp[net,h4,hm]) (by simp[net,h4,hm]) (by simp[net,h4,hm])
  ·exact .snk (k/4) hi (by lia) (by simp[net,h4,hm]) (by simp[net,h4,hm]) (by simp[net,h4,hm]) (by simp[net,h4,hm])
 ·have hj:k - 4*n<es.length:=by lia
  have e:es[k - 4*n]?=some (es[k - 4*n]):=bC hj
  exact .nee es[k - 4*n].1 es[k - 4*n].2 (k - 4*n) e (by lia) (by simp[net,h4,e]) (by simp[net,h4,e]) (by simp[net,h4,e]) (by simp[net,h4,e])
theorem aA1(he:∀e∈es,e.1<n/\e.2<n):In (net w n es P) (2*n+2):=fun k hk=>by
 cases pipe hk with
 |src i hi e t h d c=>rw[t,h];lia
 |usu i hi e t h d c=>rw[t,h];lia
 |lea i hi e t h d c=>rw[t,h];lia
 |snk i hi e t h d c=>rw[t,h];lia
 |nee x y j hj e t h d c=>have:=he _ (bD hj);rw[t,h];lia
noncomputable def rk(n:Nat)(r:Nat->Int)(v:Nat):Int:=if v=0 then -1 else if v=1 then 2*n else if v%2=0 then 2*r (v/2 - 1)else 2*r (v/2 - 1)+1
theorem vV:rk n r (2*i+2)=2*r i:=by
 unfold rk;rw[if_neg (by lia),if_neg (by lia),if_pos (by lia),show(2*i+2)/2 - 1=i by lia]
theorem uO:rk n r (2*i+3)=2*r i+1:=by
 unfold rk;rw[if_neg (by lia),if_neg (by lia),if_neg (by lia),show(2*i+3)/2 - 1=i by lia]
theorem aKP(hr:∀i,i<n->0<=r i/\r i<n)(he:∀e∈es,r e.1<r e.2):∀k,k<(net w n es P).m->rk n r ((net w n es P).t k)<rk n r ((net w n es P).h k):=fun k hk=>by
 cases pipe hk with
 |src i hi e t h d c=>rw[t,h,vV];have:=hr i hi;show(-1:Int)<_;lia
 |usu i hi e t h d c=>rw[t,h,vV,uO];lia
 |lea i hi e t h d c=>rw[t,h,vV,uO];lia
 |snk i hi e t h d c=>rw[t,h,uO];have:=hr i hi;show _<(2*n:Int);lia
 |nee x y j hj e t h d c=>have:=he _ (bD hj);rw[t,h,vV,uO];simp only at this;lia
theorem aKn(hf:Flo (net w n es P) f a)(hc:Cap (net w n es P) f)(hr:∀i,i<n->0<=r i/\r i<n)(he:∀e∈es,r e.1<r e.2)(hn:∀e∈es,e.1<n/\e.2<n){k:Nat}(hk:k<(net w n es P).m):f k<=a:=by
 have up:=aKP (w:=w) (P:=P) hr he;have hu:=up k hk
 refine aCP hf (fun k hk=>(hc k hk).1) (rk n r) up hk ?_ ?_
 ·cases pipe hk with
  |src i hi e t h d c=>rw[t]at hu;exact hu
  |usu i hi e t h d c=>rw[h,uO];have:=hr i hi;show(-1:Int)<_;lia
  |lea i hi e t h d c=>rw[h,uO];have:=hr i hi;show(-1:Int)<_;lia
  |snk i hi e t h d c=>rw[h];show(-1:Int)<2*n;lia
  |nee x y j hj e t h d c=>rw[h,vV];have:=hr y (hn _ (bD hj)).2;show(-1:Int)<_;lia
 ·show _<=(2*n:Int);cases pipe hk with
  |src i hi e t h d c=>rw[h,vV];have:=hr i hi;lia
  |usu i hi e t h d c=>rw[h,uO];have:=hr i hi;lia
  |lea i hi e t h d c=>rw[h,uO];have:=hr i hi;lia
  |snk i hi e t h d c=>rw[h];exact b4 _
  |nee x y j hj e t h d c=>rw[h,vV];have:=hr y (hn _ (bD hj)).2;lia
noncomputable def isU(n:Nat)(k:Nat):Bool:=decide (k<4*n/\k%4=1)
theorem aAD{g:Nat->Int}{n:Nat}:sm (4*n) g=sm n fun i=>g (4*i)+g (4*i+1)+g (4*i+2)+g (4*i+3):=by
 induction n with
 |zero=>rfl
 |succ n ih=>
  show sm (4*n) g+g (4*n)+g (4*n+1)+g (4*n+2)+g (4*n+3)=sm n (fun i=>g (4*i)+g (4*i+1)+g (4*i+2)+g (4*i+3))+(g (4*n)+g (4*n+1)+g (4*n+2)+g (4*n+3));rw[ih]
  lia
theorem vB{g:Nat->Int}{n:Nat}:∀{j:Nat},sm (n+j) g=sm n g+sm j fun i=>g (n+i)
 |0=>by show sm n g=sm n g+0;lia
 |j+1=>by
  show sm (n+j) g+g (n+j)=sm n g+(sm j (fun i=>g (n+i))+g (n+j));rw[vB];lia
theorem aMn:(sm (net w n es P).m fun k=>if isU n k then(net w n es P).c k else 0)=sm n w.p:=by
 show sm (4*n+es.length) _=_;rw[vB,aAD];rw[oF (n:=es.length) (fun i hi=>if_neg (by simp[isU];lia)),aO8]
 refine iF fun i hi=>?_
 have h0:isU n (4*i)=false:=by simp[isU]
 have h1:isU n (4*i+1)=true:=by simp[isU];lia
 have h2:isU n (4*i+2)=false:=by simp[isU]
 have h3:isU n (4*i+3)=false:=by simp[isU]
 rw[h0,h1,h2,h3];simp only[cD,if_false,if_true];have:(net w n es P).c (4*i+1)=w.p i:=by
  show(if 4*i+1<4*n/\(4*i+1)%4=1 then w.p ((4*i+1)/4)else P)=_;rw[if_pos (by lia),show(4*i+1)/4=i by lia]
 rw[this];lia
end NF
namespace NF
variable {w:Wk}{n:Nat}{es:List (Nat×Nat)}{P E:Int}{f p q b h:Nat->Int}{a:Int}
noncomputable def pf(E:Int)(b h:Nat->Int)(v:Nat):Int:=if v=0 then 0 else if v=1 then E else if v%2=0 then b (v/2 - 1)else b (v/2 - 1)+h (v/2 - 1)
theorem aEC{i:Nat}:pf E b h (2*i+2)=b i:=by
 unfold pf;rw[if_neg (by lia),if_neg (by lia),if_pos (by lia),show(2*i+2)/2 - 1=i by lia]
theorem aEQ{i:Nat}:pf E b h (2*i+3)=b i+h i:=by
 unfold pf;rw[if_neg (by lia),if_neg (by lia),if_neg (by lia),show(2*i+3)/2 - 1=i by lia]
theorem aOd:pf E b h 0=0:=rfl
theorem aNC:pf E b h 1=E:=rfl
structure Tim(n:Nat)(es:List (Nat×Nat))(E:Int)(b h:Nat->Int):Prop where
 b0:∀i,i<n->0<=b i
 e:∀i,i<n->b i+h i<=E
 ne:∀x∈es,b x.1+h x.1<=b x.2
theorem aAJ(T:Tim n es E b h)(hl:∀i,i<n->w.l i<=h i):∀k,k<(net w n es P).m->isU n k=false->pf E b h ((net w n es P).t k)+(net w n es P).d k<=pf E b h ((net w n es P).h k):=fun k hk hu=>by
 cases pipe hk with
 |src i hi e t h' d c=>rw[t,h',d,aEC,aOd];have:=T.b0 i hi;lia
 |usu i hi e t h' d c=>
  have:isU n k=true:=by unfold isU;rw[decide_eq_true_iff];lia
  rw[this]at hu;cases hu
 |lea i hi e t h' d c=>rw[t,h',d,aEC,aEQ];have:=hl i hi;lia
 |snk i hi e t h' d c=>rw[t,h',d,aEQ,aNC];have:=T.e i hi;lia
 |nee x y j hj e t h' d c=>rw[t,h',d,aEC,aEQ];have:=T.ne _ (bD hj);simp only at this;lia
theorem aCJ(hf:Flo (net w n es P) f a)(hc:Cap (net w n es P) f)(hp:Pot (net w n es P) f p)(h0:p 0<=0)(T:Tim n es E b w.l)(h1:E<p 1):a<=sm n w.p:=by
 rw[<-aMn (w:=w) (n:=n) (es:=es) (P:=P)]
 exact cut hf hc hp (isU n) (aAJ T fun i _=>b4 _) h0 h1
theorem plenty(hf:Flo (net w n es P) f a)(hc:Cap (net w n es P) f){r:Nat->Int}(hr:∀i,i<n->0<=r i/\r i<n)(he:∀e∈es,r e.1<r e.2)(hn:∀e∈es,e.1<n/\e.2<n)(ha:a<P){k:Nat}(hk:k<(net w n es P).m)(hu:isU n k=false):f k<(net w n es P).c k:=by
 have:=aKn hf hc hr he hn hk;have hP:(net w n es P).c k=P:=by
  show(if k<4*n/\k%4=1 then _ else P)=P;rw[if_neg];intro z;rw[show isU n k=true from decide_eq_true z]at hu;cases hu
 lia
theorem aD4(hp:Pot (net w n es P) f p)(ho:∀k,k<(net w n es P).m->isU n k=false->f k<(net w n es P).c k)(h0:p 0=0)(hn:∀e∈es,e.1<n/\e.2<n):
 (∀i,i<n->0<=p (2*i+2))/\(∀i,i<n->p (2*i+2)+w.l i<=p (2*i+3))/\(∀i,i<n->p (2*i+3)<=p 1)/\∀e∈es,p (2*e.1+3)<=p (2*e.2+2):=by
 have key:∀k,k<(net w n es P).m->isU n k=false->p ((net w n es P).t k)+(net w n es P).d k<=p ((net w n es P).h k):=fun k hk hu=>(hp k hk).1 (ho k hk hu)
 have hm:(net w n es P).m=4*n+es.length:=rfl
 refine⟨fun i hi=>?_,fun i hi=>?_,fun i hi=>?_,fun e he=>?_⟩
 ·have hk:4*i<(net w n es P).m:=by rw[hm];lia
  have:=key (4*i) hk (by simp[isU]);cases pipe hk with
  |src j hj e t h' d c=>obtain rfl:j=i:=by lia
                        rw[t,h',d,h0]at this;lia
  |usu j hj e=>lia
  |lea j hj e=>lia
  |snk j hj e=>lia
  |nee x y j hj e=>lia
 ·have hk:4*i+2<(net w n es P).m:=by rw[hm];lia
  have:=key (4*i+2) hk (by simp[isU]);cases pipe hk with
  |src j hj e=>lia
  |usu j hj e=>lia
  |lea j hj e t h' d c=>obtain rfl:j=i:=by lia
                        rw[t,h',d]at this;exact this
  |snk j hj e=>lia
  |nee x y j hj e=>lia
 ·have hk:4*i+3<(net w n es P).m:=by rw[hm];lia
  have:=key (4*i+3) hk (by simp[isU]);cases pipe hk with
  |src j hj e=>lia
  |usu j hj e=>lia
  |lea j hj e=>lia
  |snk j hj e t h' d c=>obtain rfl:j=i:=by lia
                        rw[t,h',d]at this;lia
  |nee x y j hj e=>lia
 ·obtain⟨j,hj⟩:=bT.mp he;have bn:=(aR.mp hj).1;have hk:4*n+j<(net w n es P).m:=by rw[hm];lia
  have:=key (4*n+j) hk (by unfold isU;rw[decide_eq_false_iff_not];lia);cases pipe hk with
  |src i hi e=>lia
  |usu i hi e=>lia
  |lea i hi e=>lia
  |snk i hi e=>lia
  |nee x y j' kg e' t h' d c=>
   obtain rfl:j'=j:=by lia
   rw[hj]at kg;cases kg;rw[t,h',d]at this;dsimp only;lia
theorem aIu{x:Int}(h:x<=0):pos x=0:=by unfold pos;rw[if_neg (by lia)]
theorem aGw(hq:∀k,k<(net w n es P).m->isU n k=false->p ((net w n es P).t k)+(net w n es P).d k<=p ((net w n es P).h k)):cost (net w n es P) p=sm n fun i=>w.p i*pos (w.u i - (p (2*i+3) - p (2*i+2))):=by
 have z:∀k,k<(net w n es P).m->isU n k=false->(net w n es P).c k*pos ((net w n es P).d k - (p ((net w n es P).h k) - p ((net w n es P).t k)))=0:=fun k hk hu=>by
  have:=hq k hk hu;rw[aIu (by lia),aOt]
 have hm:(net w n es P).m=4*n+es.length:=rfl;unfold cost;show sm (4*n+es.length) _=_;rw[vB,aAD,oF (n:=es.length) (fun i hi=>z _ (by rw[hm];lia) (by unfold isU;rw[decide_eq_false_iff_not];lia)),aO8]
 refine iF fun i hi=>?_
 rw[z (4*i) (by rw[hm];lia) (by simp[isU]),z (4*i+2) (by rw[hm];lia) (by simp[isU]),z (4*i+3) (by rw[hm];lia) (by simp[isU])];have hk:4*i+1<(net w n es P).m:=by rw[hm];lia
 cases pipe hk with
 |src j hj e=>lia
 |usu j hj e t h' d c=>obtain rfl:j=i:=by lia
                       rw[t,h',d,c];lia
 |lea j hj e=>lia
 |snk j hj e=>lia
 |nee x y j hj e=>lia
end NF
namespace NF
variable {w:Wk}{n:Nat}{es:List (Nat×Nat)}{P E:Int}{f p q b h:Nat->Int}{a x:Int}
structure Good(w:Wk)(n:Nat)(es:List (Nat×Nat))(P:Int)(f:Nat->Int)(a:Int)(p:Nat->Int):Prop where
 flo:Flo (net w n es P) f a
 cap:Cap (net w n es P) f
 pot:Pot (net w n es P) f p
 p0:p 0=0
 ge:∀v,v<2*n+2->0<=p v
theorem Good.pour{r:List (Nat×Bool)}(G:Good w n es P f a p)(wk:Walk (net w n es P) r 0 1)(nd:(r.map (·.1)).Nodup)(tg:Tight (net w n es P) p r)(hx:0<=x)(hr:∀o∈r,x<=rr (net w n es P) f o):Good w n es P (pr r x f) (a+x) p:=
 ⟨G.flo.pour wk,G.cap.pour nd hx hr,G.pot.pour nd tg,G.p0,G.ge⟩
theorem Good.least(G:Good w n es P f a p)(L:Least (net w n es P) (2*n+2) f (fun _=>0) q):Good w n es P f a q/\∀v,v<2*n+2->q v<=p v:=by
 have h:=L.le p (fun v hv=>G.ge v hv) G.pot
 refine⟨⟨G.flo,G.cap,L.pot,?_,L.ge⟩,h⟩
 have h1:=h 0 (by lia);have h2:=L.ge 0 (by lia);rw[G.p0]at h1;try dsimp only at h2
 lia
theorem Good.bound(G:Good w n es P f a p)(T:Tim n es E b w.l)(h1:E<p 1):a<=sm n w.p:=aCJ G.flo G.cap G.pot (by rw[G.p0];exact b4 _) T h1
theorem Good.route(G:Good w n es P f a p)(L:Least (net w n es P) (2*n+2) f (fun _=>0) p)(ho:∀k,k<(net w n es P).m->isU n k=false->f k<(net w n es P).c k)(hn:∀e∈es,e.1<n/\e.2<n)(hl:∀i,i<n->0<=w.l i)(h0:0<n)
 (R:Nat->Prop)(r0:R 0)(hc:∀o,Open (net w n es P) f o->R (rt (net w n es P) o)->p (rt (net w n es P) o)+rd (net w n es P) o=p (rh (net w n es P) o)->R (rh (net w n es P) o)):R 1:=by
 obtain⟨q1,q2,q3,q4⟩:=aD4 G.pot ho G.p0 hn;have hm:(net w n es P).m=4*n+es.length:=rfl;have fw:∀k,k<(net w n es P).m->isU n k=false->R ((net w n es P).t k)->p ((net w n es P).t k)+(net w n es P).d k=p ((net w n es P).h k)->R ((net w n es P).h k):=fun k hk hu hr ht=>by
  have:=hc (k,true) ⟨hk,by unfold rr;simp only[if_true];have:=ho k hk hu;lia⟩;simp only[rt,rh,rd,if_true]at this
  exact this hr ht
 have hb:∀i,i<n->p (2*i+2)=0->R (2*i+2):=fun i hi hz=>by
  have hk:4*i<(net w n es P).m:=by rw[hm];lia
  have:=fw (4*i) hk (by simp[isU]);cases pipe hk with
  |src j hj e t h' d c=>
   obtain rfl:j=i:=by lia
   rw[t,h',d,G.p0,hz]at this
   exact this r0 rfl
  |usu j hj e=>lia
  |lea j hj e=>lia
  |snk j hj e=>lia
  |nee x y j hj e=>lia
 have hd:∀i,i<n->p (2*i+3)=0->R (2*i+3):=fun i hi hz=>by
  have g1:=q1 i hi;have g2:=q2 i hi;have g3:=hl i hi;have hk:4*i+2<(net w n es P).m:=by rw[hm];lia
  have:=fw (4*i+2) hk (by simp[isU]);cases pipe hk with
  |src j hj e=>lia
  |usu j hj e=>lia
  |lea j hj e t h' d c=>
   obtain rfl:j=i:=by lia
   rw[t,h',d]at this
   exact this (hb j hi (by lia)) (by lia)
  |snk j hj e=>lia
  |nee x y j hj e=>lia
 refine reach L (aA1 hn) (by lia) R (fun v hv hz=>?_) hc
 try dsimp only at hz
 by_cases v0:v=0
 ·rw[v0];exact r0
 ·by_cases v1:v=1
  ·subst v1;have g1:=q1 0 h0;have g2:=q2 0 h0;have g3:=q3 0 h0;have g4:=hl 0 h0;have hk:3<(net w n es P).m:=by rw[hm];lia
   have:=fw 3 hk (by simp[isU]);cases pipe hk with
   |src j hj e=>lia
   |usu j hj e=>lia
   |lea j hj e=>lia
   |snk j hj e t h' d c=>
    obtain rfl:j=0:=by lia
    rw[t,h',d]at this
    exact this (hd 0 h0 (by lia)) (by lia)
   |nee x y j hj e=>lia
  ·by_cases ve:v%2=0
   ·obtain⟨i,rfl⟩:∃i,v=2*i+2:=⟨v/2 - 1,by lia⟩
    exact hb i (by lia) hz
   ·obtain⟨i,rfl⟩:∃i,v=2*i+3:=⟨v/2 - 1,by lia⟩
    exact hd i (by lia) hz
theorem Good.price(G:Good w n es P f a p)(ho:∀k,k<(net w n es P).m->isU n k=false->f k<(net w n es P).c k):len (net w n es P) f - a*p 1=sm n fun i=>w.p i*pos (w.u i - (p (2*i+3) - p (2*i+2))):=by
 have:=strong G.flo G.cap G.pot;rw[G.p0,aOI]at this;rw[this]
 exact aGw fun k hk hu=>(G.pot k hk).1 (ho k hk hu)
theorem best(hf:Flo (net w n es P) f a)(hc:Cap (net w n es P) f)(T:Tim n es E b h)(hl:∀i,i<n->w.l i<=h i):len (net w n es P) f - a*E<=sm n fun i=>w.p i*pos (w.u i - h i):=by
 have:=weak hf hc (pf E b h);rw[aOd,aNC,aOI,aGw (aAJ T hl)]at this
 refine dQ this (aPU (iF fun i _=>?_))
 rw[aEC,aEQ,show b i+h i - b i=h i by lia]
end NF
namespace NF
variable{e:(Nat×Nat)×Int}{L:Fl}
noncomputable abbrev Fl:=List ((Nat×Nat)×Int)
noncomputable def sl(L:Fl)(g:Nat×Nat->Int):Int:=(L.map fun e=>e.2*g e.1).sum
theorem aLn{g:Nat×Nat->Int}:sl [] g=0:=rfl
theorem mD{g:Nat×Nat->Int}:sl (e::L) g=e.2*g e.1+sl L g:=by unfold sl;rw[aM,d4]
def Con(L:Fl)(a:Int):Prop:=∀p:Nat->Int,sl L (fun s=>p s.2 - p s.1)=a*(p 1 - p 0)
theorem aGu{g:Nat×Nat->Int}:∀{L:Fl},(∀e∈L,0<=e.2*g e.1)->0<=sl L g
 | [],_=>b4 _
 |e::L,h=>by
  rw[mD];have:=h e bJ;have:=aGu fun e he=>h e (aZ _ he)
  lia
theorem aC3{g:Nat×Nat->Int}:∀{L:Fl},(∀e∈L,0<=e.2*g e.1)->∀e∈L,e.2*g e.1<=sl L g
 | [],_,_,he=>by cases he
 |e::L,h,e',he=>by
  rw[mD];have h0:=aGu fun e he=>h e (aZ _ he)
  rcases bE.mp he with rfl|he
  ·lia
  ·have:=aC3 (fun e he=>h e (aZ _ he)) e' he;have:=h e bJ
   lia
theorem aJS{a:Int}(hc:Con L a)(h0:∀e∈L,0<=e.2){v:Nat}(hv0:v≠0)(mm:v≠1)(he:e∈L)(hv:e.1.2=v)(hp:0<e.2):∃e'∈L,e'.1.1=v/\0<e'.2:=by
 have hh:¬∀e'∈L,e'.1.1=v->¬0<e'.2:=fun no=>by
  have k:=hc fun u=>if u=v then 1 else 0
  rw[if_neg (Ne.symm mm),if_neg (Ne.symm hv0)]at k;have nn:∀e'∈L,0<=e'.2*((if e'.1.2=v then(1:Int)else 0) - if e'.1.1=v then 1 else 0):=fun e' jb=>by
   have z:=h0 e' jb;by_cases ht:e'.1.1=v
   ·have:e'.2=0:=by have:=no e' jb ht;lia
    rw[this,aOu];exact b4 _
   ·rw[if_neg ht,aOI];split
    ·lia
    ·lia
  have:=aC3 (g:=fun s=>(if s.2=v then(1:Int)else 0) - if s.1=v then 1 else 0) nn e he;rw[if_pos hv]at this;by_cases ht:e.1.1=v
  ·exact no e he ht hp
  ·rw[if_neg ht]at this;simp only[aQo,aOt]at k;have k':sl L (fun s=>(if s.2=v then(1:Int)else 0) - if s.1=v then 1 else 0)=0:=k
   lia
 apply cB;intro h
 exact hh fun e' jb ht hp'=>h ⟨e',jb,ht,hp'⟩
theorem aJl{a:Int}(hc:Con L a)(h0:∀e∈L,0<=e.2)(hz:∀e∈L,e.1.2≠0)(ha:0<a):∃e∈L,e.1.1=0/\0<e.2:=by
 apply cB;intro h;have k:=hc fun u=>if u=0 then 1 else 0
 rw[if_neg (by lia),if_pos rfl]at k;have k':sl L (fun s=>(if s.2=0 then(1:Int)else 0) - if s.1=0 then 1 else 0)=a*(0 - 1):=k;have:0<=sl L (fun s=>(if s.2=0 then(1:Int)else 0) - if s.1=0 then 1 else 0):=aGu fun e he=>by
  rw[if_neg (hz e he)];by_cases ht:e.1.1=0
  ·have z:=h0 e he;have:¬0<e.2:=fun hp=>h ⟨e,he,ht,hp⟩
   have:e.2=0:=by lia
   rw[this,aOu];exact b4 _
  ·rw[if_neg ht];simp
 lia
noncomputable def tk(x:Int)(s:Nat×Nat)(L:Fl):Fl:=L.map fun e=>if e.1=s then(e.1,e.2 - x)else e
theorem aK0{x:Int}{s:Nat×Nat}{g:Nat×Nat->Int}:∀{L:Fl},(L.map (·.1)).Nodup->s∈L.map (·.1)->sl (tk x s L) g=sl L g - x*g s
 | [],_,h=>by cases h
 |e::L,hn,h=>by
  rw[aM,bY]at hn;unfold tk;rw[aM,mD,mD];by_cases hs:e.1=s
  ·rw[if_pos hs];have hk:(L.map fun e=>if e.1=s then(e.1,e.2 - x)else e)=L:=by
    conv=>rhs;rw[<-List.map_id L]
    refine cL fun e' jb=>?_
    rw[if_neg fun z=>hn.1 (by rw[hs,<-z];exact cY jb)];rfl
   rw[hk];subst hs;dsimp only;rw[aO2];lia
  ·rw[if_neg hs];have hm:s∈L.map (·.1):=by
    rcases bE.mp h with z|z
    ·exact absurd z.symm hs
    ·exact z
   have:=aK0 (x:=x) (g:=g) hn.2 hm;unfold tk at this;rw[this];lia
theorem uZ{x:Int}{s:Nat×Nat}:(tk x s L).map (·.1)=L.map (·.1):=by
 unfold tk;rw[b7]
 refine cL fun e _=>?_
 show(if e.1=s then(e.1,e.2 - x)else e).1=e.1;split<;>rfl
end NF
namespace NF
variable {L:Fl}{a x:Int}
def SW:List (Nat×Nat)->Nat->Nat->Prop
 | [],u,v=>u=v
 |s::r,u,v=>s.1=u/\SW r s.2 v
def tks(x:Int):List (Nat×Nat)->Fl->Fl
 | [],L=>L
 |s::r,L=>tks x r (tk x s L)
theorem nG:∀{r:List (Nat×Nat)}{L:Fl},(tks x r L).map (·.1)=L.map (·.1)
 | [],_=>rfl
 |s::r,L=>by unfold tks;rw[nG,uZ]
theorem aHM{p:Nat->Int}:∀{r:List (Nat×Nat)}{L:Fl}{u v:Nat},(L.map (·.1)).Nodup->(∀s∈r,s∈L.map (·.1))->SW r u v->sl (tks x r L) (fun s=>p s.2 - p s.1)=sl L (fun s=>p s.2 - p s.1) - x*(p v - p u)
 | [],L,u,v,_,_,h=>by cases h;unfold tks;rw[aQo,aOt,aOI]
 |s::r,L,u,v,hn,hm,⟨h1,h2⟩=>by
  unfold tks;rw[aHM (by rw[uZ];exact hn) (fun s' hs=>by rw[uZ];exact hm s' (aZ _ hs)) h2,aK0 hn (hm s bJ)];subst h1;rw[c9,c9,c9];lia
theorem Con.take{r:List (Nat×Nat)}(hc:Con L a)(hn:(L.map (·.1)).Nodup)(hm:∀s∈r,s∈L.map (·.1))(w:SW r 0 1):Con (tks x r L) (a - x):=fun p=>by
 rw[aHM hn hm w,hc p,aO2]
noncomputable def at_(L:Fl)(s:Nat×Nat):Int:=(L.lookup s).getD 0
theorem aKR{s s':Nat×Nat}:∀{L:Fl},at_ (tk x s L) s'=if s'=s/\s∈L.map (·.1)then at_ L s' - x else at_ L s'
 | []=>by unfold tk at_;simp
 |e::L=>by
  have ih:=aKR (s:=s) (s':=s') (L:=L);unfold tk at_ at ih|-;rw[aM];by_cases h1:s'=e.1
  ·subst h1;have hl:dS e.1 (e::L)=some e.2:=by rw[b6,beq_self_eq_true]
   by_cases h2:e.1=s
   ·subst h2;rw[if_pos rfl,if_pos ⟨rfl,by simp⟩,hl,b6,beq_self_eq_true];rfl
   ·have:¬(e.1=s/\s∈(e::L).map (·.1)):=fun z=>h2 z.1
    rw[if_neg h2,if_neg this,hl,b6,beq_self_eq_true]
  ·have hb:(s'==e.1)=false:=beq_eq_false_iff_ne.mpr h1;have hl:dS s' ((if e.1=s then(e.1,e.2 - x)else e)::L.map fun e=>if e.1=s then(e.1,e.2 - x)else e)=dS s' (L.map fun e=>if e.1=s then(e.1,e.2 - x)else e):=by
    rw[b6];split
    ·rename_i z;exfalso;by_cases h2:e.1=s
     ·rw[if_pos h2]at z;rw[hb]at z;cases z
     ·rw[if_neg h2]at z;rw[hb]at z;cases z
    ·rfl
   rw[hl,ih];rw[show dS s' (e::L)=dS s' L from by rw[b6,hb]];by_cases h3:s'=s
   ·subst h3;simp only[true_and,aM,bE,h1,false_or]
   ·simp only[h3,false_and]
theorem aFY{s':Nat×Nat}:∀{r:List (Nat×Nat)}{L:Fl},(∀s∈r,s∈L.map (·.1))->at_ (tks x r L) s'=at_ L s' - x*(r.count s':Int)
 | [],L,_=>by unfold tks;simp
 |s::r,L,hm=>by
  unfold tks;rw[aFY (fun s' hs=>by rw[uZ];exact hm s' (aZ _ hs)),aKR,aOy];by_cases h:s'=s
  ·subst h;rw[if_pos ⟨rfl,hm s' bJ⟩];simp only[beq_self_eq_true,if_true,Int.natCast_add,aOD]
   lia
  ·rw[if_neg (fun z=>h z.1),if_neg (by simpa using Ne.symm h)];simp
theorem aJP(hc:Con L a)(h0:∀e∈L,0<=e.2)(ρ:Nat->Int)(hr:∀e∈L,ρ e.1.1<ρ e.1.2){e:(Nat×Nat)×Int}(he:e∈L)(h1:ρ 0<ρ e.1.2)(h2:ρ e.1.2<=ρ 1):e.2<=a:=by
 have k:=hc fun v=>if ρ e.1.2<=ρ v then 1 else 0
 rw[if_pos h2,if_neg (aQx.mpr h1)]at k;have k':sl L (fun s=>(if ρ e.1.2<=ρ s.2 then(1:Int)else 0) - if ρ e.1.2<=ρ s.1 then 1 else 0)=a*(1 - 0):=k;have:=aC3 (L:=L) (g:=fun s=>(if ρ e.1.2<=ρ s.2 then(1:Int)else 0) - if ρ e.1.2<=ρ s.1 then 1 else 0) (fun e' jb=>by
  refine cO (h0 e' jb) ?_
  have:=hr e' jb;split<;>split<;>lia) e he
 have hl:=hr e he;rw[if_pos (b4 _),if_neg (by lia)]at this
 lia
end NF
namespace NF
variable {N:Nt}{f:Nat->Int}{a v:Int}{s:Nat×Nat}{g:Nat×Nat->Int}
noncomputable def ad(s:Nat×Nat)(v:Int):Fl->Fl
 | []=>[(s,v)]
 |e::L=>if e.1=s then(e.1,e.2+v)::L else e::ad s v L
theorem aLa:∀{L:Fl},sl (ad s v L) g=sl L g+v*g s
 | []=>by unfold ad;rw[mD,aLn];dsimp only;lia
 |e::L=>by
  unfold ad;split
  ·rename_i h;rw[mD,mD];subst h;dsimp only;rw[aO3];lia
  ·rw[mD,mD,aLa];lia
theorem aDf{s':Nat×Nat}:∀{L:Fl},s'∈(ad s v L).map (·.1)↔s'=s\/s'∈L.map (·.1)
 | []=>by unfold ad;simp
 |e::L=>by
  unfold ad;split
  ·rename_i h;subst h;simp only[aM,bE];constructor
   ·exact .inr
   ·rintro(h|h)
    ·exact .inl h
    ·exact h
  ·simp only[aM,bE];rw[aDf];constructor
   ·rintro(h|h|h)
    ·exact .inr (.inl h)
    ·exact .inl h
    ·exact .inr (.inr h)
   ·rintro(h|h|h)
    ·exact .inr (.inl h)
    ·exact .inl h
    ·exact .inr (.inr h)
theorem aBB:∀{L:Fl},(L.map (·.1)).Nodup->((ad s v L).map (·.1)).Nodup
 | [],_=>by unfold ad;simp
 |e::L,h=>by
  unfold ad;rw[aM,bY]at h;split
  ·rw[aM,bY];exact h
  ·rename_i hs;rw[aM,bY]
   refine⟨fun z=>?_,aBB h.2⟩
   rcases aDf.mp z with z|z
   ·exact hs z
   ·exact h.1 z
theorem y8(hv:0<=v):∀{L:Fl},(∀e∈L,0<=e.2)->∀e∈ad s v L,0<=e.2
 | [],_,e,he=>by
   unfold ad at he;rw[bO.mp he];exact hv
 |e'::L,h,e,he=>by
  unfold ad at he;split at he
  ·rcases bE.mp he with rfl|he
   ·have:=h e' bJ;dsimp only;lia
   ·exact h e (aZ _ he)
  ·rcases bE.mp he with rfl|he
   ·exact h e bJ
   ·exact y8 hv (fun e he=>h e (aZ _ he)) e he
theorem aK3{s':Nat×Nat}:∀{L:Fl},at_ (ad s v L) s'=at_ L s'+if s'=s then v else 0
 | []=>by
   unfold ad at_;by_cases h:s'=s
   ·rw[b6,beq_iff_eq.mpr h,if_pos h];simp
   ·rw[b6,beq_eq_false_iff_ne.mpr h,if_neg h];simp
 |e::L=>by
  have ih:=aK3 (s':=s') (L:=L);unfold ad;by_cases h1:s'=e.1
  ·subst h1;have l1:∀M:Fl,at_ (e::M) e.1=e.2:=fun M=>by unfold at_;rw[b6,beq_self_eq_true];rfl
   by_cases h2:e.1=s
   ·rw[if_pos h2,if_pos h2,l1];unfold at_;rw[b6,beq_self_eq_true];rfl
   ·rw[if_neg h2,if_neg h2,l1,l1];lia
  ·have l1:∀(y:Int)(M:Fl),at_ ((e.1,y)::M) s'=at_ M s':=fun y M=>by unfold at_;rw[b6,beq_eq_false_iff_ne.mpr h1]
   have l2:∀M:Fl,at_ (e::M) s'=at_ M s':=fun M=>l1 e.2 M
   by_cases h2:e.1=s
   ·rw[if_pos h2,l1,l2,if_neg (fun z=>h1 (z.trans h2.symm))];lia
   ·rw[if_neg h2,l2,l2,ih]
def stp(N:Nt)(f:Nat->Int):Nat->Fl
 |0=>[]
 |k+1=>ad (N.t k,N.h k) (f k) (stp N f k)
theorem aGY:∀{k:Nat},sl (stp N f k) g=sm k fun j=>f j*g (N.t j,N.h j)
 |0=>rfl
 |k+1=>by
  show sl (ad _ _ _) g=sm k _+_;rw[aLa,aGY]
theorem aMc(hf:Flo N f a):Con (stp N f N.m) a:=fun p=>by rw[aGY];exact hf p
theorem tM:∀{k:Nat},((stp N f k).map (·.1)).Nodup
 |0=>List.Pairwise.nil
 |k+1=>aBB tM
theorem wC(h:∀k,k<N.m->0<=f k):∀{k:Nat},k<=N.m->∀e∈stp N f k,0<=e.2
 |0,_,e,he=>by cases he
 |k+1,hk,e,he=>y8 (h k (by lia)) (wC h (by lia)) e he
theorem aGP{s:Nat×Nat}:∀{k:Nat},at_ (stp N f k) s=sm k fun j=>if s=(N.t j,N.h j)then f j else 0
 |0=>rfl
 |k+1=>by
  show at_ (ad _ _ _) s=sm k _+_;rw[aK3,aGP]
theorem vU{s:Nat×Nat}:∀{k:Nat},s∈(stp N f k).map (·.1)->∃j,j<k/\s=(N.t j,N.h j)
 |0,h=>by cases h
 |k+1,h=>by
  rcases aDf.mp h with h|h
  ·exact⟨k,by lia,h⟩
  ·obtain⟨j,hj,e⟩:=vU h
   exact⟨j,by lia,e⟩
end NF
namespace NF
variable {w:Wk}{n:Nat}{es:List (Nat×Nat)}{P:Int}{f p:Nat->Int}{a:Int}
theorem aNE:len (net w n es P) f=sm n fun i=>f (4*i+1)*w.u i+f (4*i+2)*w.l i:=by
 have hm:(net w n es P).m=4*n+es.length:=rfl;unfold len;show sm (4*n+es.length) _=_;rw[vB,aAD,oF (n:=es.length) (fun j hj=>?_),aO8]
 ·refine iF fun i hi=>?_
  have e0:(net w n es P).d (4*i)=0:=by
   cases pipe (w:=w) (es:=es) (P:=P) (show 4*i<(net w n es P).m by rw[hm];lia)with
   |src j hj e t h d c=>exact d
   |usu j hj e=>lia
   |lea j hj e=>lia
   |snk j hj e=>lia
   |nee x y j hj e=>lia
  have e1:(net w n es P).d (4*i+1)=w.u i:=by
   cases pipe (w:=w) (es:=es) (P:=P) (show 4*i+1<(net w n es P).m by rw[hm];lia)with
   |src j hj e=>lia
   |usu j hj e t h d c=>obtain rfl:j=i:=by lia
                        exact d
   |lea j hj e=>lia
   |snk j hj e=>lia
   |nee x y j hj e=>lia
  have e2:(net w n es P).d (4*i+2)=w.l i:=by
   cases pipe (w:=w) (es:=es) (P:=P) (show 4*i+2<(net w n es P).m by rw[hm];lia)with
   |src j hj e=>lia
   |usu j hj e=>lia
   |lea j hj e t h d c=>obtain rfl:j=i:=by lia
                        exact d
   |snk j hj e=>lia
   |nee x y j hj e=>lia
  have e3:(net w n es P).d (4*i+3)=0:=by
   cases pipe (w:=w) (es:=es) (P:=P) (show 4*i+3<(net w n es P).m by rw[hm];lia)with
   |src j hj e=>lia
   |usu j hj e=>lia
   |lea j hj e=>lia
   |snk j hj e t h d c=>exact d
   |nee x y j hj e=>lia
  rw[e0,e1,e2,e3];lia
 ·have:(net w n es P).d (4*n+j)=0:=by
   cases pipe (w:=w) (es:=es) (P:=P) (show 4*n+j<(net w n es P).m by rw[hm];lia)with
   |src i hi e=>lia
   |usu i hi e=>lia
   |lea i hi e=>lia
   |snk i hi e=>lia
   |nee x y i hi e t h d c=>exact d
  rw[this,aOt]
theorem aIZ{f1 f2 u l pr:Int}(h1:0<=f1)(h2:f1<=pr)(h3:0<=f2)(h:0<f2->f1=pr\/u=l):f1*u+f2*l=if f1+f2<=pr then(f1+f2)*u else pr*u+(f1+f2 - pr)*l:=by
 by_cases z:f2=0
 ·subst z;rw[aO8,if_pos h2,aOu,aO8]
 ·rcases h (by lia)with e|e
  ·subst e;rw[if_neg (by lia),show f1+f2 - f1=f2 by lia]
  ·subst e;split
   ·rw[aO3]
   ·rw[<-aO3,<-aO3];congr 1;lia
theorem aA5(hc:Cap (net w n es P) f)(hp:Pot (net w n es P) f p)(ic:∀i,i<n->w.l i<=w.u i){i:Nat}(hi:i<n):0<f (4*i+2)->f (4*i+1)=w.p i\/w.u i=w.l i:=fun h2=>by
 have hm:(net w n es P).m=4*n+es.length:=rfl;have k1:4*i+1<(net w n es P).m:=by rw[hm];lia
 have k2:4*i+2<(net w n es P).m:=by rw[hm];lia
 have a1:=hp _ k1;have a2:=(hp _ k2).2 h2;have b1:=(hc _ k1).2;have hl:=ic i hi;cases pipe k2 with
 |src j hj e=>lia
 |usu j hj e=>lia
 |lea j hj e t h d c=>
  obtain rfl:j=i:=by lia
  rw[t,h,d]at a2;cases pipe k1 with
  |src j' kg e'=>lia
  |usu j' kg e' t' h' d' c'=>
   obtain rfl:j'=j:=by lia
   rw[t',h',d',c']at a1;rw[c']at b1;by_cases z:f (4*j'+1)<w.p j'
   ·have:=a1.1 z
    exact .inr (by lia)
   ·exact .inl (by lia)
  |lea j' kg e'=>lia
  |snk j' kg e'=>lia
  |nee x y j' kg e'=>lia
 |snk j hj e=>lia
 |nee x y j hj e=>lia
noncomputable def thr(f:Nat->Int)(i:Nat):Int:=f (4*i+1)+f (4*i+2)
theorem aHx(G:Good w n es P f a p)(ic:∀i,i<n->w.l i<=w.u i):len (net w n es P) f=sm n fun i=>if thr f i<=w.p i then thr f i*w.u i else w.p i*w.u i+(thr f i - w.p i)*w.l i:=by
 have hm:(net w n es P).m=4*n+es.length:=rfl;rw[aNE]
 refine iF fun i hi=>?_
 have k1:4*i+1<(net w n es P).m:=by rw[hm];lia
 have k2:4*i+2<(net w n es P).m:=by rw[hm];lia
 have c1:=G.cap _ k1;have c2:=G.cap _ k2;have hP:(net w n es P).c (4*i+1)=w.p i:=by
  show(if 4*i+1<4*n/\(4*i+1)%4=1 then w.p ((4*i+1)/4)else P)=_;rw[if_pos (by lia),show(4*i+1)/4=i by lia]
 rw[hP]at c1
 exact aIZ c1.1 c1.2 c2.1 (aA5 G.cap G.pot ic hi)
end NF
namespace NF
variable {w:Wk}{n:Nat}{es:List (Nat×Nat)}{P P':Int}{f f' p q m:Nat->Int}{a a' e:Int}
theorem aDb(G:Good w n es P f a p)(G':Good w n es P f' a' q)(h1:p 1=e)(h2:q 1=e):len (net w n es P) f - a*e=len (net w n es P) f' - a'*e:=by
 have s1:=strong G.flo G.cap G.pot;have s2:=strong G'.flo G'.cap G'.pot;have w1:=weak G.flo G.cap q;have w2:=weak G'.flo G'.cap p;rw[G.p0,h1,aOI]at s1 w2;rw[G'.p0,h2,aOI]at s2 w1
 lia
theorem Good.amid(G:Good w n es P f a m)(G':Good w n es P f a q)(h1:m 1<=e)(h2:e<=q 1):∃p,Good w n es P f a p/\p 1=e:=by
 refine⟨fun v=>if m v<q v - (q 1 - e)then q v - (q 1 - e)else m v,⟨G.flo,G.cap,aIQ G.pot G'.pot _,?_,fun v hv=>?_⟩,?_⟩
 ·show(if m 0<q 0 - (q 1 - e)then q 0 - (q 1 - e)else m 0)=0;rw[G.p0,G'.p0,if_neg (by lia)]
 ·have:=G.ge v hv;show 0<=if m v<q v - (q 1 - e)then q v - (q 1 - e)else m v
  split<;>lia
 ·show(if m 1<q 1 - (q 1 - e)then q 1 - (q 1 - e)else m 1)=e;split<;>lia
end NF
namespace NF
variable {N:Nt}{n:Nat}{f st x p:Nat->Int}
variable{o:Nat×Bool}{r:List (Nat×Bool)}
structure Ris(N:Nt)(n:Nat)(f st x:Nat->Int):Prop where
 ge:∀v,v<n->st v<=x v
 le:∀q,(∀v,v<n->st v<=q v)->Pot N f q->∀v,v<n->x v<=q v
theorem Ris.start:Ris N n f st st:=⟨fun _ _=>b4 _,fun q h _=>h⟩
theorem Ris.raise(R:Ris N n f st x)(ho:Open N f o)(hi:rt N o<n)(hr:x (rh N o)<x (rt N o)+rd N o):Ris N n f st (up x (rh N o) (x (rt N o)+rd N o)):=by
 refine⟨fun v hv=>?_,fun q hq hp=>aH7 hp ho (R.le q hq hp) hi⟩
 have:=R.ge v hv;unfold up;split
 ·rename_i z;subst z;lia
 ·exact this
theorem Ris.done(R:Ris N n f st x)(h:∀o,Open N f o->x (rt N o)+rd N o<=x (rh N o)):Least N n f st x:=⟨R.ge,mF.mpr h,R.le⟩
theorem aNe{n:Nat}{x:Nat->Int}{k:Nat}{v:Int}(hk:k<n):sm n (up x k v)=sm n x+(v - x k):=by
 have:=aKY (f:=x) (g:=fun _=>1) (v:=v) hk;simpa using this
theorem Ris.sum_le(R:Ris N n f st x){q:Nat->Int}(hq:∀v,v<n->st v<=q v)(hp:Pot N f q):sm n x<=sm n q:=wN fun v hv=>R.le q hq hp v hv
theorem yY(hh:rh N o<n)(hr:x (rh N o)<x (rt N o)+rd N o):sm n x<sm n (up x (rh N o) (x (rt N o)+rd N o)):=by
 rw[aNe hh];lia
structure Rte(N:Nt)(f p:Nat->Int)(r:List (Nat×Bool))(v:Nat):Prop where
 wk:Walk N r 0 v
 tg:Tight N p r
 op:∀o∈r,Open N f o
 nd:(0::r.map (rh N)).Nodup
theorem Walk.snoc:∀{r:List (Nat×Bool)}{u v:Nat}{o:Nat×Bool},Walk N r u v->o.1<N.m->rt N o=v->Walk N (r++[o]) u (rh N o)
 | [],u,v,o,h,h1,h2=>by cases h;exact⟨h1,h2,rfl⟩
 |e::r,u,v,o,⟨a,b,c⟩,h1,h2=>⟨a,b,Walk.snoc c h1 h2⟩
theorem Rte.nil:Rte N f p [] 0:=⟨rfl,(fun e h=>by cases h),(fun e h=>by cases h),by simp⟩
theorem Rte.snoc{v:Nat}(R:Rte N f p r v)(ho:Open N f o)(ht:rt N o=v)(tg:p (rt N o)+rd N o=p (rh N o))(hn:rh N o∉0::r.map (rh N)):Rte N f p (r++[o]) (rh N o):=by
 refine⟨R.wk.snoc ho.1 ht,fun e he=>?_,fun e he=>?_,?_⟩
 ·rcases bK.mp he with he|he
  ·exact R.tg e he
  ·rw[bO.mp he];exact tg
 ·rcases bK.mp he with he|he
  ·exact R.op e he
  ·rw[bO.mp he];exact ho
 ·rw[bV,<-aT]
  refine eC.mpr ⟨R.nd,by simp,fun a ha b hb=>?_⟩
  simp only[aM,bB,bO]at hb;rintro rfl;subst hb
  exact hn ha
theorem xH:∀{r:List (Nat×Bool)}{u v:Nat},Walk N r u v->(u::r.map (rh N)).Nodup->(r.map (·.1)).Nodup
 | [],_,_,_,_=>List.Pairwise.nil
 |e::r,u,v,⟨_,h2,h3⟩,hn=>by
  rw[aM,bY]at hn;rw[aM,bY]
  refine⟨fun z=>?_,xH h3 hn.2⟩
  obtain⟨e',jb,z⟩:=bI.mp z;have hm:rh N e'∈r.map (rh N):=cY jb;have h4:=(bY.mp hn.2).1;by_cases hb:e'.2=e.2
  ·have:e'=e:=aQr z hb;subst this
   exact h4 hm
  ·have:rh N e'=rt N e:=by
    unfold rh rt;rw[z];cases h5:e'.2<;>cases h6:e.2<;>simp_all
   rw[this,h2]at hm
   exact hn.1 (aZ _ hm)
theorem Rte.pipes{v:Nat}(R:Rte N f p r v):(r.map (·.1)).Nodup:=xH R.wk R.nd
end NF
namespace NF
variable {n:Nat}{es:List (Nat×Nat)}
noncomputable def od{α:Type}:List α->List α
 |_::y::r=>y::od r
 |_=>[]
inductive Ky(n:Nat)(es:List (Nat×Nat))(s:Nat×Nat):Prop where
 |src (i:Nat) (hi:i<n) (e:s=(0,2*i+2))
 |wk (i:Nat) (hi:i<n) (e:s=(2*i+2,2*i+3))
 |snk (i:Nat) (hi:i<n) (e:s=(2*i+3,1))
 |nee (x y:Nat) (h:(x,y)∈es) (e:s=(2*x+3,2*y+2))
theorem aOh{w:Wk}{P:Int}{f:Nat->Int}{s:Nat×Nat}(h:s∈(stp (net w n es P) f (net w n es P).m).map (·.1)):Ky n es s:=by
 obtain⟨j,hj,rfl⟩:=vU h;cases pipe hj with
 |src i hi e t h d c=>exact .src i hi (by rw[t,h])
 |usu i hi e t h d c=>exact .wk i hi (by rw[t,h])
 |lea i hi e t h d c=>exact .wk i hi (by rw[t,h])
 |snk i hi e t h d c=>exact .snk i hi (by rw[t,h])
 |nee x y i hi e t h d c=>exact .nee x y (bD hi) (by rw[t,h])
noncomputable def stw(i:Nat):Nat×Nat:=(2*i+2,2*i+3)
def Chn(es:List (Nat×Nat)):Option Nat->List Nat->Prop
 |_,[]=>True
 |b,i::r=>(∀a,b=some a->(a,i)∈es)/\Chn es (some i) r
theorem aJv{i j:Nat}(h:stw i=stw j):i=j:=by
 unfold stw at h;have:=(aQy.inj h).1
 lia
theorem aHB:∀(r:List (Nat×Nat))(b:Option Nat),SW r (match b with|none=>0|some a=>2*a+3) 1->(∀s∈r,Ky n es s)->
 ∃is:List Nat,od r=is.map stw/\(∀i∈is,i<n)/\Chn es b is/\(b=none->is≠[])/\∀i,r.count (stw i)=is.count i
 | [],b,h,_=>by
   exfalso;have h:(match b with|none=>0|some a=>2*a+3)=1:=h;cases b<;>simp at h
 | [s],b,⟨h1,h2⟩,hk=>by
   have h2:s.2=1:=h2
   refine⟨[],rfl,by simp,trivial,fun hb=>?_,fun i=>?_⟩
   ·subst hb;exfalso;cases hk s bJ with
    |src i hi e=>rw[e]at h2;simp at h2
    |wk i hi e=>rw[e]at h1;simp at h1
    |snk i hi e=>rw[e]at h1;simp at h1
    |nee x y h e=>rw[e]at h1;simp at h1
   ·rw[aPE,List.count_nil,if_neg];intro z;have:s=stw i:=by simpa using z
    rw[this]at h2;unfold stw at h2;simp at h2
 |s::s2::r,b,⟨h1,h2,h3⟩,hk=>by
  have k1:=hk s bJ;have k2:=hk s2 (aZ _ bJ);have key:∃i,i<n/\s2=stw i/\(∀a,b=some a->(a,i)∈es)/\∀j,s≠stw j:=by
   cases k1 with
   |src i hi e=>
    subst e;have hb:b=none:=by cases b<;>simp_all
    cases k2 with
    |src j hj e=>subst e;simp at h2
    |wk j hj e=>
     subst e
     refine⟨j,hj,rfl,fun a ha=>?_,fun j' z=>?_⟩
     ·rw[hb]at ha;cases ha
     ·unfold stw at z;simp at z
    |snk j hj e=>subst e;simp at h2;lia
    |nee x y h e=>subst e;simp at h2;lia
   |wk i hi e=>subst e;cases b<;>simp at h1<;>lia
   |snk i hi e=>
    subst e;cases k2 with
    |src j hj e=>subst e;simp at h2
    |wk j hj e=>subst e;simp at h2
    |snk j hj e=>subst e;simp at h2
    |nee x y h e=>subst e;simp at h2
   |nee x y h e=>
    subst e;cases k2 with
    |src j hj e=>subst e;simp at h2
    |wk j hj e=>
     subst e;have hjy:j=y:=by simp at h2;lia
     subst hjy
     refine⟨j,hj,rfl,fun a ha=>?_,fun j' z=>?_⟩
     ·subst ha;have:x=a:=by simp at h1;lia
      subst this;exact h
     ·unfold stw at z;simp at z;lia
    |snk j hj e=>subst e;simp at h2;lia
    |nee x' y' h' e=>subst e;simp at h2;lia
  obtain⟨i,hi,e2,hb,hs⟩:=key;subst e2;obtain⟨is,q1,q2,q3,_,q5⟩:=aHB r (some i) h3 fun s hs=>hk s (aZ _ (aZ _ hs))
  refine⟨i::is,?_,?_,⟨hb,q3⟩,fun _=>by simp,fun j=>?_⟩
  ·show stw i::od r=_;rw[q1];rfl
  ·intro j hj;rcases bE.mp hj with rfl|hj
   ·exact hi
   ·exact q2 j hj
  ·have c1:(s==stw j)=false:=beq_eq_false_iff_ne.mpr (hs j);rw[aOy,aOy,q5,aOy,c1];by_cases i':i=j
   ·subst i';simp
   ·have c2:(stw i==stw j)=false:=beq_eq_false_iff_ne.mpr fun z=>i' (aJv z)
    have c3:(i==j)=false:=beq_eq_false_iff_ne.mpr i';rw[c2,c3];simp
end NF
namespace TL
open PySem L2
section
variable {τ:TSt}{C:Sto}{Q:T->Sto->Prop}{QL:List T->Sto->Prop}{QS:Fl->TSt->Sto->Prop}{a b c fo fk fv:FE}{fa:FN}{F:FS}
variable{cls:String}{ks:List (List Key)}{i j:Int}{G:List T->Sto->Option (T×Sto)}{td tk:T}
theorem aGS{c:Nat}{ns:List Str}{ts:List T}(e:C[c]?=some (.o cls ns,ts)):oc cls C (.cell c)=some (c,ns,ts):=by
 show(C[c]?).bind _=_;rw[e,aX]
 exact if_pos rfl
theorem sX{c:Nat}{ks:List Key}{ts:List T}(e:C[c]?=some (.dk ks,ts)):dkc C (.cell c)=some (c,ks,ts):=by
 show(C[c]?).bind _=_;rw[e];rfl
theorem aHY{c:Nat}{ts:List T}(e:C[c]?=some (.dt ks,ts)):dtc C (.cell c)=some (c,ks,ts):=by
 show(C[c]?).bind _=_;rw[e];rfl
theorem aF8{c:Nat}{ts:List T}(e:C[c]?=some (.dt ks,ts)\/C[c]?=some (.dz ks,ts)):dzc C (.cell c)=some (c,ks,ts):=by
 show(C[c]?).bind _=_;rcases e with e|e<;>(rw[e];rfl)
theorem aHd{c:Nat}{ts:List T}(e:C[c]?=some (.dt ks,ts)\/C[c]?=some (.dz ks,ts)):dkc C (.cell c)=none:=by
 show(C[c]?).bind _=_;rcases e with e|e<;>(rw[e];rfl)
def nS(cls:String)(f:Str)(C:Sto)(t:T):Option T:=(oc cls C t).bind fun x=>getN f x.2.1 x.2.2
theorem aAi{f:Str}:wpE (k8 cls f a) τ C Q↔wpE a τ C fun t C1=>∃u,nS cls f C1 t=some u/\Q u C1:=by
 rw[aDe];unfold wpE;constructor
 ·rintro⟨t,C1,e,u,C2,e2,q⟩;unfold aFl at e2;obtain⟨x,e3,e2⟩:=aK.mp e2;obtain⟨y,e4,e2⟩:=aL.mp e2;cases e2
  exact⟨t,_,e,u,by unfold nS;rw[e3];exact e4,q⟩
 ·rintro⟨t,C1,e,u,e2,q⟩;unfold nS at e2;obtain⟨x,e3,e2⟩:=aK.mp e2
  exact⟨t,C1,e,u,C1,by unfold aFl;rw[e3,aX,e2];rfl,q⟩
theorem aKr{f:Str}{t:T}:wpO (aFl cls f t C) Q↔∃u,nS cls f C t=some u/\Q u C:=by
 unfold wpO aFl nS;constructor
 ·rintro⟨u,C2,e2,q⟩;obtain⟨x,e3,e2⟩:=aK.mp e2;obtain⟨y,e4,e2⟩:=aL.mp e2;cases e2
  exact⟨u,by rw[e3];exact e4,q⟩
 ·rintro⟨u,e2,q⟩;obtain⟨x,e3,e2⟩:=aK.mp e2
  exact⟨u,C,by rw[e3,aX,e2];rfl,q⟩
def aEA(cls:String)(f:Str)(x:T)(C:Sto)(t:T):Option Sto:=(oc cls C t).bind fun y=>if y.2.1.length<900 then some (C.set y.1 (.o cls (pn f y.2.1),pv f x y.2.1 y.2.2))else none
theorem l9{f:Str}(h:wpE a τ C fun x C1=>wpE fo τ C1 fun t C2=>∃C3,aEA cls f x C2 t=some C3/\QS .nx τ C3):wpS (mY cls f fo a) τ C QS:=by
 obtain⟨x,C1,e1,t,C2,e2,C3,e3,q⟩:=h
 refine⟨.nx,τ,C3,?_,q⟩
 unfold mY;rw[e1,aX,e2,aX];unfold aEA at e3;obtain⟨y,e4,e3⟩:=aK.mp e3;rw[e4,aX];try dsimp only at e3|-
 split at e3
 ·rename_i h;cases e3;rw[if_pos h]
 ·cases e3
theorem wT{f:Str}{g:Int->Int->Int}(h:wpE fo τ C fun t C1=>nS cls f C1 t=some (.int i)/\wpE a τ C1 fun x C2=>x=.int j/\∃C3,aEA cls f (.int (g i j)) C2 t=some C3/\QS .nx τ C3):wpS (uI cls f g fo a) τ C QS:=by
 obtain⟨t,C1,e1,e2,x,C2,e3,rfl,C3,e4,q⟩:=h
 refine⟨.nx,τ,C3,?_,q⟩
 unfold uI;rw[e1,aX];unfold nS at e2;obtain⟨y,e5,e2⟩:=aK.mp e2;rw[e5,aX];try dsimp only at e2|-
 rw[e2,aX];try dsimp only
 rw[e3,aX];try dsimp only
 unfold aEA at e4;obtain⟨z,e6,e4⟩:=aK.mp e4;rw[e6,aX];try dsimp only at e4|-
 split at e4
 ·rename_i h;cases e4;rw[if_pos h]
 ·cases e4
theorem jE{n:Nat}:wpE (kX n G fa) τ C Q↔wpA fa τ C fun ts C1=>ts.length=n/\wpO (G ts C1) Q:=by
 rw[jT];unfold wpA wpO o5;constructor
 ·rintro⟨ts,C1,e,t,C2,e2,q⟩;split at e2
  ·exact⟨ts,C1,e,‹_›,t,C2,e2,q⟩
  ·cases e2
 ·rintro⟨ts,C1,e,h,t,C2,e2,q⟩
  exact⟨ts,C1,e,t,C2,by rw[if_pos h];exact e2,q⟩
def noAt(cls:String)(m:Str)(C:Sto)(t:T):Prop:=∃x,oc cls C t=some x/\getN m x.2.1 x.2.2=none
theorem mU{m:Str}{n:Nat}(h:wpE fo τ C fun t C1=>noAt cls m C1 t/\wpA fa τ C1 fun ts C2=>ts.length+1=n/\wpO (G (t::ts) C2) Q):wpE (lE cls m n G fo fa) τ C Q:=by
 obtain⟨t,C1,e1,⟨x,e2,e3⟩,ts,C2,e4,hl,r,C3,e5,q⟩:=h
 refine⟨r,C3,?_,q⟩
 unfold lE;rw[e1,aX];try dsimp only
 rw[e2,aX];try dsimp only
 rw[e3];try dsimp only
 rw[e4,aX];unfold o5;rw[if_pos (by simpa using hl)]
 exact e5
theorem xD{n:Nat}{gx:List T}(h:wpA fa τ C fun ts C1=>(ts++gx).length+1=n/\wpO (G (.cell C1.length::(ts++gx)) (C1++[(.o cls [],[])])) fun r C2=>r=.non/\Q (.cell C1.length) C2):wpE (t8 cls n G gx fa) τ C Q:=by
 obtain⟨ts,C1,e1,hl,r,C2,e2,rfl,q⟩:=h
 refine⟨_,C2,?_,q⟩
 unfold t8;rw[e1,aX];try dsimp only
 unfold o5;rw[if_pos (by simpa using hl),e2];rfl
theorem iO{B:FS}{m:Nat}{ts:List T}(h:wpS B (st0 m ts) C fun l ag C'=>match l with
 | .nx=>Q .non C'
 | .rt r=>Q r C'
 |_=>False):wpO (mV B m ts C) Q:=by
 obtain⟨l,ag,C',e,q⟩:=h;cases l with
 |nx=>exact⟨_,C',by unfold mV;rw[e],q⟩
 |rt r=>exact⟨_,C',by unfold mV;rw[e],q⟩
 |bk=>exact q.elim
 |ct=>exact q.elim
 |ex c=>exact q.elim
theorem aBX{kd:Kd}:wpE (uG kd) τ C Q↔Q (.cell C.length) (C++[(kd,[])]):=by
 unfold wpE uG;constructor
 ·rintro⟨_,_,e,q⟩;cases e;exact q
 ·exact fun q=>⟨_,_,rfl,q⟩
theorem rH:wpO (aEt td tk C) Q↔∃t,dval C td tk=some (some t)/\Q t C:=by
 unfold wpO aEt;constructor
 ·rintro⟨t,C',e,q⟩;split at e
  ·rename_i u hu;cases e;exact⟨_,hu,q⟩
  ·cases e
 ·rintro⟨t,e,q⟩
  exact⟨t,C,by rw[e],q⟩
theorem aBa{n:Bool}:wpO (yA n tk td C) Q↔∃o,dval C td tk=some o/\Q (.bl (o.isSome==n)) C:=by
 unfold wpO yA;constructor
 ·rintro⟨t,C',e,q⟩;obtain⟨o,e1,e⟩:=aL.mp e;cases e
  exact⟨o,e1,q⟩
 ·rintro⟨o,e,q⟩
  exact⟨_,C,by rw[e];rfl,q⟩
theorem aFq(h:wpE fo τ C fun td C1=>isDc C1 td=true/\wpE fk τ C1 fun tk C2=>wpE fv τ C2 fun tx C3=>∃o,dval C3 td tk=some o/\Q (o.getD tx) C3):wpE (tK fo fk fv) τ C Q:=by
 obtain⟨td,C1,e1,hd,tk,C2,e2,tx,C3,e3,o,e4,q⟩:=h
 refine⟨_,C3,?_,q⟩
 unfold tK;rw[e1,aX];try dsimp only
 rw[if_pos hd,e2,aX];try dsimp only
 rw[e3,aX];try dsimp only
 rw[e4];rfl
theorem aBW(h:wpE fv τ C fun tv C1=>wpE fo τ C1 fun td C2=>wpE fk τ C2 fun tk C3=>∃C4,dput C3 td tk tv=some C4/\QS .nx τ C4):wpS (xL fo fk fv) τ C QS:=by
 obtain⟨tv,C1,e1,td,C2,e2,tk,C3,e3,C4,e4,q⟩:=h
 refine⟨.nx,τ,C4,?_,q⟩
 unfold xL;rw[e1,aX];try dsimp only
 rw[e2,aX];try dsimp only
 rw[e3,aX];try dsimp only
 rw[e4];rfl
theorem aIj{g:Int->Int->Int}(h:wpE fo τ C fun td C1=>wpE fk τ C1 fun tk C2=>dval C2 td tk=some (some (.int i))/\wpE fv τ C2 fun tv C3=>tv=.int j/\∃C4,dput C3 td tk (.int (g i j))=some C4/\QS .nx τ C4):wpS (zD g fo fk fv) τ C QS:=by
 obtain⟨td,C1,e1,tk,C2,e2,e3,tv,C3,e4,rfl,C4,e5,q⟩:=h
 refine⟨.nx,τ,C4,?_,q⟩
 unfold zD;rw[e1,aX];try dsimp only
 rw[e2,aX];try dsimp only
 rw[e3];try dsimp only
 rw[e4,aX];try dsimp only
 rw[e5];rfl
theorem aFd{k:Key}{x:T}(h:wpE fk τ (C++[(.dk [],[])]) fun tk C1=>kyT tk=some k/\wpE fv τ C1 fun tv C2=>tv=x/\C2[C.length]?=some (.dk [],[])/\Q (.cell C.length) (C2.set C.length (.dk [k],[x]))):wpE (sU fk fv) τ C Q:=by
 obtain⟨tk,C1,e1,e2,tv,C2,e3,rfl,e4,q⟩:=h
 refine⟨_,_,?_,q⟩
 unfold sU;rw[e1,aX];try dsimp only
 rw[e3,aX];try dsimp only
 rw[e2,aX];have:=sX e4;rw[this]
theorem aH2{c1 c2:Nat}{ks ks':List Key}{ts cv:List T}(h:wpE fo τ C fun td C1=>td=.cell c1/\isDc C1 td=true/\wpE fv τ C1 fun te C2=>te=.cell c2/\C2[c1]?=some (.dk ks,ts)/\C2[c2]?=some (.dk ks',cv)/\c1≠c2/\ks.length+ks'.length<=lim/\
 Q .non (C2.set c1 (.dk (mrgK ks' cv (ks,ts)).1,(mrgK ks' cv (ks,ts)).2))):wpE (x8 fo fv) τ C Q:=by
 obtain⟨td,C1,e1,rfl,hd,te,C2,e2,rfl,e3,e4,hn,hl,q⟩:=h
 refine⟨_,_,?_,q⟩
 unfold x8;rw[e1,aX];try dsimp only
 rw[if_pos hd,e2,aX];try dsimp only
 have h1:=sX e3;have h2:=sX e4;rw[h1,h2,aX,aX];try dsimp only
 rw[if_pos ⟨hn,hl⟩]
theorem aJt:wpA (aFL a) τ C QL↔wpE a τ C fun t C1=>∃ts,liT C1 t=some ts/\QL (od ts) C1:=by
 unfold wpA wpE aFL;constructor
 ·rintro⟨us,C',e,q⟩;obtain⟨⟨t,C1⟩,e1,e⟩:=aK.mp e;obtain⟨ts,e2,e⟩:=aL.mp e;cases e
  exact⟨t,_,e1,ts,e2,q⟩
 ·rintro⟨t,C1,e1,ts,e2,q⟩
  exact⟨_,_,by rw[e1,aX,e2];rfl,q⟩
theorem aCp{g:FG}:wpS (v8 a g F) τ C QS↔wpE a τ C fun t C1=>∃ts,liT C1 t=some ts/\wpS (j9 (stays t ts) g F (aAK ts)) τ C1 QS:=by
 unfold wpS wpE v8;constructor
 ·rintro⟨l,ag,C',e,q⟩;obtain⟨⟨t,C1⟩,e1,e⟩:=aK.mp e;obtain⟨ts,e2,e⟩:=aK.mp e
  exact⟨t,C1,e1,ts,e2,l,ag,C',e,q⟩
 ·rintro⟨t,C1,e1,ts,e2,l,ag,C',e,q⟩
  exact⟨l,ag,C',by rw[e1,aX];try dsimp only;rw[e2,aX];exact e,q⟩
theorem aCj{α:Type}{f:α->T}{xs:List α}:aAK (xs.map f)=(xs.zipIdx).map fun p=>.tup [.int p.2,f p.1]:=by
 unfold aAK;rw[List.zipIdx_map,b7];rfl
theorem aFR{k:Nat}{is:List Nat}{g:FG}{fb:FB}{fe:FE}{c:Nat}{ts:List T}
 (h:wpE a τ C fun t C1=>t=.cell c/\C1[c]?=some (.dt ks,ts)/\ks.length=ts.length/\ks.length<lim/\wpC (jR g fb fe (scT k is τ) (ks.map aIw) (C1.set c (.dz ks,ts))) fun us C2=>C2=C1.set c (.dz ks,ts)/\QL us C1):wpA (tN a k is g fb fe) τ C QL:=by
 obtain⟨t,C1,e1,rfl,e2,hl,gi,us,C2,e3,rfl,q⟩:=h;have hc:c<C1.length:=(aR.mp e2).1
 refine⟨us,C1,?_,q⟩
 unfold tN;rw[e1,aX];try dsimp only
 have h1:=aHY e2;rw[h1,aX];try dsimp only
 rw[if_pos ⟨gi,hl⟩,e3,aX];try dsimp only
 rw[bQ hc];try dsimp only
 rw[aOv,<-(aR.mp e2).2,aOA]
end
end TL
namespace TL
open PySem L2
variable{c:Nat}{cls:String}{ns:List Str}
noncomputable def pnm:List Str:=["tail","head","hours","room","back"]
noncomputable def nnm:List Str:=["pipes","places"]
theorem mQ{C:Sto}{x:Cl}(h:c<C.length):(C.set c x)[c]?=some x:=bQ h
theorem lB{C:Sto}{x:Cl}(h:C[c]?=some x):c<C.length:=(aR.mp h).1
theorem lC{f:Str}{x:T}{C:Sto}{ns':List Str}{ts cv:List T}(e:C[c]?=some (.o cls ns,ts))(h:ns.length<900)(h1:pn f ns=ns')(h2:pv f x ns ts=cv):aEA cls f x C (.cell c)=some (C.set c (.o cls ns',cv)):=by
 unfold aEA;rw[aGS e,aX];dsimp only;rw[if_pos h,h1,h2]
theorem kQ{f:Str}{C:Sto}{ts:List T}{u:T}(e:C[c]?=some (.o cls ns,ts))(h:getN f ns ts=some u):nS cls f C (.cell c)=some u:=by
 unfold nS;rw[aGS e];exact h
theorem oN{m:Str}{C:Sto}{ts:List T}(e:C[c]?=some (.o cls ns,ts))(h:getN m ns ts=none):noAt cls m C (.cell c):=⟨_,aGS e,h⟩
end TL
namespace Lib
open PySem L2 TL
variable{c:Nat}{h d r:T}{Q:T->Sto->Prop}
theorem aBu{C:Sto}{t:T}(e:C[c]?=some (.o "Pipe" [],[]))(q:Q .non (C.set c (.o "Pipe" pnm,[t,h,d,r,.non]))):wpO (lN [.cell c,t,h,d,r] C) Q:=by
 have hc:=lB e
 refine iO ?_
 unfold wI;walk_at "b"
 refine fO.mpr (l9 ?_)
 try simp_arith[if_true]
 refine⟨_,lC e (by decide) rfl rfl,?_⟩
 refine l9 ?_
 try simp_arith[if_true]
 refine⟨_,lC (mQ hc) (by decide) rfl rfl,?_⟩
 rw[aOv]
 refine l9 ?_
 try simp_arith[if_true]
 refine⟨_,lC (mQ hc) (by decide) rfl rfl,?_⟩
 rw[aOv]
 refine l9 ?_
 try simp_arith[if_true]
 refine⟨_,lC (mQ hc) (by decide) rfl rfl,?_⟩
 rw[aOv]
 refine l9 ?_
 try simp_arith[if_true]
 refine⟨_,lC (mQ hc) (by decide) rfl rfl,?_⟩
 rw[aOv]
 exact q
theorem pW{C:Sto}{t:T}(q:Q .non (C++[(.o "Pipe" pnm,[t,h,d,r,.non])])):wpO (lN [.cell C.length,t,h,d,r] (C++[(.o "Pipe" [],[])])) Q:=by
 refine aBu (by simp) ?_
 rw[cC _ _ (bG _),dH]
 exact q
theorem aLN{C:Sto}{d:Nat}{ps:List T}{pl:T}{t h x r:Int}(e1:C[c]?=some (.o "Net" nnm,[.cell d,pl]))(e2:C[d]?=some (.l,ps))(hl:ps.length<lim)
 (q:Q .non (C.set d (.l,ps++[.cell C.length])++[(.o "Pipe" pnm,[.int t,.int h,.int x,.int r,.cell (C.length+1)]),(.o "Pipe" pnm,[.int h,.int t,.int (-x),.int 0,.cell C.length])])):
 wpO (jD [.cell c,.int t,.int h,.int x,.int r] C) Q:=by
 have hc:=lB e1;have hd:=lB e2
 refine iO ?_
 unfold zR;walk_at "b"
 refine fO.mpr (gF.mpr (xD ?_))
 try simp_arith[if_true]
 first|refine pW ⟨rfl,?_⟩|refine⟨rfl,pW ⟨rfl,?_⟩⟩
 try simp_arith[if_true]
 refine xD ?_
 try simp_arith[if_true]
 first|refine pW ⟨rfl,?_⟩|refine⟨rfl,pW ⟨rfl,?_⟩⟩
 try simp_arith[if_true]
 have l1:(C++[(Kd.o "Pipe" pnm,[T.int t,T.int h,T.int x,T.int r,T.non])]).length=C.length+1:=by simp
 rw[l1];have f1:(C++[(Kd.o "Pipe" pnm,[T.int t,T.int h,T.int x,T.int r,T.non])]++[(Kd.o "Pipe" pnm,[T.int h,T.int t,T.int (-x),T.int 0,T.non])])[C.length]?=some (Kd.o "Pipe" pnm,[T.int t,T.int h,T.int x,T.int r,T.non]):=by simp
 refine l9 ?_
 try simp_arith[if_true]
 refine⟨_,lC f1 (by decide) rfl rfl,?_⟩
 have f2:((C++[(Kd.o "Pipe" pnm,[T.int t,T.int h,T.int x,T.int r,T.non])]++[(Kd.o "Pipe" pnm,[T.int h,T.int t,T.int (-x),T.int 0,T.non])]).set C.length (Kd.o "Pipe" pnm,[T.int t,T.int h,T.int x,T.int r,T.cell (C.length+1)]))=C++[(Kd.o "Pipe" pnm,[T.int t,T.int h,T.int x,T.int r,T.cell (C.length+1)]),(Kd.o "Pipe" pnm,[T.int h,T.int t,T.int (-x),T.int 0,T.non])]:=by
  rw[cZ,cC _ _ (bG _),dH];rfl
 rw[show(pv ("back":Str) (T.cell (C.length+1)) pnm [T.int t,T.int h,T.int x,T.int r,T.non])=[T.int t,T.int h,T.int x,T.int r,T.cell (C.length+1)]from rfl,show pn ("back":Str) pnm=pnm from rfl,f2];try simp_arith[if_true]
 refine l9 ?_
 try simp_arith[if_true]
 have f3:(C++[(Kd.o "Pipe" pnm,[T.int t,T.int h,T.int x,T.int r,T.cell (C.length+1)]),(Kd.o "Pipe" pnm,[T.int h,T.int t,T.int (-x),T.int 0,T.non])])[C.length+1]?=some (Kd.o "Pipe" pnm,[T.int h,T.int t,T.int (-x),T.int 0,T.non]):=by
  rw[bH (by lia)];simp
 refine⟨_,lC f3 (by decide) rfl rfl,?_⟩
 have f4:((C++[(Kd.o "Pipe" pnm,[T.int t,T.int h,T.int x,T.int r,T.cell (C.length+1)]),(Kd.o "Pipe" pnm,[T.int h,T.int t,T.int (-x),T.int 0,T.non])]).set (C.length+1) (Kd.o "Pipe" pnm,[T.int h,T.int t,T.int (-x),T.int 0,T.cell C.length]))=C++[(Kd.o "Pipe" pnm,[T.int t,T.int h,T.int x,T.int r,T.cell (C.length+1)]),(Kd.o "Pipe" pnm,[T.int h,T.int t,T.int (-x),T.int 0,T.cell C.length])]:=by
  rw[cC _ _ (by lia),show C.length+1 - C.length=1 by lia];rfl
 rw[show(pv ("back":Str) (T.cell C.length) pnm [T.int h,T.int t,T.int (-x),T.int 0,T.non])=[T.int h,T.int t,T.int (-x),T.int 0,T.cell C.length]from rfl,show pn ("back":Str) pnm=pnm from rfl,f4];simp only[aKr];have g1:(C++[(Kd.o "Pipe" pnm,[T.int t,T.int h,T.int x,T.int r,T.cell (C.length+1)]),(Kd.o "Pipe" pnm,[T.int h,T.int t,T.int (-x),T.int 0,T.cell C.length])])[c]?=some (.o "Net" nnm,[.cell d,pl]):=by rw[aY hc];exact e1
 have g2:lc (C++[(Kd.o "Pipe" pnm,[T.int t,T.int h,T.int x,T.int r,T.cell (C.length+1)]),(Kd.o "Pipe" pnm,[T.int h,T.int t,T.int (-x),T.int 0,T.cell C.length])]) d=some ps:=by rw[gP,aY hd];exact e2
 refine⟨_,kQ g1 rfl,d,rfl,by rw[g2];rfl,ps,g2,hl,?_⟩
 rw[aPD _ _ hd]
 exact q
end Lib
namespace Lib
open PySem L2 TL NF
variable{c:Nat}{nd:List (List Int)}
noncomputable def pc(c:Nat)(o:Nat×Bool):Nat:=c+2+2*o.1+if o.2 then 0 else 1
theorem aNZ{k:Nat}:pc c (k,true)=c+2+2*k:=rfl
theorem aNa{k:Nat}:pc c (k,false)=c+2+2*k+1:=rfl
def pcell(N:Nt)(f:Nat->Int)(c:Nat)(o:Nat×Bool):Cl:=(.o "Pipe" pnm,[.int (rt N o),.int (rh N o),.int (rd N o),.int (rr N f o),.cell (pc c (o.1,!o.2))])
structure Pre(N:Nt)(k:Nat)(C0:Sto)(pl:Int)(C:Sto):Prop where
 pre:∀i,i<C0.length->C[i]?=C0[i]?
 len:C.length=C0.length+2+2*k
 net:C[C0.length]?=some (.o "Net" nnm,[.cell (C0.length+1),.int pl])
 lst:C[C0.length+1]?=some (.l,(bL k).map fun j=>.cell (pc C0.length (j,true)))
 pip:∀o:Nat×Bool,o.1<k->C[pc C0.length o]?=some (pcell N (fun _=>0) C0.length o)
theorem Pre.lay{N:Nt}{k:Nat}{C0 C:Sto}{pl:Int}(P:Pre N k C0 pl C)(hk:k<90000){t h d r:Int}(ht:t=N.t k)(hh:h=N.h k)(hd:d=N.d k)(hr:r=N.c k){Q:T->Sto->Prop}(q:∀C',Pre N (k+1) C0 pl C'->Q .non C'):
 wpO (jD [.cell C0.length,.int t,.int h,.int d,.int r] C) Q:=by
 subst ht hh hd hr
 refine aLN P.net P.lst (by simp[lim];lia) (q _ ?_)
 have hl:=P.len;have lm:C0.length+1<C.length:=by lia
 have old:∀i,i<C.length->i≠C0.length+1->(C.set (C0.length+1) (Kd.l,(bL k).map (fun j=>T.cell (pc C0.length (j,true)))++[T.cell C.length])++
  [(Kd.o "Pipe" pnm,[T.int (N.t k),T.int (N.h k),T.int (N.d k),T.int (N.c k),T.cell (C.length+1)]),(Kd.o "Pipe" pnm,[T.int (N.h k),T.int (N.t k),T.int (-N.d k),T.int 0,T.cell C.length])])[i]?=C[i]?:=fun i hi hn=>by
  rw[aY (by simpa using hi),aU (Ne.symm hn)]
 refine⟨fun i hi=>?_,by simp;lia,?_,?_,fun o ho=>?_⟩
 ·rw[old i (by lia) (by lia)];exact P.pre i hi
 ·rw[old _ (by lia) (by lia)];exact P.net
 ·rw[aY (by simpa using lm),bQ lm,aP6,bV,hl];rfl
 ·by_cases hok:o.1<k
  ·rw[old _ (by unfold pc;split<;>lia) (by unfold pc;lia)]
   exact P.pip o hok
  ·have:o.1=k:=by lia
   obtain⟨j,b⟩:=o;cases this;cases b with
   |true=>
    rw[aNZ,bH (by simp;lia)];simp only[cM,hl,dH,bP];unfold pcell rt rh rd rr;simp[aNa]
   |false=>
    rw[aNa,bH (by simp;lia)];simp only[cM,hl];rw[show C0.length+2+2*j+1 - (C0.length+2+2*j)=1 by lia];unfold pcell rt rh rd rr;simp[aNZ]
noncomputable def fT(ws:List (Int×Int×Int)):Wk:=⟨fun i=>((ws[i]?).getD (0,0,0)).1,fun i=>((ws[i]?).getD (0,0,0)).2.1,fun i=>((ws[i]?).getD (0,0,0)).2.2⟩
noncomputable def i7:Nat->List (List Int)->List (Nat×Nat)
 |_,[]=>[]
 |s,l::r=>(l.map fun a=>(a.toNat,s))++i7 (s+1) r
theorem aAW:∀{nd:List (List Int)}{s b j:Nat}{l:List Int}{a:Int},nd[b]?=some l->l[j]?=some a->(i7 s nd)[(i7 s (nd.take b)).length+j]?=some (a.toNat,s+b)
 | [],s,b,j,l,a,h,_=>by simp at h
 |x::nd,s,0,j,l,a,h,h2=>by
  simp at h;subst h;show((x.map fun a=>(a.toNat,s))++i7 (s+1) nd)[0+j]?=_;rw[aOG,aY (by simpa using(aR.mp h2).1),bM,h2];rfl
 |x::nd,s,b+1,j,l,a,h,h2=>by
  have ih:=aAW (s:=s+1) (b:=b) (nd:=nd) (by simpa using h) h2;show((x.map fun a=>(a.toNat,s))++i7 (s+1) nd)[((x.map fun a=>(a.toNat,s))++i7 (s+1) (nd.take b)).length+j]?=_;rw[bA,aPm,bH (by lia),Nat.add_sub_cancel_left,ih];congr 2;lia
theorem aEZ:∀{s b:Nat}{l:List Int},nd[b]?=some l->(i7 s (nd.take (b+1))).length=(i7 s (nd.take b)).length+l.length:=by
 induction nd with
 |nil=>intro s b l h;simp at h
 |cons x nd ih=>
  intro s b l h;cases b with
  |zero=>simp at h;subst h;simp[i7]
  |succ b=>
   have:=ih (s:=s+1) (b:=b) (by simpa using h);simp only[aPG,i7,bA,aP]at this|-
   lia
theorem aBP{z:Nat}(h:∀l∈nd,l.length<=z):∀{s:Nat},(i7 s nd).length<=nd.length*z:=by
 induction nd with
 |nil=>intro s;simp[i7]
 |cons x nd ih=>
  intro s;have h1:=h x bJ;have h2:=ih (fun l hl=>h l (aZ _ hl)) (s:=s+1);simp only[i7,bA,aP,aN,Nat.add_mul,Nat.one_mul]
  lia
theorem aGq{e:Nat×Nat}:∀{s:Nat},e∈i7 s nd->∃b l a,nd[b]?=some l/\a∈l/\e=(a.toNat,s+b):=by
 induction nd with
 |nil=>intro s h;simp[i7]at h
 |cons x nd ih=>
  intro s h;rcases bK.mp (show e∈(x.map fun a=>(a.toNat,s))++i7 (s+1) nd from h)with h|h
  ·obtain⟨a,ha,rfl⟩:=bI.mp h
   exact⟨0,x,a,rfl,ha,rfl⟩
  ·obtain⟨b,l,a,h1,h2,h3⟩:=ih h
   exact⟨b+1,l,a,by simpa using h1,h2,by rw[h3];congr 1;lia⟩
theorem aKM{b:Nat}{l:List Int}{a:Int}(h:nd[b]?=some l)(ha:a∈l):(a.toNat,b)∈i7 0 nd:=by
 obtain⟨j,hj⟩:=bT.mp ha;have:=aAW (s:=0) h hj;rw[aOG]at this
 exact bD this
end Lib
namespace Lib
open PySem L2 TL NF
variable{i:Nat}{w:Wk}{es:List (Nat×Nat)}{P:Int}
theorem v3:iN [.int i]=some (.int (2*i+2)):=by
 apply hJ;unfold qL;walk_at "b";simp_arith[if_true]
 refine⟨gB (by lia) (by lia),?_⟩
 rfl
theorem yN:i0 [.int i]=some (.int (2*i+3)):=by
 apply hJ;unfold r6;walk_at "b";simp_arith[if_true]
 refine⟨gB (by lia) (by lia),?_⟩
 rfl
theorem aDw:pS [.int (2*i+2)]=some (.int i):=by
 apply hJ;unfold zM;walk_at "b";simp_arith[if_true]
 refine⟨by decide,?_⟩
 show some (T.int ((2*(i:Int)+2)/2 - 1))=_;congr 2;lia
theorem aIL{n:Nat}(hi:i<n):(net w n es P).t (4*i)=0/\(net w n es P).h (4*i)=2*i+2/\(net w n es P).d (4*i)=0/\(net w n es P).c (4*i)=P:=by
 have h4:4*i<4*n:=by lia
 have hm:4*i%4=0:=by lia
 have hd:4*i/4=i:=by lia
 refine⟨?_,?_,?_,?_⟩<;>simp[net,h4,hm,hd]
theorem aJk{n:Nat}(hi:i<n):(net w n es P).t (4*i+1)=2*i+2/\(net w n es P).h (4*i+1)=2*i+3/\(net w n es P).d (4*i+1)=w.u i/\(net w n es P).c (4*i+1)=w.p i:=by
 have h4:4*i+1<4*n:=by lia
 have hm:(4*i+1)%4=1:=by lia
 have hd:(4*i+1)/4=i:=by lia
 refine⟨?_,?_,?_,?_⟩<;>simp[net,h4,hm,hd]
theorem aJm{n:Nat}(hi:i<n):(net w n es P).t (4*i+2)=2*i+2/\(net w n es P).h (4*i+2)=2*i+3/\(net w n es P).d (4*i+2)=w.l i/\(net w n es P).c (4*i+2)=P:=by
 have h4:4*i+2<4*n:=by lia
 have hm:(4*i+2)%4=2:=by lia
 have hd:(4*i+2)/4=i:=by lia
 refine⟨?_,?_,?_,?_⟩<;>simp[net,h4,hm,hd]
theorem aKf{n:Nat}(hi:i<n):(net w n es P).t (4*i+3)=2*i+3/\(net w n es P).h (4*i+3)=1/\(net w n es P).d (4*i+3)=0/\(net w n es P).c (4*i+3)=P:=by
 have h4:4*i+3<4*n:=by lia
 have hm:(4*i+3)%4=3:=by lia
 have hd:(4*i+3)/4=i:=by lia
 refine⟨?_,?_,?_,?_⟩<;>simp[net,h4,hm,hd]
theorem aJE{n:Nat}{j a b:Nat}(hj:es[j]?=some (a,b)):(net w n es P).t (4*n+j)=2*a+3/\(net w n es P).h (4*n+j)=2*b+2/\(net w n es P).d (4*n+j)=0/\(net w n es P).c (4*n+j)=P:=by
 have h4:¬4*n+j<4*n:=by lia
 have hs:4*n+j - 4*n=j:=by lia
 refine⟨?_,?_,?_,?_⟩<;>simp[net,h4,hs,hj]
noncomputable def plenty(ws:List (Int×Int×Int))(bonus:Int):Int:=(ws.map (·.2.2)).sum+bonus+1
def iG(ws:List (Int×Int×Int))(nd:List (List Int))(bonus:Int):Nt:=net (fT ws) ws.length (i7 0 nd) (plenty ws bonus)
theorem aGX{C:Sto}{c:Nat}{t h d r:Int}{τ:TSt}{QS:TL.Fl->TSt->Sto->Prop}{ft fh fd fr:FE}{pl:T}{e:Nat}(h0:τ[0]?=some (some (.cell c)))(h1:C[c]?=some (.o "Net" nnm,[.cell e,pl]))
 (ht:ft τ C=some (.int t,C))(hh:fh τ C=some (.int h,C))(hd:fd τ C=some (.int d,C))(hr:fr τ C=some (.int r,C))(q:wpO (jD [.cell c,.int t,.int h,.int d,.int r] C) fun _ C'=>QS .nx τ C'):
 wpS (mO (lE "Net" "lay" 5 jD Y0 (eU ft (eU fh (eU fd (eU fr fB)))))) τ C QS:=by
 refine o9.mpr (mU ?_)
 refine e9.mpr ⟨_,h0,oN h1 rfl,?_⟩
 refine fF.mpr ⟨_,_,ht,fF.mpr ⟨_,_,hh,fF.mpr ⟨_,_,hd,fF.mpr ⟨_,_,hr,fS.mpr ⟨rfl,q⟩⟩⟩⟩⟩
theorem n5{τ:TSt}{C:Sto}{k:Nat}(h:τ[k]?=some (some (.int i))):fQ 1 iN (eU (j4 k) fB) τ C=some (.int (2*i+2),C):=by
 have:wpE (fQ 1 iN (eU (j4 k) fB)) τ C fun t C'=>t=.int (2*i+2)/\C'=C:=by
  refine jT.mpr (fF.mpr (e9.mpr ⟨_,h,fS.mpr ?_⟩))
  exact(fN v3 rfl rfl).mpr ⟨rfl,rfl⟩
 obtain⟨t,C',e,rfl,rfl⟩:=this
 exact e
theorem pU{τ:TSt}{C:Sto}{k:Nat}(h:τ[k]?=some (some (.int i))):fQ 1 i0 (eU (j4 k) fB) τ C=some (.int (2*i+3),C):=by
 have:wpE (fQ 1 i0 (eU (j4 k) fB)) τ C fun t C'=>t=.int (2*i+3)/\C'=C:=by
  refine jT.mpr (fF.mpr (e9.mpr ⟨_,h,fS.mpr ?_⟩))
  exact(fN yN rfl rfl).mpr ⟨rfl,rfl⟩
 obtain⟨t,C',e,rfl,rfl⟩:=this
 exact e
theorem vR{τ:TSt}{C:Sto}{k:Nat}{t:T}(h:τ[k]?=some (some t)):j4 k τ C=some (t,C):=by unfold j4;rw[h]
theorem aHV{τ:TSt}{C:Sto}{k:Nat}{w:Int×Int×Int}(h:τ[k]?=some (some (w3 w))):fIx (j4 k) (fI 0) τ C=some (.int w.1,C)/\fIx (j4 k) (fI 1) τ C=some (.int w.2.1,C)/\fIx (j4 k) (fI 2) τ C=some (.int w.2.2,C):=by
 refine⟨?_,?_,?_⟩<;>(show(j4 k τ C).bind _=_;rw[vR h];rfl)
end Lib
namespace Lib
open PySem L2 TL NF
variable{C0:Sto}{pl bonus:Int}{QS:TL.Fl->TSt->Sto->Prop}{ws:List (Int×Int×Int)}{nd:List (List Int)}
theorem Pre.step{N:Nt}{k:Nat}{C:Sto}(P:Pre N k C0 pl C)(hk:k<90000){t h d r:Int}{τ:TSt}{ft fh fd fr:FE}(h0:τ[0]?=some (some (.cell C0.length)))
 (ht:ft τ C=some (.int t,C))(hh:fh τ C=some (.int h,C))(hd:fd τ C=some (.int d,C))(hr:fr τ C=some (.int r,C))(e:t=N.t k/\h=N.h k/\d=N.d k/\r=N.c k)(q:∀C',Pre N (k+1) C0 pl C'->QS .nx τ C'):
 wpS (mO (lE "Net" "lay" 5 jD Y0 (eU ft (eU fh (eU fd (eU fr fB)))))) τ C QS:=
 aGX h0 P.net ht hh hd hr (P.lay hk e.1 e.2.1 e.2.2.1 e.2.2.2 fun C' h=>q C' h)
theorem aGW{C:Sto}{i:Nat}{w:Int×Int×Int}{τ:TSt}(hw:ws[i]?=some w)(hl:ws.length<=8)(P:Pre (iG ws nd bonus) (4*i) C0 pl C)
 (h0:τ[0]?=some (some (.cell C0.length)))(h4:τ[4]?=some (some (.int (plenty ws bonus))))(h5:τ[5]?=some (some (.int i)))(h6:τ[6]?=some (some (w3 w)))(q:∀C',Pre (iG ws nd bonus) (4*(i+1)) C0 pl C'->QS .nx τ C'):wpS nB τ C QS:=by
 have hi:i<ws.length:=(aR.mp hw).1;have eu:(fT ws).u i=w.1:=by simp[fT,hw]
 have el:(fT ws).l i=w.2.1:=by simp[fT,hw]
 have ep:(fT ws).p i=w.2.2:=by simp[fT,hw]
 unfold nB;obtain⟨a1,a2,a3,a4⟩:=aIL (w:=fT ws) (es:=i7 0 nd) (P:=plenty ws bonus) hi
 refine fO.mpr (P.step (t:=0) (h:=2*i+2) (d:=0) (r:=plenty ws bonus) (by lia) h0 rfl (n5 h5) rfl (vR h4) ⟨by rw[show(iG ws nd bonus).t (4*i)=0 from a1];rfl,by rw[show(iG ws nd bonus).h (4*i)=_ from a2];simp,by rw[show(iG ws nd bonus).d (4*i)=_ from a3],by rw[show(iG ws nd bonus).c (4*i)=_ from a4]⟩ fun C1 P1=>?_)
 obtain⟨a1,a2,a3,a4⟩:=aJk (w:=fT ws) (es:=i7 0 nd) (P:=plenty ws bonus) hi
 refine gR.mpr (fO.mpr (P1.step (t:=2*i+2) (h:=2*i+3) (d:=w.1) (r:=w.2.2) (by lia) h0 (n5 h5) (pU h5) (aHV h6).1 (aHV h6).2.2 ⟨by rw[show(iG ws nd bonus).t (4*i+1)=_ from a1];simp,by rw[show(iG ws nd bonus).h (4*i+1)=_ from a2];simp,by rw[show(iG ws nd bonus).d (4*i+1)=_ from a3,eu],by rw[show(iG ws nd bonus).c (4*i+1)=_ from a4,ep]⟩ fun C2 P2=>?_))
 obtain⟨a1,a2,a3,a4⟩:=aJm (w:=fT ws) (es:=i7 0 nd) (P:=plenty ws bonus) hi
 refine gR.mpr (fO.mpr (P2.step (t:=2*i+2) (h:=2*i+3) (d:=w.2.1) (r:=plenty ws bonus) (by lia) h0 (n5 h5) (pU h5) (aHV h6).2.1 (vR h4) ⟨by rw[show(iG ws nd bonus).t (4*i+1+1)=_ from a1];simp,by rw[show(iG ws nd bonus).h (4*i+1+1)=_ from a2];simp,by rw[show(iG ws nd bonus).d (4*i+1+1)=_ from a3,el],by rw[show(iG ws nd bonus).c (4*i+1+1)=_ from a4]⟩ fun C3 P3=>?_))
 obtain⟨a1,a2,a3,a4⟩:=aKf (w:=fT ws) (es:=i7 0 nd) (P:=plenty ws bonus) hi
 refine gR.mpr (P3.step (t:=2*i+3) (h:=1) (d:=0) (r:=plenty ws bonus) (by lia) h0 (pU h5) rfl rfl (vR h4) ⟨by rw[show(iG ws nd bonus).t (4*i+1+1+1)=_ from a1];simp,by rw[show(iG ws nd bonus).h (4*i+1+1+1)=_ from a2];rfl,by rw[show(iG ws nd bonus).d (4*i+1+1+1)=_ from a3],by rw[show(iG ws nd bonus).c (4*i+1+1+1)=_ from a4]⟩ fun C4 P4=>q C4 ?_)
 rw[show 4*(i+1)=4*i+1+1+1+1 by lia];exact P4
theorem aFf{C:Sto}{b:Nat}{l:List Int}{τ:TSt}(hb:nd[b]?=some l)(hnn:∀a∈l,0<=a)(hsz:4*ws.length+(i7 0 nd).length<90000)(P:Pre (iG ws nd bonus) (4*ws.length+(i7 0 (nd.take b)).length) C0 pl C)
 (oj:τ.length=10)(h0:τ[0]?=some (some (.cell C0.length)))(h4:τ[4]?=some (some (.int (plenty ws bonus))))(h7:τ[7]?=some (some (.int b)))(h8:τ[8]?=some (some (iT l)))
 (q:∀ag C',(∀i,i<7->ag[i]?=τ[i]?)->ag.length=10->Pre (iG ws nd bonus) (4*ws.length+(i7 0 (nd.take (b+1))).length) C0 pl C'->QS .nx ag C'):wpS m7 τ C QS:=by
 unfold m7
 refine p9.mpr (e9.mpr ⟨_,h8,l.map T.int,rfl,?_⟩)
 refine jS (en:=T.int) (xs:=l) (fun j ag C'=>(∀i,i<9->ag[i]?=τ[i]?)/\ag.length=10/\Pre (iG ws nd bonus) (4*ws.length+(i7 0 (nd.take b)).length+j) C0 pl C') ⟨fun _ _=>rfl,oj,P⟩ ?_ ?_
 ·rintro j a ag C' hj ⟨e1,e2,P'⟩;have he:=aAW (s:=0) hb hj;rw[aOG]at he;have bn:(i7 0 (nd.take b)).length+j<(i7 0 nd).length:=(aR.mp he).1;have ha:0<=a:=hnn a (bD hj);obtain⟨a1,a2,a3,a4⟩:=aJE (w:=fT ws) (n:=ws.length) (P:=plenty ws bonus) he
  refine gQ.mpr ?_
  have g0:(ag.set 9 (some (T.int a)))[0]?=some (some (.cell C0.length)):=by rw[aU (by decide),e1 0 (by decide)];exact h0
  have g4:(ag.set 9 (some (T.int a)))[4]?=some (some (.int (plenty ws bonus))):=by rw[aU (by decide),e1 4 (by decide)];exact h4
  have g7:(ag.set 9 (some (T.int a)))[7]?=some (some (.int b)):=by rw[aU (by decide),e1 7 (by decide)];exact h7
  have g9:(ag.set 9 (some (T.int a)))[9]?=some (some (.int (a.toNat:Int))):=by rw[bQ (by rw[e2];decide),bN ha]
  unfold uA
  refine P'.step (t:=2*a.toNat+3) (h:=2*b+2) (d:=0) (r:=plenty ws bonus) (by lia) g0 (pU g9) (n5 g7) rfl (vR g4) ?_ fun C2 P2=>⟨trivial,fun i hi=>?_,by simpa using e2,by rw[aPm]at P2;exact P2⟩
  ·rw[aPm]
   exact⟨by rw[show(iG ws nd bonus).t _=_ from a1];simp,by rw[show(iG ws nd bonus).h _=_ from a2];simp,by rw[show(iG ws nd bonus).d _=_ from a3],by rw[show(iG ws nd bonus).c _=_ from a4]⟩
  ·rw[aU (by lia)];exact e1 i hi
 ·rintro ag C' ⟨e1,e2,P'⟩
  refine q ag C' (fun i hi=>e1 i (by lia)) e2 ?_
  rw[aEZ hb,<-aPm];exact P'
end Lib
namespace Lib
open PySem L2 TL NF
theorem aCx{ws:List (Int×Int×Int)}{ps:List (Int×Int)}{nd:List (List Int)}{bonus:Int}{C0:Sto}(hl:ws.length<=8)(hp:ps.length<=1000)(hw:InW ws.length ps)(hN:gH [.int ws.length,.lst (ps.map pT)]=some (.lst (nd.map iT)))(gh:Nd ps ws.length nd){Q:T->Sto->Prop}
 (q:∀C',Pre (iG ws nd bonus) (iG ws nd bonus).m C0 (2*ws.length+2) C'->Q .non C'):wpO (nL [.cell C0.length,.lst (ws.map w3),.lst (ps.map pT),.int bonus] (C0++[(.o "Net" [],[])])) Q:=by
 have hsz:4*ws.length+(i7 0 nd).length<90000:=by
  have:=aBP (nd:=nd) (z:=1000) (fun l hl=>?_) (s:=0)
  ·rw[gh.1]at this;have h2:ws.length*1000<=8*1000:=aPF _ hl
   lia
  ·obtain⟨b,hb⟩:=bT.mp hl
   exact cA (gh.2 b l hb).1 hp
 refine iO ?_
 unfold zS;walk_at "b"
 refine fO.mpr (l9 ?_)
 try simp_arith[if_true]
 refine⟨by decide,?_⟩
 have f1:(C0++[(Kd.o "Net" [],[])]++[(Kd.l,[])])[C0.length]?=some (Kd.o "Net" [],[]):=by simp
 refine⟨_,lC f1 (by decide) rfl rfl,?_⟩
 have f2:(C0++[(Kd.o "Net" [],[])]++[(Kd.l,[])]).set C0.length (Kd.o "Net" ["pipes"],[T.cell (C0.length+1)])=C0++[(Kd.o "Net" ["pipes"],[T.cell (C0.length+1)]),(Kd.l,[])]:=by
  rw[cZ,cC _ _ (bG _),dH];rfl
 have f0:(C0++[(Kd.o "Net" [],([]:List T))]).length=C0.length+1:=by simp
 rw[f0];rw[show pn ("pipes":Str) []=[("pipes":Str)]from rfl,show TL.pv ("pipes":Str) (T.cell (C0.length+1)) [] []=[T.cell (C0.length+1)]from rfl,f2]
 refine l9 ?_
 try simp_arith[if_true]
 refine⟨gB (by lia) (by lia),?_⟩
 have f3:(C0++[(Kd.o "Net" ["pipes"],[T.cell (C0.length+1)]),(Kd.l,[])])[C0.length]?=some (Kd.o "Net" ["pipes"],[T.cell (C0.length+1)]):=by simp
 refine⟨_,lC f3 (by decide) rfl rfl,?_⟩
 have f4:∀x:T,(C0++[(Kd.o "Net" ["pipes"],[T.cell (C0.length+1)]),(Kd.l,[])]).set C0.length (Kd.o "Net" (pn ("places":Str) ["pipes"]),TL.pv ("places":Str) x ["pipes"] [T.cell (C0.length+1)])=C0++[(Kd.o "Net" nnm,[T.cell (C0.length+1),x]),(Kd.l,[])]:=fun x=>by
  rw[cC _ _ (bG _),dH];rfl
 rw[f4];try simp_arith[if_true]
 rw[aP]
 refine⟨by simp[lim];lia,?_⟩
 refine gG (xs:=ws) (en:=w3) (fun w=>T.int w.2.2) (fun w _=>?_) ?_
 ·try simp_arith[if_true]
  exact⟨_,rfl,_,rfl,_,rfl,rfl⟩
 refine⟨_,pO (f:=fun w:Int×Int×Int=>w.2.2),?_⟩
 have P0:Pre (iG ws nd bonus) (4*0) C0 (2*ws.length+2) (C0++[(Kd.o "Net" nnm,[T.cell (C0.length+1),T.int (2*ws.length+2)]),(Kd.l,[])]):=by
  refine⟨fun i hi=>aY hi,by simp,by simp,?_,fun o ho=>by lia⟩
  rw[bH (by lia),show C0.length+1 - C0.length=1 by lia];rfl
 refine aCp.mpr ?_
 try simp_arith[if_true]
 rw[aCj]
 refine jS (xs:=ws.zipIdx) (fun i τ C=>τ.length=10/\τ[0]?=some (some (.cell C0.length))/\τ[1]?=some (some (.lst (ws.map w3)))/\τ[2]?=some (some (.lst (ps.map pT)))/\τ[4]?=some (some (.int (plenty ws bonus)))/\Pre (iG ws nd bonus) (4*i) C0 (2*ws.length+2) C) ⟨rfl,rfl,rfl,rfl,rfl,P0⟩ ?_ ?_
 ·rintro i ⟨w,k⟩ τ C hi ⟨t1,t2,t3,t4,t5,P⟩;rw[aOZ]at hi;obtain⟨w',cg,e⟩:=aL.mp hi;cases e;rw[aOG]
  refine aDE.mpr ⟨_,rfl,rfl,?_⟩
  show wpS nB ((τ.set 5 (some (T.int i))).set 6 (some (w3 w))) C _
  refine aGW cg hl P ?_ ?_ ?_ ?_ fun C' P'=>⟨?_,?_,?_,?_,?_,?_,P'⟩
  ·rw[aU (by decide),aU (by decide)];exact t2
  ·rw[aU (by decide),aU (by decide)];exact t5
  ·rw[aU (by decide),bQ (by rw[t1];decide)]
  ·rw[bQ (by rw[cM,t1];decide)]
  ·trivial
  ·simpa using t1
  ·rw[aU (by decide),aU (by decide)];exact t2
  ·rw[aU (by decide),aU (by decide)];exact t3
  ·rw[aU (by decide),aU (by decide)];exact t4
  ·rw[aU (by decide),aU (by decide)];exact t5
 ·rintro τ C ⟨t1,t2,t3,t4,t5,P⟩;rw[aPN]at P
  refine gR.mpr (aCp.mpr ?_)
  refine jT.mpr (fF.mpr ?_)
  refine jT.mpr (fF.mpr (e9.mpr ⟨_,t3,fS.mpr ?_⟩))
  refine aD3.mpr ⟨_,rfl,fF.mpr (e9.mpr ⟨_,t4,fS.mpr ?_⟩)⟩
  rw[aP]
  refine(fN hN rfl (by walk_at "c";rw[j6];rfl)).mpr ⟨_,rfl,?_⟩
  rw[aCj]
  refine jS (xs:=nd.zipIdx) (fun b τ C=>τ.length=10/\τ[0]?=some (some (.cell C0.length))/\τ[4]?=some (some (.int (plenty ws bonus)))/\Pre (iG ws nd bonus) (4*ws.length+(i7 0 (nd.take b)).length) C0 (2*ws.length+2) C) ⟨t1,t2,t5,P⟩ ?_ ?_
  ·rintro b ⟨l,k⟩ τ C hi ⟨t1,t2,t5,P⟩;rw[aOZ]at hi;obtain⟨l',eh,e⟩:=aL.mp hi;cases e;rw[aOG]
   refine aDE.mpr ⟨_,rfl,rfl,?_⟩
   show wpS m7 ((τ.set 7 (some (T.int b))).set 8 (some (iT l))) C _
   refine aFf eh (fun a ha=>?_) hsz P (by simpa using t1) ?_ ?_ ?_ ?_ fun ag C' e1 e2 P'=>⟨trivial,e2,?_,?_,P'⟩
   ·exact(hw _ (((gh.2 b l eh).2 a).mp ha)).1.1
   ·rw[aU (by decide),aU (by decide)];exact t2
   ·rw[aU (by decide),aU (by decide)];exact t5
   ·rw[aU (by decide),bQ (by rw[t1];decide)]
   ·rw[bQ (by rw[cM,t1];decide)]
   ·rw[e1 0 (by decide),aU (by decide),aU (by decide)];exact t2
   ·rw[e1 4 (by decide),aU (by decide),aU (by decide)];exact t5
  ·rintro τ C ⟨t1,t2,t5,P⟩;rw[aPN,dA]at P
   exact q C P
end Lib
namespace Lib
open PySem L2 TL NF
variable{N:Nt}{pl:Int}{c:Nat}{C':Sto}{o:Nat×Bool}{Q:T->Sto->Prop}
structure iE(N:Nt)(f:Nat->Int)(c:Nat)(pl:Int)(C:Sto):Prop where
 net:C[c]?=some (.o "Net" nnm,[.cell (c+1),.int pl])
 lst:C[c+1]?=some (.l,(bL N.m).map fun j=>.cell (pc c (j,true)))
 pip:∀o:Nat×Bool,o.1<N.m->C[pc c o]?=some (pcell N f c o)
theorem Pre.at{C0 C:Sto}(P:Pre N N.m C0 pl C):iE N (fun _=>0) C0.length pl C:=⟨P.net,P.lst,P.pip⟩
theorem iE.mono{f:Nat->Int}{C:Sto}(A:iE N f c pl C)(h:∀i,c<=i->i<c+2+2*N.m->C'[i]?=C[i]?):iE N f c pl C':=
 ⟨by rw[h c (by lia) (by lia)];exact A.net,by rw[h (c+1) (by lia) (by lia)];exact A.lst,fun o ho=>by rw[h _ (by unfold pc;lia) (by unfold pc;split<;>lia)];exact A.pip o ho⟩
theorem iE.app{f:Nat->Int}{C G:Sto}(A:iE N f c pl C)(hc:c+2+2*N.m<=C.length):iE N f c pl (C++G):=A.mono fun i _ h=>aY (by lia)
theorem iE.len{f:Nat->Int}{C:Sto}(A:iE N f c pl C):c+2+2*N.m<=C.length:=by
 by_cases h:N.m=0
 ·have:=lB A.lst;lia
 ·have:=lB (A.pip (N.m - 1,false) (by show N.m - 1<N.m;lia));rw[aNa]at this;lia
theorem iE.fld{f:Nat->Int}{C:Sto}(A:iE N f c pl C)(ho:o.1<N.m):nS "Pipe" "tail" C (.cell (pc c o))=some (.int (rt N o))/\nS "Pipe" "head" C (.cell (pc c o))=some (.int (rh N o))/\
 nS "Pipe" "hours" C (.cell (pc c o))=some (.int (rd N o))/\nS "Pipe" "room" C (.cell (pc c o))=some (.int (rr N f o))/\nS "Pipe" "back" C (.cell (pc c o))=some (.cell (pc c (o.1,!o.2))):=
 ⟨kQ (A.pip o ho) rfl,kQ (A.pip o ho) rfl,kQ (A.pip o ho) rfl,kQ (A.pip o ho) rfl,kQ (A.pip o ho) rfl⟩
noncomputable def both(N:Nt):List (Nat×Bool):=(bL N.m).map (fun k=>(k,true))++(bL N.m).map fun k=>(k,false)
def opn(N:Nt)(f:Nat->Int):List (Nat×Bool):=(both N).filter fun o=>decide (0<rr N f o)
theorem aEk:o∈both N↔o.1<N.m:=by
 obtain⟨k,b⟩:=o;unfold both;cases b<;>simp
theorem n9{f:Nat->Int}:o∈opn N f↔Open N f o:=by
 unfold opn Open;rw[cQ,aEk,decide_eq_true_iff]
theorem iA{f:FE}{τ:TSt}{C:Sto}{t:T}(e:f τ C=some (t,C'))(q:Q t C'):wpE f τ C Q:=⟨t,C',e,q⟩
theorem i9{cls:String}{f:Str}{τ:TSt}{C:Sto}{k:Nat}{t u:T}(h:τ[k]?=some (some t))(e:nS cls f C t=some u):k8 cls f (j4 k) τ C=some (u,C):=by
 have:wpE (k8 cls f (j4 k)) τ C fun x C'=>x=u/\C'=C:=aAi.mpr (e9.mpr ⟨_,h,_,e,rfl,rfl⟩)
 obtain⟨_,_,e',rfl,rfl⟩:=this
 exact e'
theorem qN{f:Nat->Int}{C:Sto}(A:iE N f c pl C)(hm:N.m<40000)(q:Q (.lst ((opn N f).map fun o=>.cell (pc c o))) C):wpO (i8 [.cell c] C) Q:=by
 have hf:nS "Net" "pipes" C (.cell c)=some (.cell (c+1)):=kQ A.net rfl;have hl:lc C (c+1)=some ((bL N.m).map fun j=>.cell (pc c (j,true))):=gP.mpr A.lst
 refine iO ?_
 unfold nJ;walk_at "b"
 refine fO.mpr (gF.mpr (hZ.mpr (sJ.mpr ?_)))
 refine iA (i9 rfl hf) (hZ.mpr (kO.mpr (iA (i9 rfl hf) ⟨_,hl,by simp[lim];lia,?_⟩)))
 refine gG (xs:=bL N.m) (en:=fun j=>T.cell (pc c (j,true))) (fun j=>T.cell (pc c (j,false))) (fun j hj=>?_) ?_
 ·refine gQ.mpr (iA (i9 (t:=.cell (pc c (j,true))) rfl (A.fld (o:=(j,true)) (c7.mp hj)).2.2.2.2) ⟨rfl,rfl⟩)
 refine vA.mpr ⟨_,hl,_,rfl,by simp[lim];lia,?_⟩
 refine gQ.mpr (gR.mpr (jN.mpr (hZ.mpr (kO.mpr (e9.mpr ⟨_,rfl,_,rfl,by simp[lim];lia,?_⟩)))))
 have eb:((bL N.m).map (fun j=>T.cell (pc c (j,true)))++(bL N.m).map fun j=>T.cell (pc c (j,false)))=(both N).map fun o=>T.cell (pc c o):=by
  unfold both;rw[bV,b7,b7];rfl
 rw[eb]
 refine rO (xs:=both N) (en:=fun o=>T.cell (pc c o)) (fun o=>decide (0<rr N f o)) (fun o=>T.cell (pc c o)) (fun o ho=>?_) q
 have hr:=(A.fld (aEk.mp ho)).2.2.2.1
 refine gQ.mpr (j0.mpr (gO.mpr (iA (i9 (t:=.cell (pc c o)) rfl hr) (kZ.mpr (pI.mpr ⟨_,rfl,rfl,?_,fun _=>e9.mpr ⟨_,rfl,rfl,rfl⟩⟩)))))
 rfl
end Lib
namespace TL
open PySem L2
theorem xR{τ:TSt}{C:Sto}{c:FB}{F:FS}{Q:Fl->TSt->Sto->Prop}(J:Nat->TSt->Sto->Prop){n m:Nat}(hm:m<n)(h0:J m τ C)
 (hs:∀m τ C,J m τ C->wpB c τ C fun b C1=>if b=true then wpS F τ C1 (fun l ap C2=>match l with
  | .nx=>∃m',m'<m/\J m' ap C2
  | .ct=>∃m',m'<m/\J m' ap C2
  | .bk=>Q .nx ap C2
  | .rt v=>Q (.rt v) ap C2
  | .ex v=>Q (.ex v) ap C2)else Q .nx τ C1):wpS (lH c F n) τ C Q:=by
 induction n generalizing m τ C with
 |zero=>lia
 |succ d ih=>
  obtain⟨b,C1,e1,h⟩:=hs m τ C h0;cases b with
  |false=>
   rw[if_neg (by simp)]at h
   exact⟨.nx,τ,C1,by unfold lH;rw[e1];rfl,h⟩
  |true=>
   rw[if_pos rfl]at h;obtain⟨l,ap,C2,e2,h⟩:=h;cases l with
   |nx=>
    obtain⟨m',h1,h2⟩:=h;obtain⟨l,ag,C',e,q⟩:=ih (m:=m') (by lia) h2
    exact⟨l,ag,C',by unfold lH;rw[e1,aX,if_pos rfl,e2,aX];exact e,q⟩
   |ct=>
    obtain⟨m',h1,h2⟩:=h;obtain⟨l,ag,C',e,q⟩:=ih (m:=m') (by lia) h2
    exact⟨l,ag,C',by unfold lH;rw[e1,aX,if_pos rfl,e2,aX];exact e,q⟩
   |bk=>exact⟨.nx,ap,C2,by unfold lH;rw[e1,aX,if_pos rfl,e2];rfl,h⟩
   |rt v=>exact⟨.rt v,ap,C2,by unfold lH;rw[e1,aX,if_pos rfl,e2];rfl,h⟩
   |ex v=>exact⟨.ex v,ap,C2,by unfold lH;rw[e1,aX,if_pos rfl,e2];rfl,h⟩
end TL
namespace Lib
open PySem L2 TL NF
variable{N:Nt}{c mq:Nat}{pl:Int}
noncomputable def kI(n:Nat)(x:Nat->Int):List T:=(bL n).map fun v=>T.int (x v)
theorem sK{n:Nat}{x:Nat->Int}:(kI n x).length=n:=by simp[kI]
theorem rN{n:Nat}{x:Nat->Int}{v:Nat}(h:v<n):(kI n x)[v]?=some (.int (x v)):=by simp[kI,h]
theorem aD8{n:Nat}{x:Nat->Int}{v:Nat}(h:v<n):atI (kI n x) (v:Int)=some (.int (x v)):=aEn (rN h)
theorem aDz{n:Nat}{x:Nat->Int}{v:Nat}(h:v<n):ixN (kI n x).length (v:Int)=some v:=by
 unfold ixN;rw[sK];simp[h]
theorem aB4{n:Nat}{x:Nat->Int}{v:Nat}{y:Int}:(kI n x).set v (.int y)=kI n (up x v y):=by
 apply aPR;intro i;by_cases hi:i<n
 ·by_cases hv:v=i
  ·subst hv;rw[bQ (by rw[sK];exact hi),rN hi,zI]
  ·rw[aU hv,rN hi,rN hi,xJ (Ne.symm hv)]
 ·rw[dE (by rw[cM,sK];lia),dE (by rw[sK];lia)]
theorem iE.mom{f:Nat->Int}{C:Sto}(A:iE N f c pl C)(h:mq<c\/c+2+2*N.m<=mq)(y:Cl):iE N f c pl (C.set mq y):=A.mono fun i h1 h2=>aU (by lia)
theorem aIo{f:FE}{τ:TSt}{C:Sto}{t:T}(h:wpE f τ C fun t' C'=>t'=t/\C'=C):f τ C=some (t,C):=by
 obtain⟨_,_,e,rfl,rfl⟩:=h
 exact e
theorem aAR{τ:TSt}{C:Sto}{a k n v:Nat}{x:Nat->Int}{p:T}{fl:Str}(h0:τ[a]?=some (some (.cell mq)))(h3:τ[k]?=some (some p))(hl:lc C mq=some (kI n x))(hf:nS "Pipe" fl C p=some (.int v))(hv:v<n):
 fIx (j4 a) (k8 "Pipe" fl (j4 k)) τ C=some (.int (x v),C):=
 aIo (gO.mpr (e9.mpr ⟨_,h0,iA (i9 h3 hf) (pN.mpr ⟨_,hl,_,aD8 hv,rfl,rfl⟩)⟩))
theorem aF0{f:Nat->Int}{n:Nat}{C:Sto}{x:Nat->Int}{os:List (Nat×Bool)}(A:iE N f c pl C)(hi:In N n)(oy:mq<c\/c+2+2*N.m<=mq)(e:C[mq]?=some (.l,kI n x))(ho:∀o∈os,Open N f o){Q:T->Sto->Prop}
 (q:∀r x',(∀s0,Ris N n f s0 x->Ris N n f s0 x')->(r=false->x'=x/\∀o∈os,x (rt N o)+rd N o<=x (rh N o))->(r=true->sm n x<sm n x')->Q (.bl r) (C.set mq (.l,kI n x'))):
 wpO (kS [.cell mq,.lst (os.map fun o=>.cell (pc c o))] C) Q:=by
 have bn:=lB e
 refine iO ?_
 unfold oQ;walk_at "b";simp_arith[if_true]
 refine jS (xs:=os) (en:=fun o=>T.cell (pc c o)) (fun j τ C'=>∃x' r a b,τ=[some (.cell mq),some (.lst (os.map fun o=>.cell (pc c o))),some (.bl r),a,b]/\C'=C.set mq (.l,kI n x')/\(∀s0,Ris N n f s0 x->Ris N n f s0 x')/\
  (r=false->x'=x/\∀o∈os.take j,x (rt N o)+rd N o<=x (rh N o))/\(r=true->sm n x<sm n x')/\sm n x<=sm n x') ?_ ?_ ?_
 ·refine⟨x,false,_,_,rfl,?_,fun s0 h=>h,fun _=>⟨rfl,by simp⟩,(fun h=>by cases h),b4 _⟩
  obtain⟨h1,h2⟩:=aR.mp e;rw[<-h2,aOA]
 ·rintro j o τ C' hj ⟨x',r,a,b,rfl,rfl,h1,h2,h3,h4⟩;have bz:=ho o (bD hj);have hk:rt N o<n/\rh N o<n:=by
   obtain⟨k,d⟩:=o;have:=hi k bz.1;unfold rt rh;cases d<;>simp<;>lia
  have A':=A.mom oy (.l,kI n x');obtain⟨f1,f2,f3,f4,f5⟩:=A'.fld bz.1;have gq:lc (C.set mq (.l,kI n x')) mq=some (kI n x'):=gP.mpr (mQ bn);have tk:∀P:Nat×Bool->Prop,(∀o∈os.take j,P o)->P o->∀o∈os.take (j+1),P o:=fun P ha hb z hz=>by
   rw[aOT,hj]at hz;rcases bK.mp hz with hz|hz
   ·exact ha z hz
   ·have:z=o:=by simpa using hz
    rw[this];exact hb
  unfold mZ
  refine gQ.mpr (fO.mpr (gF.mpr (gO.mpr ?_)))
  refine iA (aAR (k:=3) (p:=.cell (pc c o)) rfl rfl gq f1 hk.1) ?_
  refine iA (i9 rfl f3) (pI.mpr (gQ.mpr (gR.mpr (l6.mpr (j0.mpr (gO.mpr ?_))))))
  refine e9.mpr ⟨_,rfl,?_⟩
  refine iA (aAR (k:=3) (p:=.cell (pc c o)) rfl rfl gq f2 hk.2) (pI.mpr ⟨_,rfl,?_⟩)
  by_cases hr:x' (rh N o)<x' (rt N o)+rd N o
  ·rw[if_pos (decide_eq_true hr)]
   refine fO.mpr (rQ.mpr (e9.mpr ⟨_,rfl,e9.mpr ⟨_,rfl,iA (i9 rfl f2) ⟨_,_,rfl,rfl,_,gq,_,aDz hk.2,?_⟩⟩⟩))
   refine gR.mpr (gF.mpr (kZ.mpr (gQ.mpr ⟨trivial,_,true,_,_,rfl,?_,fun s0 h=>(h1 s0 h).raise bz hk.1 hr,(fun z=>by cases z),fun _=>?_,?_⟩)))
   ·rw[aB4,aOv]
   ·have:=yY (N:=N) (x:=x') (o:=o) hk.2 hr;lia
   ·have:=yY (N:=N) (x:=x') (o:=o) hk.2 hr;lia
  ·rw[if_neg (by rw[decide_eq_false hr];simp)]
   refine iL.mpr ⟨trivial,x',r,_,_,rfl,rfl,h1,fun z=>⟨(h2 z).1,tk _ (h2 z).2 ?_⟩,h3,h4⟩
   have:=(h2 z).1;subst this
   lia
 ·rintro τ C' ⟨x',r,a,b,rfl,rfl,h1,h2,h3,h4⟩;rw[dA]at h2;simp_arith[if_true]
  exact q r x' h1 h2 h3
end Lib
namespace Lib
open PySem L2 TL NF
noncomputable def st1(e:Int)(v:Nat):Int:=if v=1 then e else 0
theorem aDq{N:Nt}{f:Nat->Int}{c n:Nat}{C:Sto}{e:Int}(A:iE N f c n C)(hm:N.m<40000)(hi:In N n)(hn:1<n)(yk:n<50000){y:Nat->Int}(hy:∀v,v<n->st1 e v<=y v)(hp:Pot N f y)(hb:sm n y - sm n (st1 e)<10^199){Q:T->Sto->Prop}
 (q:∀p,Least N n f (st1 e) p->Q (.cell C.length) (C++[(.l,kI n p)])):wpO (jX [.cell c,.int e] C) Q:=by
 have aj:=A.len;have hf:nS "Net" "places" C (.cell c)=some (.int n):=kQ A.net rfl
 refine iO ?_
 unfold qP;walk_at "b"
 refine fO.mpr (gF.mpr (kK.mpr (n4.mpr (iA (i9 rfl hf) ⟨_,rfl,⟨by lia,by lia⟩,?_⟩))))
 rw[nP,cE]
 refine gG (xs:=bL n) (fun _=>T.int 0) (fun j _=>gQ.mpr (kZ.mpr ⟨rfl,rfl⟩)) ?_
 have e0:(bL n).map (fun _=>T.int 0)=kI n fun _=>0:=rfl
 rw[e0];have vz:lc (C++[(Kd.l,kI n fun _=>0)]) C.length=some (kI n fun _=>0):=gP.mpr (by simp)
 refine gQ.mpr (gR.mpr (fO.mpr (rQ.mpr (e9.mpr ⟨_,rfl,e9.mpr ⟨_,rfl,kZ.mpr ⟨_,_,rfl,rfl,_,vz,_,aDz (v:=1) hn,?_⟩⟩⟩))))
 have e1:(C++[(Kd.l,kI n fun _=>0)]).set C.length (Kd.l,(kI n fun _=>0).set 1 (.int e))=C++[(Kd.l,kI n (st1 e))]:=by
  rw[cC _ _ (bG _),dH,aB4];rfl
 rw[e1];have A1:iE N f c n (C++[(Kd.l,kI n (st1 e))]):=A.app aj
 refine gR.mpr (fO.mpr (gF.mpr (mU (e9.mpr ⟨_,rfl,oN A1.net rfl,fS.mpr ⟨rfl,qN A1 hm ?_⟩⟩))))
 refine gQ.mpr (gR.mpr (fO.mpr ?_))
 refine xR (fun m τ C'=>∃x,τ=[some (.cell c),some (.int e),some (.cell C.length),some (.lst ((opn N f).map fun o=>.cell (pc c o)))]/\C'=C++[(Kd.l,kI n x)]/\Ris N n f (st1 e) x/\sm n y - sm n x<=(m:Int)) (m:=(sm n y - sm n (st1 e)).toNat) (by
  have:(sm n y - sm n (st1 e)).toNat<10^199:=by lia
  exact bS this (aO0 (by decide) (by decide))) ⟨st1 e,rfl,rfl,Ris.start,by lia⟩ ?_
 rintro m τ C' ⟨x,rfl,rfl,hR,yl⟩;have A2:iE N f c n (C++[(Kd.l,kI n x)]):=A.app aj
 refine vH.mpr (jE.mpr (fF.mpr (e9.mpr ⟨_,rfl,fF.mpr (e9.mpr ⟨_,rfl,fS.mpr ⟨rfl,?_⟩⟩)⟩)))
 refine aF0 (x:=x) A2 hi (.inr aj) (by simp) (fun o ho=>n9.mp ho) fun r x' h1 h2 h3=>⟨r,rfl,?_⟩
 have e2:(C++[(Kd.l,kI n x)]).set C.length (Kd.l,kI n x')=C++[(Kd.l,kI n x')]:=by
  rw[cC _ _ (bG _),dH];rfl
 rw[e2];cases r with
 |true=>
  rw[if_pos rfl];have s1:=h3 rfl;have s2:=(h1 _ hR).sum_le hy hp
  refine iL.mpr ⟨(sm n y - sm n x').toNat,by lia,x',rfl,rfl,h1 _ hR,by lia⟩
 |false=>
  rw[if_neg (by simp)];obtain⟨rfl,h5⟩:=h2 rfl
  exact gR.mpr (jN.mpr (e9.mpr ⟨_,rfl,q _ (hR.done fun o ho=>h5 o (n9.mpr ho))⟩))
end Lib
namespace Lib
open PySem L2 TL NF
section
variable {α β κ:Type}[DecidableEq α][DecidableEq κ]{kf:α->κ}{vf:β->T}
variable{p:α×β}{rs:List (α×β)}{b:β}
noncomputable def lk(rs:List (α×β))(a:α):Option β:=(rs.find? fun p=>decide (p.1=a)).map (·.2)
noncomputable def lZ(rs:List (α×β))(a:α)(b:β):List (α×β):=if a∈rs.map (·.1)then rs.map (fun p=>if p.1=a then(p.1,b)else p)else rs++[(a,b)]
theorem aM2{a:α}:lk ([]:List (α×β)) a=none:=rfl
theorem mE{a:α}:lk (p::rs) a=if p.1=a then some p.2 else lk rs a:=by
 unfold lk;rw[dG];by_cases h:p.1=a
 ·rw[if_pos h,decide_eq_true h];rfl
 ·rw[if_neg h,decide_eq_false h]
theorem aA2{a:α}{b:β}:∀{rs:List (α×β)},lk rs a=some b->(a,b)∈rs
 | [],h=>by cases h
 |p::rs,h=>by
  rw[mE]at h;split at h
  ·rename_i e;cases h;subst e;exact bJ
  ·exact aZ _ (aA2 h)
theorem oC{a:α}:∀{rs:List (α×β)},(lk rs a).isSome=true↔a∈rs.map (·.1)
 | []=>by simp[aM2]
 |p::rs=>by
  rw[mE,aM,bE];by_cases h:p.1=a
  ·rw[if_pos h];simp[h]
  ·rw[if_neg h,oC];constructor
   ·exact .inr
   ·rintro(z|z)
    ·exact absurd z.symm h
    ·exact z
theorem aCN(inj:∀a b,kf a=kf b->a=b){a:α}:∀{rs:List (α×β)},vl ((rs.map fun p=>kf p.1).zip (rs.map fun p=>vf p.2)) (kf a)=(lk rs a).map vf
 | []=>rfl
 |p::rs=>by
  rw[aM,aM,cG,mE];unfold vl;rw[dG];by_cases h:p.1=a
  ·rw[if_pos h,show decide ((kf p.1,vf p.2).1=kf a)=true from decide_eq_true (by rw[h])];rfl
  ·rw[if_neg h,show decide ((kf p.1,vf p.2).1=kf a)=false from decide_eq_false (fun z=>h (inj _ _ z))]
   exact aCN inj
theorem aAC(inj:∀a b,kf a=kf b->a=b){a:α}:kf a∈(rs.map fun p=>kf p.1)↔a∈rs.map (·.1):=by
 constructor
 ·intro h;obtain⟨p,hp,e⟩:=bI.mp h
  exact bI.mpr ⟨p,hp,inj _ _ e⟩
 ·intro h;obtain⟨p,hp,e⟩:=bI.mp h
  exact bI.mpr ⟨p,hp,by rw[e]⟩
theorem aAw(inj:∀a b,kf a=kf b->a=b){a:α}:pkK (kf a) (rs.map fun p=>kf p.1)=((lZ rs a b).map fun p=>kf p.1)/\pvK (kf a) (vf b) (rs.map fun p=>kf p.1) (rs.map fun p=>vf p.2)=(lZ rs a b).map fun p=>vf p.2:=by
 unfold pkK pvK lZ;by_cases h:a∈rs.map (·.1)
 ·rw[if_pos ((aAC inj).mpr h),if_pos ((aAC inj).mpr h),if_pos h];have hz:∀rs:List (α×β),(rs.map fun p=>kf p.1).zip (rs.map fun p=>vf p.2)=rs.map fun p=>(kf p.1,vf p.2):=fun rs=>by rw[List.zip_map']
  constructor
  ·rw[b7];apply cL;intro p _;simp only[eI];split<;>rfl
  ·rw[hz,b7,b7];apply cL;intro p _;simp only[eI];by_cases e:p.1=a
   ·rw[if_pos e,if_pos (by rw[e])]
   ·rw[if_neg e,if_neg (fun z=>e (inj _ _ z))]
 ·rw[if_neg (fun z=>h ((aAC inj).mp z)),if_neg (fun z=>h ((aAC inj).mp z)),if_neg h,bV,bV]
  exact⟨rfl,rfl⟩
theorem zX{a:α}:(lZ rs a b).map (·.1)=if a∈rs.map (·.1)then rs.map (·.1)else rs.map (·.1)++[a]:=by
 unfold lZ;split
 ·rw[b7];apply cL;intro p _;simp only[eI];split<;>rfl
 ·rw[bV];rfl
theorem aJp{a:α}(h:(rs.map (·.1)).Nodup):((lZ rs a b).map (·.1)).Nodup:=by
 rw[zX];split
 ·exact h
 ·rename_i hn
  refine eC.mpr ⟨h,by simp,fun x hx y hy=>?_⟩
  rw[bO.mp hy];rintro rfl;exact hn hx
theorem aIv{a:α}(h:p∈lZ rs a b):p=(a,b)\/p∈rs:=by
 unfold lZ at h;split at h
 ·obtain⟨q,hq,e⟩:=bI.mp h;split at e
  ·rename_i z;rw[<-e,z];exact .inl rfl
  ·rw[<-e];exact .inr hq
 ·rcases bK.mp h with h|h
  ·exact .inr h
  ·exact .inl (bO.mp h)
theorem vM{a x:α}:x∈(lZ rs a b).map (·.1)↔x=a\/x∈rs.map (·.1):=by
 rw[zX];split
 ·rename_i h;constructor
  ·exact .inr
  ·rintro(z|z)
   ·rw[z];exact h
   ·exact z
 ·rw[bK,bO,or_comm]
end
variable{c d:Nat}{rs:List (Nat×List (Nat×Bool))}
theorem aEf{α β:Type}[DecidableEq α]{kf:α->Key}{vf:β->T}(inj:∀a b,kf a=kf b->a=b):∀{fs rs:List (α×β)},(fs.map (·.1)).Nodup->(∀a∈fs.map (·.1),a∉rs.map (·.1))->
 mrgK (fs.map fun p=>kf p.1) (fs.map fun p=>vf p.2) ((rs.map fun p=>kf p.1),(rs.map fun p=>vf p.2))=(((rs++fs).map fun p=>kf p.1),((rs++fs).map fun p=>vf p.2))
 | [],rs,_,_=>by simp[mrgK]
 |p::fs,rs,hn,hd=>by
  rw[aM,bY]at hn;rw[aM,aM];unfold mrgK;dsimp only;obtain⟨e1,e2⟩:=aAw (vf:=vf) inj (a:=p.1) (b:=p.2) (rs:=rs);have hp:p.1∉rs.map (·.1):=hd _ (by simp);rw[e1,e2];have e3:lZ rs p.1 p.2=rs++[p]:=by unfold lZ;rw[if_neg hp]
  rw[e3,aEf inj hn.2 (fun a ha=>?_),cZ]
  ·rfl
  ·rw[bV,bK,aM,bB,bO];rintro(z|z)
   ·exact hd a (by rw[aM];exact aZ _ ha) z
   ·rw[z]at ha;exact hn.1 ha
noncomputable def kyN(v:Nat):Key:=.inl (v:Int)
theorem sC(a b:Nat)(h:kyN a=kyN b):a=b:=by
 have:(a:Int)=b:=Sum.inl.inj h
 lia
def rtT(c:Nat)(r:List (Nat×Bool)):T:=.lst (r.map fun o=>.cell (pc c o))
def mB(c:Nat)(rs:List (Nat×List (Nat×Bool))):Cl:=(.dk (rs.map fun p=>kyN p.1),rs.map fun p=>rtT c p.2)
theorem u8{C:Sto}{v:Nat}(e:C[d]?=some (mB c rs)):dval C (.cell d) (.int v)=some ((lk rs v).map (rtT c)):=by
 unfold dval;rw[sX e];show some (vl _ (kyN v))=_;rw[aCN sC]
theorem aJ7{C:Sto}{v:Nat}{r:List (Nat×Bool)}(e:C[d]?=some (mB c rs))(hl:rs.length<lim):dput C (.cell d) (.int v) (rtT c r)=some (C.set d (mB c (lZ rs v r))):=by
 unfold dput;rw[sX e];show(if _ then some (C.set d (.dk (pkK (kyN v) _),pvK (kyN v) _ _ _))else none)=_;rw[if_pos (by simpa using hl)];obtain⟨e1,e2⟩:=aAw (vf:=rtT c) sC (a:=v) (b:=r) (rs:=rs);rw[e1,e2];rfl
end Lib
namespace Lib
open PySem L2 TL NF
theorem aFX{α β:Type}[DecidableEq α]{rs:List (α×β)}{a:α}{b:β}:(lZ rs a b).length<=rs.length+1:=by
 unfold lZ;split
 ·simp
 ·simp
theorem wP{N:Nt}{f:Nat->Int}{c d:Nat}{pl:Int}{C:Sto}{rs:List (Nat×List (Nat×Bool))}{ts:List (Nat×Bool)}(A:iE N f c pl C)(e:C[d]?=some (mB c rs))(ht:∀o∈ts,o.1<N.m)(hl:ts.length<90000)(hr:∀p∈rs,p.2.length<=1000){Q:T->Sto->Prop}
 (q:∀fs:List (Nat×List (Nat×Bool)),(fs.map (·.1)).Nodup->(∀a∈fs.map (·.1),a∉rs.map (·.1))->(∀p∈fs,∃o∈ts,∃r0,(rt N o,r0)∈rs/\p=(rh N o,r0++[o]))->(∀o∈ts,rt N o∈rs.map (·.1)->rh N o∉rs.map (·.1)->rh N o∈fs.map (·.1))->Q (.cell C.length) (C++[mB c fs])):
 wpO (lR [.cell d,.lst (ts.map fun o=>.cell (pc c o))] C) Q:=by
 have aj:=A.len;have hd:=lB e
 refine iO ?_
 unfold qO;walk_at "b"
 refine fO.mpr (gF.mpr (aBX.mpr (gQ.mpr (gR.mpr (fO.mpr (p9.mpr (e9.mpr ⟨_,rfl,_,rfl,?_⟩)))))))
 refine jS (xs:=ts) (en:=fun o=>T.cell (pc c o)) (fun j τ C'=>∃fs a,τ=[some (.cell d),some (.lst (ts.map fun o=>.cell (pc c o))),some (.cell C.length),a]/\C'=C++[mB c fs]/\fs.length<=j/\(fs.map (·.1)).Nodup/\(∀a∈fs.map (·.1),a∉rs.map (·.1))/\
  (∀p∈fs,∃o∈ts,∃r0,(rt N o,r0)∈rs/\p=(rh N o,r0++[o]))/\∀o∈ts.take j,rt N o∈rs.map (·.1)->rh N o∉rs.map (·.1)->rh N o∈fs.map (·.1)) ?_ ?_ ?_
 ·exact⟨[],_,rfl,rfl,bG _,by simp,by simp,by simp,by simp⟩
 ·rintro j o τ C' hj ⟨fs,a,rfl,rfl,h1,h2,h3,h4,h5⟩;have hot:=bD hj;have hjl:j<ts.length:=(aR.mp hj).1;have A':iE N f c pl (C++[mB c fs]):=A.app aj;obtain⟨f1,f2,f3,f4,f5⟩:=A'.fld (ht o hot);have e':(C++[mB c fs])[d]?=some (mB c rs):=by rw[aY hd];exact e
  have eF:(C++[mB c fs])[C.length]?=some (mB c fs):=by simp
  have v1:=u8 (v:=rt N o) e';have v2:=u8 (v:=rh N o) e';have tk:∀P:Nat×Bool->Prop,(∀o∈ts.take j,P o)->P o->∀o∈ts.take (j+1),P o:=fun P ha hb z hz=>by
   rw[aOT,hj]at hz;rcases bK.mp hz with hz|hz
   ·exact ha z hz
   ·have:z=o:=by simpa using hz
    rw[this];exact hb
  unfold oP
  refine gQ.mpr (l6.mpr (aA8.mpr (j0.mpr (gO.mpr ?_))))
  refine iA (i9 (t:=.cell (pc c o)) rfl f1) (e9.mpr ⟨_,rfl,aBa.mpr ⟨_,v1,_,rfl,?_⟩⟩)
  cases l1:lk rs (rt N o)with
  |none=>
   rw[if_neg (by simp),if_neg (by simp)]
   refine iL.mpr ⟨trivial,fs,_,rfl,rfl,by lia,h2,h3,h4,tk _ h5 fun z=>?_⟩
   have:=oC.mpr z;rw[l1]at this;cases this
  |some r0=>
   rw[if_pos (by simp)]
   refine j0.mpr (gO.mpr ?_)
   refine iA (i9 (t:=.cell (pc c o)) rfl f2) (e9.mpr ⟨_,rfl,aBa.mpr ⟨_,v2,_,rfl,?_⟩⟩)
   cases l2:lk rs (rh N o)with
   |some r1=>
    rw[if_neg (by simp)]
    refine iL.mpr ⟨trivial,fs,_,rfl,rfl,by lia,h2,h3,h4,tk _ h5 fun _ z=>?_⟩
    exact absurd (oC.mp (by rw[l2];rfl)) z
   |none=>
    rw[if_pos (by simp)];have hn:rh N o∉rs.map (·.1):=fun z=>by
     have:=oC.mpr z;rw[l2]at this;cases this
    have jk:r0.length<=1000:=hr _ (aA2 l1)
    refine aBW (hZ.mpr (sJ.mpr (gO.mpr (e9.mpr ⟨_,rfl,?_⟩))))
    refine iA (i9 (t:=.cell (pc c o)) rfl f1) (rH.mpr ⟨rtT c r0,by rw[v1,l1];rfl,?_⟩)
    refine hZ.mpr (kE.mpr (fF.mpr (e9.mpr ⟨_,rfl,fS.mpr ⟨by simp[lim],?_⟩⟩)))
    refine vA.mpr ⟨_,rfl,_,rfl,by simp[lim];lia,e9.mpr ⟨_,rfl,?_⟩⟩
    refine iA (i9 (t:=.cell (pc c o)) rfl f2) ?_
    have er:(.lst ((r0.map fun o=>T.cell (pc c o))++[T.cell (pc c o)]):T)=rtT c (r0++[o]):=by unfold rtT;rw[bV];rfl
    refine⟨_,by rw[er];exact aJ7 eF (by simp[lim];lia),trivial,lZ fs (rh N o) (r0++[o]),_,rfl,?_,?_,aJp h2,?_,?_,?_⟩
    ·rw[cC _ _ (bG _),dH];rfl
    ·exact cA aFX (by lia)
    ·intro a ha;rcases vM.mp ha with rfl|ha
     ·exact hn
     ·exact h3 a ha
    ·intro p hp;rcases aIv hp with rfl|hp
     ·exact⟨o,hot,r0,aA2 l1,rfl⟩
     ·exact h4 p hp
    ·exact tk _ (fun z hz z1 z2=>vM.mpr (.inr (h5 z hz z1 z2))) fun _ _=>vM.mpr (.inl rfl)
 ·rintro τ C' ⟨fs,a,rfl,rfl,h1,h2,h3,h4,h5⟩;rw[dA]at h5
  exact gR.mpr (jN.mpr (e9.mpr ⟨_,rfl,q fs h2 h3 h4 h5⟩))
end Lib
namespace Lib
open PySem L2 TL NF
variable{Q:T->Sto->Prop}{N:Nt}{p:Nat->Int}
theorem aFQ{τ:TSt}{C:Sto}{fo fv:FE}{c1:Nat}(h:wpE fo τ C fun td C1=>td=.cell c1/\isDc C1 td=true/\wpE fv τ C1 fun te C2=>∃c2 ks ks' ts cv,te=.cell c2/\C2[c1]?=some (.dk ks,ts)/\C2[c2]?=some (.dk ks',cv)/\c1≠c2/\ks.length+ks'.length<=lim/\
 Q .non (C2.set c1 (.dk (mrgK ks' cv (ks,ts)).1,(mrgK ks' cv (ks,ts)).2))):wpE (x8 fo fv) τ C Q:=by
 obtain⟨td,C1,e1,rfl,hd,te,C2,e2,c2,ks,ks',ts,cv,rfl,e3,e4,hn,hl,q⟩:=h
 exact aH2 ⟨_,C1,e1,rfl,hd,_,C2,e2,rfl,e3,e4,hn,hl,q⟩
theorem mM:∀(n:Nat)(l:List Nat),l.Nodup->(∀a∈l,a<n)->l.length<=n
 |0,l,_,h=>by
  cases l with
  |nil=>exact bG _
  |cons a l=>exact absurd (h a bJ) (by lia)
 |n+1,l,hn,h=>by
  have h1:=mM n (l.erase n) (hn.erase n) fun a ha=>by
   have hm:=(List.Nodup.mem_erase_iff hn).mp ha;have:=h a hm.2;have:=hm.1
   lia
  by_cases hm:n∈l
  ·rw[aON hm]at h1;lia
  ·rw[List.erase_of_not_mem hm]at h1;lia
structure Rts(N:Nt)(n:Nat)(f p:Nat->Int)(rs:List (Nat×List (Nat×Bool))):Prop where
 nd:(rs.map (·.1)).Nodup
 lt:∀a∈rs.map (·.1),a<n
 z:0∈rs.map (·.1)
 rte:∀x∈rs,Rte N f p x.2 x.1/\(∀v∈x.2.map (rh N),v∈rs.map (·.1))
theorem Rts.len{n:Nat}{f:Nat->Int}{rs:List (Nat×List (Nat×Bool))}(R:Rts N n f p rs){x:Nat×List (Nat×Bool)}(hx:x∈rs):x.2.length<=n:=by
 obtain⟨h1,h2⟩:=R.rte x hx;have:=mM n _ (bY.mp h1.nd).2 fun a ha=>R.lt a (h2 a ha)
 simpa using this
theorem wG{f:Nat->Int}{c n mq:Nat}{pl:Int}{C:Sto}(A:iE N f c pl C)(hm:N.m<40000)(hi:In N n)(hn:n<40)(vy:0<n)(oy:C[mq]?=some (.l,kI n p))
 (reach:∀R:Nat->Prop,R 0->(∀o,Open N f o->R (rt N o)->p (rt N o)+rd N o=p (rh N o)->R (rh N o))->R 1)(q:∀r G,Rte N f p r 1->Q (rtT c r) (C++G)):
 wpO (lQ [.lst ((opn N f).map fun o=>.cell (pc c o)),.cell mq] C) Q:=by
 have aj:=A.len;have gq:lc C mq=some (kI n p):=gP.mpr oy;have gk:∀o:Nat×Bool,o.1<N.m->rt N o<n/\rh N o<n:=fun o ho=>by
  obtain⟨k,d⟩:=o;have:=hi k ho;unfold rt rh;cases d<;>simp<;>lia
 have hol:(opn N f).length<90000:=by
  have:(opn N f).length<=(both N).length:=dM _ _;have h2:(both N).length=N.m+N.m:=by simp[both]
  lia
 refine iO ?_
 unfold qJ;walk_at "b"
 refine fO.mpr (gF.mpr (hZ.mpr (kO.mpr (e9.mpr ⟨_,rfl,_,rfl,by simp[lim];lia,?_⟩))))
 refine rO (xs:=opn N f) (en:=fun o=>T.cell (pc c o)) (fun o=>decide (p (rt N o)+rd N o=p (rh N o))) (fun o=>T.cell (pc c o)) (fun o ho=>?_) ?_
 ·have bz:=n9.mp ho;obtain⟨f1,f2,f3,f4,f5⟩:=A.fld bz.1;obtain⟨k1,k2⟩:=gk o bz.1
  refine gQ.mpr (j0.mpr (gO.mpr (gO.mpr ?_)))
  refine iA (aAR (a:=1) (k:=0) (p:=.cell (pc c o)) rfl rfl gq f1 k1) ?_
  refine iA (i9 rfl f3) (pI.mpr ?_)
  refine iA (aAR (a:=1) (k:=0) (p:=.cell (pc c o)) rfl rfl gq f2 k2) ?_
  refine aAh.mpr ⟨_,rfl,rfl,rfl,fun _=>e9.mpr ⟨_,rfl,rfl,rfl⟩⟩
 refine gQ.mpr (gR.mpr (fO.mpr (gF.mpr (aFd (k:=kyN 0) (x:=rtT c []) ?_))))
 refine kZ.mpr ⟨rfl,hZ.mpr (kE.mpr (fS.mpr ⟨by decide,rfl,by simp,?_⟩))⟩
 have e0:(C++[(Kd.dk [],[])]).set C.length (Kd.dk [kyN 0],[rtT c []])=C++[mB c [(0,[])]]:=by
  rw[cC _ _ (bG _),dH];rfl
 rw[e0]
 refine gQ.mpr (gR.mpr (fO.mpr ?_))
 refine xR (fun m τ C'=>∃rs G,τ=[some (.lst ((opn N f).map fun o=>.cell (pc c o))),some (.cell mq),some (.lst (((opn N f).filter fun o=>decide (p (rt N o)+rd N o=p (rh N o))).map fun o=>.cell (pc c o))),some (.cell C.length)]/\C'=C++mB c rs::G/\Rts N n f p rs/\n - rs.length<=m) (m:=n) (by lia) ?_ ?_
 ·refine⟨[(0,[])],[],rfl,rfl,⟨by simp,by simpa using vy,by simp,fun x hx=>?_⟩,by lia⟩
  have:x=(0,[]):=by simpa using hx
  subst this
  exact⟨Rte.nil,by simp⟩
 rintro m τ C' ⟨rs,G,rfl,rfl,R,yl⟩;have eD:(C++mB c rs::G)[C.length]?=some (mB c rs):=by simp
 have A':iE N f c pl (C++mB c rs::G):=A.app aj
 refine j0.mpr (gO.mpr (kZ.mpr (e9.mpr ⟨_,rfl,aBa.mpr ⟨_,u8 (v:=1) eD,_,rfl,?_⟩⟩)))
 cases l1:lk rs 1 with
 |some r=>
  rw[if_neg (by simp)]
  refine gR.mpr (jN.mpr (gO.mpr (e9.mpr ⟨_,rfl,kZ.mpr (rH.mpr ⟨rtT c r,?_,?_⟩)⟩)))
  ·have:=u8 (v:=1) eD;rw[l1]at this;exact this
  ·exact q r _ (R.rte _ (aA2 l1)).1
 |none=>
  rw[if_pos (by simp)];unfold oO
  refine o9.mpr (aFQ (c1:=C.length) (e9.mpr ⟨_,rfl,rfl,by unfold isDc;rw[sX eD];rfl,jE.mpr (fF.mpr (e9.mpr ⟨_,rfl,fF.mpr (e9.mpr ⟨_,rfl,fS.mpr ⟨rfl,?_⟩⟩)⟩))⟩))
  refine wP A' eD (fun o ho=>(n9.mp ((cQ.mp ho).1)).1) (aOQ (dM _ _) hol) (fun x hx=>cA (R.len hx) (by lia)) fun fs h1 h2 h3 h4=>?_
  have bn:∀a∈fs.map (·.1),a<n:=fun a ha=>by
   obtain⟨x,hx,rfl⟩:=bI.mp ha;obtain⟨o,ho,r0,_,e⟩:=h3 x hx;rw[e];exact(gk o (n9.mp ((cQ.mp ho).1)).1).2
  have R':Rts N n f p (rs++fs):=by
   refine⟨?_,fun a ha=>?_,?_,fun x hx=>?_⟩
   ·rw[bV]
    exact eC.mpr ⟨R.nd,h1,fun a ha b hb z=>h2 b hb (z ▸ ha)⟩
   ·rw[bV]at ha;rcases bK.mp ha with ha|ha
    ·exact R.lt a ha
    ·exact bn a ha
   ·rw[bV];exact bK.mpr (.inl R.z)
   ·rcases bK.mp hx with hx|hx
    ·refine⟨(R.rte x hx).1,fun v hv=>?_⟩
     rw[bV];exact bK.mpr (.inl ((R.rte x hx).2 v hv))
    ·obtain⟨o,ho,r0,yc,e⟩:=h3 x hx;have bz:=n9.mp ((cQ.mp ho).1);have htg:p (rt N o)+rd N o=p (rh N o):=of_decide_eq_true (cQ.mp ho).2;have mv:=h2 x.1 (cY hx);obtain⟨g1,g2⟩:=R.rte _ yc;rw[e]at mv|-
     refine⟨g1.snoc bz rfl htg fun z=>?_,fun v hv=>?_⟩
     ·rcases bE.mp z with z|z
      ·exact mv (by rw[z];exact R.z)
      ·exact mv (g2 _ z)
     ·rw[bV]at hv;rw[bV];rcases bK.mp hv with hv|hv
      ·exact bK.mpr (.inl (g2 v hv))
      ·have:v=rh N o:=by simpa using hv
       rw[this]
       exact bK.mpr (.inr (bI.mpr ⟨x,hx,by rw[e]⟩))
  have bb:fs≠[]:=fun z=>by
   subst z;have:=reach (fun v=>v∈rs.map (·.1)) R.z fun o ho h5 h6=>by
    by_cases h7:rh N o∈rs.map (·.1)
    ·exact h7
    ·exact absurd (h4 o (cQ.mpr ⟨n9.mpr ho,decide_eq_true h6⟩) h5 h7) (by simp)
   have h8:=oC.mpr this;rw[l1]at h8;cases h8
  have hfl:fs.length<=n:=by
   have:=mM n _ h1 bn;simpa using this
  have jk:(rs++fs).length<=n:=by
   have:=mM n _ R'.nd R'.lt;simpa using this
  have hrl2:rs.length<=n:=by rw[bA]at jk;lia
  have hf1:0<fs.length:=eJ.mpr bb
  refine⟨_,rs.map (fun x=>kyN x.1),fs.map (fun x=>kyN x.1),rs.map (fun x=>rtT c x.2),fs.map (fun x=>rtT c x.2),rfl,?_,?_,?_,?_,?_⟩
  ·exact(by simp:(C++mB c rs::G++[mB c fs])[C.length]?=some (mB c rs))
  ·exact(by simp:(C++mB c rs::G++[mB c fs])[(C++mB c rs::G).length]?=some (mB c fs))
  ·simp
  ·rw[aP,aP];simp[lim];lia
  ·rw[aEf sC h1 h2]
   refine⟨n - (rs++fs).length,?_,rs++fs,G++[mB c fs],rfl,?_,R',bG _⟩
   ·rw[bA]at jk|-;lia
   ·rw[cZ,cC _ _ (bG _),dH];rfl
end Lib
namespace Lib
open PySem L2 TL NF
variable{N:Nt}{r:List (Nat×Bool)}{o:Nat×Bool}{c:Nat}{pl:Int}
def rmin(N:Nt)(f:Nat->Int)(r:List (Nat×Bool)):Int:=tF (r.map (rr N f))
theorem yF:∀{ns:List Int},ns≠[]->tF ns∈ns/\∀a∈ns,tF ns<=a:=by
 have key:∀(ns:List Int)(n:Int),(ns.foldl (fun a b=>if b<a then b else a) n=n\/ns.foldl (fun a b=>if b<a then b else a) n∈ns)/\ns.foldl (fun a b=>if b<a then b else a) n<=n/\∀a∈ns,ns.foldl (fun a b=>if b<a then b else a) n<=a:=by
  intro ns;induction ns with
  |nil=>intro n;exact⟨.inl rfl,b4 _,fun a h=>nomatch h⟩
  |cons m ns ih=>
   intro n;rw[aO4];obtain⟨h1,h2,h3⟩:=ih (if m<n then m else n);by_cases hm:m<n
   ·rw[if_pos hm]at h1 h2 h3|-
    refine⟨?_,by lia,fun a ha=>?_⟩
    ·rcases h1 with h1|h1
     ·rw[h1];simp
     ·exact .inr (aZ _ h1)
    ·rcases bE.mp ha with rfl|ha
     ·exact h2
     ·exact h3 a ha
   ·rw[if_neg hm]at h1 h2 h3|-
    refine⟨?_,h2,fun a ha=>?_⟩
    ·rcases h1 with h1|h1
     ·exact .inl h1
     ·exact .inr (aZ _ h1)
    ·rcases bE.mp ha with rfl|ha
     ·lia
     ·exact h3 a ha
 intro ns bb;cases ns with
 |nil=>exact absurd rfl bb
 |cons n ns=>
  obtain⟨h1,h2,h3⟩:=key ns n
  refine⟨?_,fun a ha=>?_⟩
  ·rcases h1 with h1|h1
   ·show aPK (fun a b=>if b<a then b else a) n ns∈n::ns;rw[h1];simp
   ·exact aZ _ h1
  ·rcases bE.mp ha with rfl|ha
   ·exact h2
   ·exact h3 a ha
theorem aI1{f:Nat->Int}(ho:o∈r):rmin N f r<=rr N f o:=
 (yF (ns:=r.map (rr N f)) (by rintro z;have:=aO7.mp z;subst this;cases ho)).2 _ (cY ho)
theorem aF4{f:Nat->Int}(hr:r≠[])(ho:∀o∈r,Open N f o):0<rmin N f r:=by
 obtain⟨h1,h2⟩:=yF (ns:=r.map (rr N f)) (by rintro z;exact hr (aO7.mp z));obtain⟨o,bz,e⟩:=bI.mp h1;unfold rmin;rw[<-e];exact(ho o bz).2
theorem aCW{f:Nat->Int}{C:Sto}(A:iE N f c pl C)(hr:r≠[])(ho:∀o∈r,o.1<N.m)(hl:r.length<1000){Q:T->Sto->Prop}(q:Q (.int (rmin N f r)) C):wpO (qC [rtT c r] C) Q:=by
 refine iO ?_
 unfold zP;walk_at "b"
 refine jN.mpr (jT.mpr (fF.mpr (hZ.mpr (kO.mpr (e9.mpr ⟨_,rfl,_,rfl,by simp[lim];lia,?_⟩)))))
 refine gG (xs:=r) (en:=fun o=>T.cell (pc c o)) (fun o=>T.int (rr N f o)) (fun o bz=>gQ.mpr (iA (i9 (t:=.cell (pc c o)) rfl (A.fld (ho o bz)).2.2.2.1) ⟨rfl,rfl⟩)) ?_
 refine fS.mpr (vX.mpr ⟨_,rfl,_,pO (f:=rr N f),?_,q⟩)
 cases r with
 |nil=>exact absurd rfl hr
 |cons o r=>rfl
theorem iE.pour1{f:Nat->Int}{C:Sto}(A:iE N f c pl C)(ho:o.1<N.m)(x:Int):
 iE N (up f o.1 (f o.1+if o.2 then x else -x)) c pl ((C.set (pc c o) (.o "Pipe" pnm,[.int (rt N o),.int (rh N o),.int (rd N o),.int (rr N f o - x),.cell (pc c (o.1,!o.2))])).set (pc c (o.1,!o.2)) (.o "Pipe" pnm,[.int (rt N (o.1,!o.2)),.int (rh N (o.1,!o.2)),.int (rd N (o.1,!o.2)),.int (rr N f (o.1,!o.2)+x),.cell (pc c (o.1,!!o.2))])):=by
 have l1:=lB (A.pip o ho);have l2:=lB (A.pip (o.1,!o.2) ho);obtain⟨k,b⟩:=o;have bb:pc c (k,b)≠pc c (k,!b):=by unfold pc;cases b<;>simp
 have low:∀i,i<c+2->i≠pc c (k,b)/\i≠pc c (k,!b):=fun i hi=>by unfold pc;constructor<;>lia
 refine⟨?_,?_,fun o' iw=>?_⟩
 ·rw[aU (Ne.symm (low c (by lia)).2),aU (Ne.symm (low c (by lia)).1)];exact A.net
 ·rw[aU (Ne.symm (low (c+1) (by lia)).2),aU (Ne.symm (low (c+1) (by lia)).1)];exact A.lst
 ·obtain⟨k',b'⟩:=o';by_cases hk:k'=k
  ·subst hk;by_cases hb:b'=b
   ·subst hb;rw[aU (Ne.symm bb),mQ l1];unfold pcell rr;rw[zI];cases b'<;>simp<;>lia
   ·have ui:b'= !b:=by cases b<;>cases b'<;>simp_all
    subst ui;rw[mQ (by rw[cM];exact l2)];unfold pcell rr;rw[zI];cases b<;>simp<;>lia
  ·have n1:pc c (k',b')≠pc c (k,b):=by unfold pc;dsimp only;split<;>split<;>lia
   have n2:pc c (k',b')≠pc c (k,!b):=by unfold pc;dsimp only;split<;>split<;>lia
   rw[aU (Ne.symm n2),aU (Ne.symm n1),A.pip (k',b') iw];unfold pcell rr;rw[xJ hk]
theorem aJ6{x:Int}:∀{r:List (Nat×Bool)}{f:Nat->Int}{C:Sto},iE N f c pl C->(∀o∈r,o.1<N.m)->∀{Q:T->Sto->Prop},(∀C',iE N (pr r x f) c pl C'->C'.length=C.length->(∀i,i<c\/c+2+2*N.m<=i->C'[i]?=C[i]?)->Q .non C')->wpO (aAl [rtT c r,.int x] C) Q:=by
 intro r f C A ho Q q
 refine iO ?_
 unfold aIm;walk_at "b"
 refine p9.mpr (e9.mpr ⟨_,rfl,_,rfl,?_⟩)
 refine jS (xs:=r) (en:=fun o=>T.cell (pc c o)) (fun j τ C'=>∃a,τ=[some (rtT c r),some (.int x),a]/\iE N (pr (r.take j) x f) c pl C'/\C'.length=C.length/\∀i,i<c\/c+2+2*N.m<=i->C'[i]?=C[i]?) ⟨_,rfl,A,rfl,fun _ _=>rfl⟩ ?_ ?_
 ·rintro j o τ C' hj ⟨a,rfl,A',hl,ph⟩;have bz:=ho o (bD hj);obtain⟨f1,f2,f3,f4,f5⟩:=A'.fld bz;have A2:=A'.pour1 bz x;have l2:=lB (A'.pip (o.1,!o.2) bz);have bb:pc c o≠pc c (o.1,!o.2):=by obtain⟨k,b⟩:=o;unfold pc;cases b<;>simp
  have ou:∀(r:List (Nat×Bool))(f:Nat->Int),pr (r++[o]) x f=up (pr r x f) o.1 (pr r x f o.1+if o.2 then x else -x):=fun r=>by
   induction r with
   |nil=>intro f;rfl
   |cons e r ih=>intro f;show pr (r++[o]) x _=_;rw[ih];rfl
  unfold aCr
  refine gQ.mpr (fO.mpr (wT (i:=rr N (pr (r.take j) x f) o) (j:=x) (e9.mpr ⟨_,rfl,f4,e9.mpr ⟨_,rfl,rfl,_,lC (A'.pip o bz) (by decide) rfl rfl,?_⟩⟩)))
  have g5:nS "Pipe" "back" (C'.set (pc c o) (.o "Pipe" pnm,[.int (rt N o),.int (rh N o),.int (rd N o),.int (rr N (pr (r.take j) x f) o - x),.cell (pc c (o.1,!o.2))])) (.cell (pc c o))=some (.cell (pc c (o.1,!o.2))):=kQ (mQ (lB (A'.pip o bz))) rfl;have g6:(C'.set (pc c o) (.o "Pipe" pnm,[.int (rt N o),.int (rh N o),.int (rd N o),.int (rr N (pr (r.take j) x f) o - x),.cell (pc c (o.1,!o.2))]))[pc c (o.1,!o.2)]?=some (pcell N (pr (r.take j) x f) c (o.1,!o.2)):=by
   rw[aU bb];exact A'.pip (o.1,!o.2) bz
  refine gR.mpr (wT (i:=rr N (pr (r.take j) x f) (o.1,!o.2)) (j:=x) (iA (i9 (t:=.cell (pc c o)) rfl g5) ⟨kQ g6 rfl,e9.mpr ⟨_,rfl,rfl,_,lC g6 (by decide) rfl rfl,trivial,_,rfl,?_,?_,?_⟩⟩))
  ·rw[aOT,hj,dO,ou]
   exact A2
  ·rw[cM,cM];exact hl
  ·intro i hi;rw[aU (by unfold pc;split<;>lia),aU (by unfold pc;split<;>lia)]
   exact ph i hi
 ·rintro τ C' ⟨a,rfl,A',hl,ph⟩;rw[dA]at A'
  exact q C' A' hl ph
end Lib
namespace Lib
open PySem L2 TL NF
variable{w:Wk}{es:List (Nat×Nat)}{P:Int}{p:Nat->Int}{c:Nat}{Q:T->Sto->Prop}
structure Wel(w:Wk)(n:Nat)(es:List (Nat×Nat))(P:Int):Prop where
 n8:n<=8
 m:(net w n es P).m<40000
 ein:∀e∈es,e.1<n/\e.2<n
 rk:∃r:Nat->Int,(∀i,i<n->0<=r i/\r i<n)/\∀e∈es,r e.1<r e.2
 l0:∀i,i<n->0<=w.l i
 pP:sm n w.p<P
 big:sm n w.p<10^199
theorem Wel.open{n:Nat}(W:Wel w n es P){f:Nat->Int}{a:Int}(G:Good w n es P f a p)(ha:a<P):∀k,k<(net w n es P).m->isU n k=false->f k<(net w n es P).c k:=fun k hk hu=>by
 obtain⟨r,h1,h2⟩:=W.rk
 exact NF.plenty G.flo G.cap h1 h2 W.ein ha hk hu
theorem aGE:st1 0=fun _=>0:=by funext v;unfold st1;split<;>rfl
theorem aOr{n:Nat}:sm n (fun _=>0)=0:=oF fun _ _=>rfl
theorem moments0{n:Nat}(W:Wel w n es P){f:Nat->Int}{a:Int}{C:Sto}(A:iE (net w n es P) f c (2*n+2:Nat) C)(G:Good w n es P f a p)(hb:sm (2*n+2) p<10^199)
 (q:∀p',Least (net w n es P) (2*n+2) f (fun _=>0) p'->Good w n es P f a p'->(∀v,v<2*n+2->p' v<=p v)->Q (.cell C.length) (C++[(.l,kI (2*n+2) p')])):wpO (jX [.cell c,.int 0] C) Q:=by
 refine aDq A W.m (aA1 W.ein) (by lia) (by have:=W.n8;lia) (y:=p) (fun v hv=>by rw[aGE];exact G.ge v hv) G.pot (by rw[aGE,aOr];lia) fun p' L=>?_
 rw[aGE]at L;obtain⟨G',h⟩:=G.least L
 exact q p' L G' h
structure Filled(w:Wk)(n:Nat)(es:List (Nat×Nat))(P:Int)(e:Int)(f0:Nat->Int)(a0:Int)(p0 f p:Nat->Int)(a:Int):Prop where
 good:Good w n es P f a p
 least:Least (net w n es P) (2*n+2) f (fun _=>0) p
 le:∀v,v<2*n+2->p v<=p0 v
 ready:p 1<=e
 how:f=f0\/a0<a/\∃q,Good w n es P f a q/\e<q 1/\∀v,v<2*n+2->q v<=p0 v
theorem aIO{n:Nat}(W:Wel w n es P){E e:Int}{b:Nat->Int}(TM:Tim n es E b w.l)(hE:E<=e)(gu:0<=e){f0 p0:Nat->Int}{a0:Int}(G0:Good w n es P f0 a0 p0)(kj:a0<=sm n w.p)(a00:0<=a0)(hb:sm (2*n+2) p0<10^199)
 {C:Sto}(A:iE (net w n es P) f0 c (2*n+2:Nat) C)
 (q:∀f p a C',Filled w n es P e f0 a0 p0 f p a->a<=sm n w.p->a0<=a->iE (net w n es P) f c (2*n+2:Nat) C'->C.length<=C'.length->(∀i,i<C.length->(i<c\/c+2+2*(net w n es P).m<=i)->C'[i]?=C[i]?)->Q .non C'):
 wpO (oB [.cell c,.int e] C) Q:=by
 have aj:=A.len;have hn8:=W.n8
 refine iO ?_
 unfold wS;walk_at "b"
 refine fO.mpr (gF.mpr (mU (e9.mpr ⟨_,rfl,oN A.net rfl,fF.mpr (kZ.mpr (fS.mpr ⟨rfl,moments0 W A G0 hb fun p1 L1 G1 h1=>?_⟩))⟩)))
 refine gQ.mpr (gR.mpr ?_)
 refine xR (fun m τ C'=>∃f p a mq x,τ=[some (.cell c),some (.int e),some (.cell mq),x]/\C'[mq]?=some (.l,kI (2*n+2) p)/\iE (net w n es P) f c (2*n+2:Nat) C'/\Good w n es P f a p/\Least (net w n es P) (2*n+2) f (fun _=>0) p/\(∀v,v<2*n+2->p v<=p0 v)/\
  a<=sm n w.p/\a0<=a/\(f=f0\/a0<a/\∃q,Good w n es P f a q/\e<q 1/\∀v,v<2*n+2->q v<=p0 v)/\C.length<=C'.length/\(∀i,i<C.length->(i<c\/c+2+2*(net w n es P).m<=i)->C'[i]?=C[i]?)/\sm n w.p+1 - a<=(m:Int)) (m:=(sm n w.p+1 - a0).toNat) ?_ ?_ ?_
 ·have h2:=W.big;have h3:(sm n w.p+1 - a0).toNat<=10^199:=by lia
  exact aOQ h3 (Nat.pow_lt_pow_right (by decide) (by decide))
 ·refine⟨f0,p1,a0,C.length,_,rfl,by simp,A.app aj,G1,L1,h1,kj,b4 _,.inl rfl,by simp,fun i hi _=>aY hi,by lia⟩
 rintro m τ C' ⟨f,p,a,mq,x,rfl,oy,A',G,L,hle,ha,zb,how,hCl,ph,yl⟩;have gq:lc C' mq=some (kI (2*n+2) p):=gP.mpr oy
 refine j0.mpr (gO.mpr (gO.mpr (e9.mpr ⟨_,rfl,kZ.mpr (pN.mpr ⟨_,gq,_,aD8 (v:=1) (by lia),e9.mpr ⟨_,rfl,pI.mpr ⟨_,rfl,?_⟩⟩⟩)⟩)))
 by_cases hp:e<p 1
 ·rw[if_pos (decide_eq_true hp)];have vy:0<n:=by
   rcases Nat.eq_zero_or_pos n with z|z
   ·exfalso;have hm0:(net w n es P).m=0:=by
     show 4*n+es.length=0;have:es=[]:=by
      cases es with
      |nil=>rfl
      |cons x r=>have:=(W.ein x bJ).1;lia
     rw[this,z];rfl
    have:=L.le (fun _=>0) (fun _ _=>b4 _) (fun k hk=>by lia) 1 (by lia)
    lia
   ·exact z
  have ho:=W.open G (cT ha W.pP);have tq:=A'.len;unfold rJ
  refine fO.mpr (gF.mpr (jE.mpr (fF.mpr (mU (e9.mpr ⟨_,rfl,oN A'.net rfl,fS.mpr ⟨rfl,qN A' W.m ?_⟩⟩)))))
  refine fF.mpr (e9.mpr ⟨_,rfl,fS.mpr ⟨rfl,?_⟩⟩)
  refine wG A' W.m (aA1 W.ein) (by lia) (by lia) oy (fun R r0 hc=>G.route L ho W.ein W.l0 vy R r0 hc) fun r G2 hr=>?_
  have A2:iE (net w n es P) f c (2*n+2:Nat) (C'++G2):=A'.app tq;have bb:r≠[]:=fun z=>by
   subst z;have:=hr.wk
   exact absurd (show(0:Nat)=1 from this) (by decide)
  have vq:∀o∈r,o.1<(net w n es P).m:=fun o bz=>(hr.op o bz).1
  have gk:=aA1 (w:=w) (P:=P) W.ein;have jk:r.length<1000:=by
   have h5:=mM (2*n+2) _ (bY.mp hr.nd).2 fun v hv=>by
    obtain⟨⟨k,d⟩,bz,rfl⟩:=bI.mp hv;have:=gk k (hr.op _ bz).1;unfold rh;cases d<;>simp<;>lia
   rw[aP]at h5
   lia
  refine gQ.mpr (gR.mpr (fO.mpr (o9.mpr (jE.mpr (fF.mpr (e9.mpr ⟨_,rfl,fF.mpr (jE.mpr (fF.mpr (e9.mpr ⟨_,rfl,fS.mpr ⟨rfl,aCW A2 bb vq jk (fS.mpr ⟨rfl,?_⟩)⟩⟩)))⟩))))))
  refine aJ6 A2 vq fun C3 A3 hl3 hf3=>?_
  have hx:=aF4 bb hr.op;have G3:Good w n es P (pr r (rmin (net w n es P) f r) f) (a+rmin (net w n es P) f r) p:=G.pour hr.wk hr.pipes hr.tg (by lia) fun o bz=>aI1 bz
  have hb3:=G3.bound TM (by lia);have il:sm (2*n+2) p<10^199:=cT (wN hle) hb
  refine gR.mpr (gF.mpr (mU (e9.mpr ⟨_,rfl,oN A3.net rfl,fF.mpr (kZ.mpr (fS.mpr ⟨rfl,moments0 W A3 G3 il fun p4 L4 G4 h4=>?_⟩))⟩)))
  have hl5:C'.length<=C3.length:=by rw[hl3];simp
  refine gQ.mpr ⟨(sm n w.p+1 - (a+rmin (net w n es P) f r)).toNat,by lia,_,p4,_,C3.length,_,rfl,by simp,A3.app A3.len,G4,L4,fun v hv=>dQ (h4 v hv) (hle v hv),hb3,by lia,.inr ⟨by lia,p,G3,hp,hle⟩,by rw[bA];lia,fun i hi hic=>?_,by lia⟩
  rw[aY (by lia),hf3 i hic,aY (by lia)]
  exact ph i hi hic
 ·rw[if_neg (by rw[decide_eq_false hp];simp)]
  exact q f p a C' ⟨G,L,hle,by lia,how⟩ ha zb A' hCl ph
end Lib
namespace Lib
open PySem L2 TL NF
variable{d:Nat}{s:Nat×Nat}{L:NF.Fl}{Q:T->Sto->Prop}
def ky2(s:Nat×Nat):List Key:=[kyN s.1,kyN s.2]
theorem aDL(a b:Nat×Nat)(h:ky2 a=ky2 b):a=b:=by
 have h1:=aQe.inj h;have h2:=aQe.inj h1.2
 exact aQr (sC _ _ h1.1) (sC _ _ h2.1)
noncomputable def stT(s:Nat×Nat):T:=.tup [.int s.1,.int s.2]
def l5(L:NF.Fl):Cl:=(.dt (L.map fun p=>ky2 p.1),L.map fun p=>.int p.2)
def aIF(L:NF.Fl):Cl:=(.dz (L.map fun p=>ky2 p.1),L.map fun p=>.int p.2)
theorem u9{C:Sto}(e:C[d]?=some (l5 L)\/C[d]?=some (aIF L)):dval C (.cell d) (stT s)=some ((lk L s).map T.int):=by
 unfold dval;rw[aHd e,aF8 e];show some (vl _ (ky2 s))=_;rw[aCN (vf:=fun i:Int=>T.int i) aDL]
theorem aDQ{C:Sto}{v:Int}(e:C[d]?=some (l5 L))(hl:L.length<lim):dput C (.cell d) (stT s) (.int v)=some (C.set d (l5 (lZ L s v))):=by
 unfold dput;rw[aHd (.inl e),aHY e];show(if _ then some (C.set d (.dt (pkK (ky2 s) _),pvK (ky2 s) _ _ _))else none)=_;rw[if_pos (by simpa using hl)];obtain⟨e1,e2⟩:=aAw (vf:=fun i:Int=>T.int i) aDL (a:=s) (b:=v) (rs:=L);rw[e1,e2];rfl
theorem qH:(lk L s).getD 0=at_ L s:=by
 unfold at_;congr 1;induction L with
 |nil=>rfl
 |cons e L ih=>
  obtain⟨k,v⟩:=e;rw[mE,b6];by_cases h:k=s
  ·rw[if_pos h,show(s==k)=true from beq_iff_eq.mpr h.symm]
  ·rw[if_neg h,show(s==k)=false from beq_eq_false_iff_ne.mpr (Ne.symm h)];exact ih
theorem aAS{p:(Nat×Nat)×Int}{v:Int}(h:¬p.1=s):lZ (p::L) s v=p::lZ L s v:=by
 unfold lZ;rw[aM];by_cases hs:s∈L.map (·.1)
 ·rw[if_pos (aZ _ hs),if_pos hs,aM,if_neg h]
 ·rw[if_neg (fun z=>by rcases bE.mp z with z|z;·exact h z.symm
                       ·exact hs z),if_neg hs];rfl
theorem aDo{g:(Nat×Nat)×Int->(Nat×Nat)×Int}(h:s∉L.map (·.1)):L.map (fun p=>if p.1=s then g p else p)=L:=by
 induction L with
 |nil=>rfl
 |cons e L ih=>
  rw[aM,bE,not_or]at h;rw[aM,ih h.2,if_neg (fun z=>h.1 z.symm)]
theorem aEa{s:Nat×Nat}{v:Int}:∀{L:NF.Fl},(L.map (·.1)).Nodup->lZ L s (at_ L s+v)=ad s v L
 | [],_=>by simp[lZ,ad,at_]
 | (k,x)::L,hn=>by
   rw[aM,bY]at hn;unfold ad;by_cases h:k=s
   ·subst h;have e:at_ ((k,x)::L) k=x:=by rw[<-qH,mE,if_pos rfl];rfl
    rw[e,if_pos rfl];unfold lZ;rw[if_pos (by simp),aM,if_pos rfl,aDo hn.1]
   ·have e:at_ ((k,x)::L) s=at_ L s:=by rw[<-qH,mE,if_neg h,qH]
    rw[e,if_neg h,aAS h,aEa hn.2]
theorem aJO{x:Int}(hn:(L.map (·.1)).Nodup)(hs:s∈L.map (·.1)):lZ L s (at_ L s - x)=tk x s L:=by
 unfold lZ;rw[if_pos hs];unfold tk;induction L with
 |nil=>rfl
 |cons e L ih=>
  obtain⟨k,y⟩:=e;rw[aM,bY]at hn;rw[aM,aM];by_cases h:k=s
  ·subst h;have e:at_ ((k,y)::L) k=y:=by rw[<-qH,mE,if_pos rfl];rfl
   rw[e,if_pos rfl,aDo hn.1,aDo (g:=fun e=>(e.1,e.2 - x)) hn.1]
  ·have e:at_ ((k,y)::L) s=at_ L s:=by rw[<-qH,mE,if_neg h,qH]
   rw[aM]at hs;rw[e,if_neg h,if_neg h,ih hn.2 ((bE.mp hs).resolve_left (Ne.symm h))]
theorem aKU{e:(Nat×Nat)×Int}(hn:(L.map (·.1)).Nodup)(he:e∈L):lk L e.1=some e.2:=by
 induction L with
 |nil=>cases he
 |cons p L ih=>
  rw[aM,bY]at hn;rw[mE];rcases bE.mp he with rfl|he
  ·rw[if_pos rfl]
  ·rw[if_neg (fun z=>hn.1 (by rw[z];exact cY he)),ih hn.2 he]
noncomputable def outs(L:NF.Fl)(v:Nat):List (Nat×Nat):=(L.filter fun e=>decide (e.1.1=v)&&decide (0<e.2)).map (·.1)
theorem qK{C:Sto}{v:Nat}(e:C[d]?=some (l5 L))(hn:(L.map (·.1)).Nodup)(hl:L.length<90000)(q:Q (.lst ((outs L v).map stT)) C):wpO (lG [.int v,.cell d] C) Q:=by
 have hd:=lB e
 refine iO ?_
 unfold sB;walk_at "b"
 refine jN.mpr (hZ.mpr (aFR (c:=d) (ks:=L.map fun p:(Nat×Nat)×Int=>ky2 p.1) (ts:=L.map fun p:(Nat×Nat)×Int=>T.int p.2) (e9.mpr ⟨_,rfl,rfl,e,by simp,by simp[lim];lia,?_⟩)))
 have hz:(C.set d (aIF L))[d]?=some (aIF L):=mQ hd;rw[b7,show(aIw ∘ fun p:(Nat×Nat)×Int=>ky2 p.1)=fun p=>stT p.1 from rfl]
 refine rO (xs:=L) (en:=fun p=>stT p.1) (fun e=>decide (e.1.1=v)&&decide (0<e.2)) (fun p=>stT p.1) (fun x hx=>?_) ?_
 ·refine gQ.mpr (aA8.mpr (j0.mpr (gO.mpr (gO.mpr ?_))))
  refine e9.mpr ⟨stT x.1,rfl,?_⟩
  refine kZ.mpr (pN.mpr ⟨[.int x.1.1,.int x.1.2],rfl,.int x.1.1,rfl,?_⟩)
  refine e9.mpr ⟨.int v,rfl,?_⟩
  refine aAh.mpr ⟨_,rfl,?_⟩
  have hv:((x.1.1:Int)=v)↔x.1.1=v:=by lia
  by_cases h:x.1.1=v
  ·rw[if_pos (decide_eq_true (hv.mpr h))];have hg:=u9 (s:=x.1) (L:=L) (C:=C.set d (aIF L)) (.inr hz);rw[aKU hn hx]at hg
   refine j0.mpr (gO.mpr (gO.mpr (e9.mpr ⟨_,rfl,e9.mpr ⟨_,rfl,rH.mpr ⟨_,hg,kZ.mpr (pI.mpr ⟨_,rfl,rfl,?_,fun _=>e9.mpr ⟨_,rfl,rfl,rfl⟩⟩)⟩⟩⟩)))
   rw[decide_eq_true h,Bool.true_and]
  ·rw[if_neg (by rw[decide_eq_false (fun z=>h (hv.mp z))];simp)]
   refine⟨rfl,by rw[decide_eq_false h,aPy],fun z=>?_⟩
   rw[decide_eq_false h,aPy]at z;cases z
 ·have:(L.filter fun e=>decide (e.1.1=v)&&decide (0<e.2)).map (fun p=>stT p.1)=(outs L v).map stT:=by unfold outs;rw[b7];rfl
  rw[this]
  exact⟨rfl,q⟩
theorem aBj{x:Int}{s:Nat×Nat}:∀{r:List (Nat×Nat)}{L:NF.Fl},tks x (r++[s]) L=tk x s (tks x r L)
 | [],L=>rfl
 |a::r,L=>by show tks x (r++[s]) (tk x a L)=_;rw[aBj];rfl
theorem aBh{C:Sto}{rc:Nat}{r:List (Nat×Nat)}(e:C[d]?=some (l5 L))(e2:C[rc]?=some (.l,r.map stT))(hn:(L.map (·.1)).Nodup)(hl:L.length<90000)(hr:r≠[])(jk:r.length<1000)(hk:∀s∈r,s∈L.map (·.1))
 (q:Q (.int (tF (r.map (at_ L)))) (C.set d (l5 (tks (tF (r.map (at_ L))) r L)))):wpO (oK [.cell d,.cell rc] C) Q:=by
 have hd:=lB e;have yx:d≠rc:=fun z=>by subst z;rw[e]at e2;cases e2
 have gq:lc C rc=some (r.map stT):=gP.mpr e2;have lkk:∀(L':NF.Fl)(s:Nat×Nat),s∈L'.map (·.1)->lk L' s=some (at_ L' s):=fun L' s hs=>by
  obtain⟨v,hv⟩:=cU.mp (oC.mpr hs);rw[hv,<-qH,hv];rfl
 generalize hx:tF (r.map (at_ L))=x at q
 refine iO ?_
 unfold wK;walk_at "b"
 refine fO.mpr (gF.mpr (jT.mpr (fF.mpr (hZ.mpr (kO.mpr (e9.mpr ⟨_,rfl,_,gq,by simp[lim];lia,?_⟩))))))
 refine gG (xs:=r) (en:=stT) (fun s=>T.int (at_ L s)) (fun s hs=>gQ.mpr (gO.mpr (e9.mpr ⟨_,rfl,e9.mpr ⟨_,rfl,rH.mpr ⟨_,by rw[u9 (.inl e),lkk L s (hk s hs)];rfl,rfl,rfl⟩⟩⟩))) ?_
 refine fS.mpr (vX.mpr ⟨_,rfl,_,pO (f:=at_ L),?_,?_⟩)
 ·cases r with
  |nil=>exact absurd rfl hr
  |cons s r=>rfl
 rw[show tF (r.map (at_ L))=x from hx]
 refine gQ.mpr (gR.mpr (fO.mpr (p9.mpr (e9.mpr ⟨_,rfl,_,gq,?_⟩))))
 refine jS (xs:=r) (en:=stT) (fun j τ C'=>∃y,τ=[some (.cell d),some (.cell rc),some (.int x),y]/\C'=C.set d (l5 (tks x (r.take j) L))) ⟨_,rfl,?_⟩ ?_ ?_
 ·obtain⟨h1,h2⟩:=aR.mp e;show C=C.set d (l5 L);rw[<-h2,aOA]
 ·rintro j s τ C' hj ⟨y,rfl,rfl⟩;have hs:=hk s (bD hj);have ot:s∈(tks x (r.take j) L).map (·.1):=by rw[nG];exact hs
  have jl:((tks x (r.take j) L).map (·.1)).Nodup:=by rw[nG];exact hn
  have eh:(tks x (r.take j) L).length<90000:=by
   have:=congrArg aP3 (nG (x:=x) (r:=r.take j) (L:=L));rw[aP,aP]at this;lia
  have e':(C.set d (l5 (tks x (r.take j) L)))[d]?=some (l5 (tks x (r.take j) L)):=mQ hd;unfold sA
  refine gQ.mpr (aIj (i:=at_ (tks x (r.take j) L) s) (j:=x) (e9.mpr ⟨_,rfl,e9.mpr ⟨_,rfl,by rw[u9 (.inl e'),lkk _ s ot];rfl,e9.mpr ⟨_,rfl,rfl,_,aDQ e' (by simp[lim];lia),?_,_,rfl,?_⟩⟩⟩))
  ·show lc _ rc=_;rw[gP,aOv,aU yx];exact e2
  ·rw[aOv,aJO jl ot,aOT,hj,dO,aBj]
 ·rintro τ C' ⟨y,rfl,rfl⟩;rw[dA]
  exact gR.mpr (jN.mpr (e9.mpr ⟨_,rfl,q⟩))
end Lib
namespace Lib
open PySem L2 TL NF
variable{L:NF.Fl}{e:(Nat×Nat)×Int}
structure Flw(L:NF.Fl)(a:Int)(ρ:Nat->Int):Prop where
 con:Con L a
 nn:∀e∈L,0<=e.2
 nd:(L.map (·.1)).Nodup
 hz:∀e∈L,e.1.2≠0
 rk:∀e∈L,ρ e.1.1<ρ e.1.2
 h1:∀e∈L,ρ e.1.2<=ρ 1
 h0:∀e∈L,ρ 0<=ρ e.1.1
 small:ρ 1 - ρ 0<=30
 le:ρ 0<=ρ 1
 len:L.length<90000
theorem aHG{x:T}{l:List T}:atI (x::l) 0=some x:=aEn (j:=0) rfl
theorem SW.snoc:∀{r:List (Nat×Nat)}{u v:Nat}{s:Nat×Nat},SW r u v->s.1=v->SW (r++[s]) u s.2
 | [],u,v,s,h,e=>by cases h;exact⟨e,rfl⟩
 |a::r,u,v,s,⟨h1,h2⟩,e=>⟨h1,SW.snoc h2 e⟩
theorem aHw{v:Nat}{s:Nat×Nat}(h:s∈outs L v):∃e∈L,e.1=s/\s.1=v/\0<e.2:=by
 unfold outs at h;obtain⟨e,he,rfl⟩:=bI.mp h;obtain⟨h1,h2⟩:=cQ.mp he;rw[aOC,decide_eq_true_iff,decide_eq_true_iff]at h2
 exact⟨e,h1,rfl,h2.1,h2.2⟩
theorem aCe{v:Nat}(h:outs L v=[])(he:e∈L)(hv:e.1.1=v):¬0<e.2:=fun hp=>by
 have:e.1∈outs L v:=by
  unfold outs
  refine cY (cQ.mpr ⟨he,?_⟩)
  rw[aOC,decide_eq_true_iff,decide_eq_true_iff]
  exact⟨hv,hp⟩
 rw[h]at this;cases this
theorem aCi(hn:(L.map (·.1)).Nodup)(he:e∈L):at_ L e.1=e.2:=by rw[<-qH,aKU hn he];rfl
theorem xE{a:Int}{ρ:Nat->Int}(F:Flw L a ρ){C:Sto}{d:Nat}(e:C[d]?=some (l5 L)){Q:T->Sto->Prop}
 (q:∀r:List (Nat×Nat),(r=[]/\a<=0)\/(r≠[]/\SW r 0 1/\r.Nodup/\r.length<1000/\∀s∈r,s∈L.map (·.1)/\0<at_ L s)->Q (.cell C.length) (C++[(.l,r.map stT)])):wpO (jV [.cell d] C) Q:=by
 have hd:=lB e;have e':∀x:Cl,(C++[x])[d]?=some (l5 L):=fun x=>by rw[aY hd];exact e
 refine iO ?_
 unfold oS;walk_at "b"
 refine fO.mpr (gF.mpr (kK.mpr (kE.mpr (fS.mpr ⟨by decide,?_⟩))))
 refine gQ.mpr (gR.mpr (fO.mpr (gF.mpr (jE.mpr (fF.mpr (kZ.mpr (fF.mpr ?_)))))))
 refine e9.mpr ⟨_,rfl,fS.mpr ⟨rfl,?_⟩⟩
 refine qK (v:=0) (e' _) F.nd F.len (gQ.mpr (gR.mpr (fO.mpr ?_)))
 refine xR (fun m τ C'=>∃r u,τ=[some (.cell d),some (.cell C.length),some (.lst ((outs L u).map stT))]/\C'=C++[(.l,r.map stT)]/\SW r 0 u/\(r=[]/\u=0\/r≠[]/\∃e∈L,e.1.2=u/\0<e.2)/\(∀s∈r,s∈L.map (·.1)/\0<at_ L s)/\r.Nodup/\(∀s∈r,ρ s.1<ρ u)/\
  (r.length:Int)<=ρ u - ρ 0/\ρ u<=ρ 1/\ρ 1 - ρ u<=(m:Int)) (m:=30) (by decide) ?_ ?_
 ·exact⟨[],0,rfl,rfl,rfl,.inl ⟨rfl,rfl⟩,by simp,by simp,by simp,by simp,F.le,F.small⟩
 rintro m τ C' ⟨r,u,rfl,rfl,h1,h2,h3,h4,h5,h6,h7,h8⟩
 refine vH.mpr (e9.mpr ⟨_,rfl,_,rfl,?_⟩)
 have hsm:=F.small;cases ho:outs L u with
 |nil=>
  rw[bB];rw[if_neg (by simp)]
  refine gR.mpr (jN.mpr (e9.mpr ⟨_,rfl,q r ?_⟩))
  rcases h2 with⟨rfl,rfl⟩| ⟨bb,x,hx,hu,hp⟩
  ·refine .inl ⟨rfl,?_⟩
   by_cases ha:0<a
   ·obtain⟨y,hy,jy,rp⟩:=aJl F.con F.nn F.hz ha
    exact absurd rp (aCe ho hy jy)
   ·lia
  ·refine .inr ⟨bb,?_,h4,by lia,h3⟩
   have xx:u=1:=by
    by_cases z:u=1
    ·exact z
    ·obtain⟨y,hy,jy,rp⟩:=aJS F.con F.nn (v:=u) (by rw[<-hu];exact F.hz x hx) z hx hu hp
     exact absurd rp (aCe ho hy jy)
   rw[xx]at h1;exact h1
 |cons s os=>
  obtain⟨x,hx,gc,vp,hxp⟩:=aHw (L:=L) (v:=u) (s:=s) (by rw[ho];exact bJ);have bx:=F.rk x hx;have sk:=F.h1 x hx;rw[gc,vp]at bx;rw[gc]at sk;rw[aM,if_pos (by simp)];have gq:lc (C++[(Kd.l,r.map stT)]) C.length=some (r.map stT):=gP.mpr (by simp);unfold m4
  refine fO.mpr (aAu.mpr (e9.mpr ⟨_,rfl,fF.mpr (gO.mpr ?_)⟩))
  refine e9.mpr ⟨_,rfl,kZ.mpr (pN.mpr ⟨stT s::os.map stT,rfl,stT s,aHG,?_⟩)⟩
  refine fS.mpr ⟨_,rfl,by rw[gq];rfl,_,gq,aAm.mpr ⟨by simp[lim];lia,?_⟩⟩
  have es:(C++[(Kd.l,r.map stT)]).set C.length (Kd.l,r.map stT++[stT s])=C++[(Kd.l,(r++[s]).map stT)]:=by
   rw[cC _ _ (bG _),dH,bV];rfl
  rw[es]
  refine gR.mpr (gF.mpr (jE.mpr (fF.mpr (gO.mpr (gO.mpr ?_)))))
  refine e9.mpr ⟨_,rfl,kZ.mpr (pN.mpr ⟨stT s::os.map stT,rfl,stT s,aHG,?_⟩)⟩
  refine kZ.mpr (pN.mpr ⟨[.int s.1,.int s.2],rfl,.int s.2,rfl,fF.mpr ?_⟩)
  refine e9.mpr ⟨_,rfl,fS.mpr ⟨rfl,?_⟩⟩
  refine qK (v:=s.2) (e' _) F.nd F.len (gQ.mpr ⟨(ρ 1 - ρ s.2).toNat,by lia,r++[s],s.2,rfl,rfl,SW.snoc h1 vp,.inr ⟨by simp,x,hx,by rw[gc],hxp⟩,fun z hz=>?_,?_,fun z hz=>?_,?_,sk,by lia⟩)
  ·rcases bK.mp hz with hz|hz
   ·exact h3 z hz
   ·have:z=s:=by simpa using hz
    subst this
    exact⟨by rw[<-gc];exact cY hx,by rw[<-gc,aCi F.nd hx];exact hxp⟩
  ·refine eC.mpr ⟨h4,by simp,fun y hy z hz=>?_⟩
   have:z=s:=by simpa using hz
   subst this;rintro rfl;have:=h5 y hy;rw[vp]at this;lia
  ·rcases bK.mp hz with hz|hz
   ·have:=h5 z hz;lia
   ·have:z=s:=by simpa using hz
    subst this;rw[vp];exact bx
  ·rw[bA];simp;lia
end Lib
namespace Lib
open PySem L2 TL NF
variable{r:List (Nat×Nat)}{L:NF.Fl}
theorem aHZ{α β:Type}{g:α->β}:∀{l:List α},TL.od (l.map g)=(NF.od l).map g
 | []=>by simp[TL.od,NF.od]
 | [_]=>by simp[TL.od,NF.od]
 |a::b::r=>by
  have ih:=aHZ (g:=g) (l:=r);simp only[aM,TL.od,NF.od];rw[ih]
theorem aF6{α:Type}:∀{l:List α},(NF.od l).length<=l.length
 | []=>by simp[NF.od]
 | [_]=>by simp[NF.od]
 |a::b::r=>by
  have ih:=aF6 (l:=r);simp only[NF.od,aN]
  lia
theorem aCv{C:Sto}{rc:Nat}{is:List Nat}(e:C[rc]?=some (.l,r.map stT))(hl:r.length<1000)(hi:NF.od r=is.map stw){Q:T->Sto->Prop}(q:Q (.lst (is.map fun i:Nat=>T.int (i:Int))) C):wpO (oA [.cell rc] C) Q:=by
 have yp:is.length<1000:=by
  have h1:=aF6 (l:=r);rw[hi,aP]at h1
  lia
 refine iO ?_
 unfold vP;walk_at "b"
 refine jN.mpr (hZ.mpr (kO.mpr (hZ.mpr (aJt.mpr (e9.mpr ⟨_,rfl,_,gP.mpr e,?_⟩)))))
 rw[aHZ,hi,b7]
 refine⟨_,rfl,by simp[lim];lia,?_⟩
 refine gG (xs:=is) (en:=stT ∘ stw) (fun i:Nat=>T.int (i:Int)) (fun i _=>?_) q
 refine aDE.mpr ⟨_,rfl,rfl,?_⟩
 refine jT.mpr (fF.mpr (e9.mpr ⟨.int ((2*i+2:Nat):Int),rfl,fS.mpr ?_⟩))
 rw[show((2*i+2:Nat):Int)=2*(i:Int)+2 by lia]
 exact(fN aDw rfl rfl).mpr ⟨rfl,rfl⟩
theorem uY{x:Int}:∀{r:List (Nat×Nat)}{L:NF.Fl},tks x r L=L.map fun e=>(e.1,e.2 - x*(r.count e.1:Int))
 | [],L=>by simp[tks]
 |s::r,L=>by
  unfold tks;rw[uY];unfold tk;rw[b7];apply cL;intro e _;simp only[eI];by_cases h:e.1=s
  ·rw[if_pos h];dsimp only;rw[h,List.count_cons_self,aP2,aOD,aQs];congr 1;lia
  ·rw[if_neg h,List.count_cons_of_ne (Ne.symm h)]
theorem Flw.take{a:Int}{ρ:Nat->Int}(F:Flw L a ρ){x:Int}(w:SW r 0 1)(hn:r.Nodup)(hx:∀s∈r,s∈L.map (·.1)/\x<=at_ L s):Flw (tks x r L) (a - x) ρ:=by
 have key:∀e'∈tks x r L,∃e∈L,e.1=e'.1/\e'.2=e.2 - x*(r.count e.1:Int):=fun e' he=>by
  rw[uY]at he;obtain⟨e,h1,rfl⟩:=bI.mp he
  exact⟨e,h1,rfl,rfl⟩
 refine⟨F.con.take F.nd (fun s hs=>(hx s hs).1) w,fun e' he=>?_,by rw[nG];exact F.nd,fun e' he=>?_,fun e' he=>?_,fun e' he=>?_,fun e' he=>?_,F.small,F.le,?_⟩
 ·obtain⟨e,h1,h2,h3⟩:=key e' he;have h4:=F.nn e h1;rw[h3];by_cases hs:e.1∈r
  ·rw[hn.count,if_pos hs];have:=(hx e.1 hs).2;rw[aCi F.nd h1]at this;simp;lia
  ·rw[aPc.mpr hs];simp;exact h4
 ·obtain⟨e,h1,h2,h3⟩:=key e' he;rw[<-h2];exact F.hz e h1
 ·obtain⟨e,h1,h2,h3⟩:=key e' he;rw[<-h2];exact F.rk e h1
 ·obtain⟨e,h1,h2,h3⟩:=key e' he;rw[<-h2];exact F.h1 e h1
 ·obtain⟨e,h1,h2,h3⟩:=key e' he;rw[<-h2];exact F.h0 e h1
 ·rw[uY,aP];exact F.len
theorem Flw.le_a{a:Int}{ρ:Nat->Int}(F:Flw L a ρ){e:(Nat×Nat)×Int}(he:e∈L):e.2<=a:=
 aJP F.con F.nn ρ F.rk he (by have:=F.rk e he;have:=F.h0 e he;lia) (F.h1 e he)
theorem aNO{s:Nat×Nat}(h:s∉L.map (·.1)):at_ L s=0:=by
 rw[<-qH];cases e:lk L s with
 |none=>rfl
 |some v=>exact absurd (oC.mp (by rw[e];rfl)) h
theorem Flw.zero{a:Int}{ρ:Nat->Int}(F:Flw L a ρ)(ha:a<=0)(s:Nat×Nat):at_ L s=0:=by
 by_cases h:s∈L.map (·.1)
 ·obtain⟨e,he,rfl⟩:=bI.mp h;rw[aCi F.nd he];have:=F.le_a he;have:=F.nn e he
  lia
 ·exact aNO h
end Lib
namespace Lib
open PySem L2 TL NF
variable{L:NF.Fl}{s:Nat×Nat}
theorem aHN{s:Nat×Nat}{v:Int}:∀{L:NF.Fl},(ad s v L).length<=L.length+1
 | []=>by simp[ad]
 |e::L=>by
  have:=aHN (s:=s) (v:=v) (L:=L);unfold ad;split<;>simp<;>lia
theorem vJ{N:Nt}{f:Nat->Int}:∀{k:Nat},(stp N f k).length<=k
 |0=>by simp[stp]
 |k+1=>by
  have h1:=vJ (N:=N) (f:=f) (k:=k);have h2:=aHN (s:=(N.t k,N.h k)) (v:=f k) (L:=stp N f k);unfold stp;lia
theorem aI4:((lk L s).map T.int).getD (.int 0)=.int (at_ L s):=by
 rw[<-qH];cases lk L s<;>rfl
theorem zF{α:Type}{p q:α->Bool}:∀{l:List α},(∀e∈l,q e=true->p e=true)->(l.filter q).length<=(l.filter p).length/\((∃e∈l,p e=true/\q e=false)->(l.filter q).length<(l.filter p).length)
 | [],_=>⟨bG _,fun⟨e,he,_⟩=>by cases he⟩
 |a::l,h=>by
  obtain⟨h1,h2⟩:=zF (p:=p) (q:=q) (l:=l) fun e he=>h e (aZ _ he)
  have h3:=h a bJ;rw[eO,eO];cases hq:q a<;>cases hp:p a
  ·simp only[cD,if_false]
   refine⟨h1,fun⟨e,he,e1,e2⟩=>?_⟩
   rcases bE.mp he with rfl|he
   ·rw[hp]at e1;cases e1
   ·exact h2 ⟨e,he,e1,e2⟩
  ·simp only[cD,if_false,if_true,aN]
   exact⟨by lia,fun _=>by lia⟩
  ·rw[h3 hq]at hp;cases hp
  ·simp only[if_true,aN]
   refine⟨by lia,fun⟨e,he,e1,e2⟩=>?_⟩
   rcases bE.mp he with rfl|he
   ·rw[hq]at e2;cases e2
   ·have:=h2 ⟨e,he,e1,e2⟩;lia
noncomputable def posn(L:NF.Fl):Nat:=(L.filter fun e=>decide (0<e.2)).length
theorem aEF{r:List (Nat×Nat)}{x:Int}(hn:(L.map (·.1)).Nodup)(hr:r.Nodup)(hx:0<x)(hs:s∈r)(hk:s∈L.map (·.1))(he:at_ L s=x):posn (tks x r L)<posn L:=by
 unfold posn;rw[uY,List.filter_map,aP]
 refine(zF fun e hel h=>?_).2 ?_
 ·simp only[eI,decide_eq_true_eq]at h|-;have:0<=x*(r.count e.1:Int):=cO (by lia) (by lia)
  lia
 ·obtain⟨e,h1,rfl⟩:=bI.mp hk;rw[aCi hn h1]at he
  refine⟨e,h1,decide_eq_true (by lia),?_⟩
  simp only[eI,decide_eq_false_iff_not];rw[hr.count,if_pos hs,he];simp
structure x9(n:Nat)(es:List (Nat×Nat))(L0:NF.Fl)(a0:Int)(rl:List (Nat×Int×List Nat))(L:NF.Fl)(a:Int):Prop where
 ok:∀z∈rl,1<=z.2.1/\z.2.2≠[]/\(∀i∈z.2.2,i<n)/\NF.Chn es none z.2.2/\∀i,z.2.2.count i<=1
 sum:(rl.map fun z=>z.2.1).sum=a0 - a
 thr:∀i,(rl.map fun z=>z.2.1*(z.2.2.count i:Int)).sum=at_ L0 (stw i) - at_ L (stw i)
noncomputable def aAv(z:Nat×Int×List Nat):Cl:=(.l,.int z.2.1::z.2.2.map fun i:Nat=>T.int (i:Int))
theorem aEI{N:Nt}{f:Nat->Int}{c n:Nat}{es:List (Nat×Nat)}{pl a0:Int}{ρ:Nat->Int}{C:Sto}(A:iE N f c pl C)(hm:N.m<40000)(F0:Flw (stp N f N.m) a0 ρ)(hky:∀s∈(stp N f N.m).map (·.1),Ky n es s)(kj:0<=a0)(ig:a0<10^199){Q:T->Sto->Prop}
 (q:∀rl rw C',rl.length<=N.m->x9 n es (stp N f N.m) a0 rl [] 0->C'[rw]?=some (.l,rl.map fun z=>.cell z.1)->(∀z∈rl,C'[z.1]?=some (aAv z))->Q (.cell rw) C'):wpO (mH [.cell c] C) Q:=by
 have aj:=A.len;have hf:nS "Net" "pipes" C (.cell c)=some (.cell (c+1)):=kQ A.net rfl
 refine iO ?_
 unfold rM;walk_at "b"
 refine fO.mpr (gF.mpr (aBX.mpr (gQ.mpr (gR.mpr (fO.mpr (p9.mpr ?_))))))
 have A1:∀x:Cl,iE N f c pl (C++[x]):=fun x=>A.app aj
 have lm:∀x:Cl,lc (C++[x]) (c+1)=some ((bL N.m).map fun j=>.cell (pc c (j,true))):=fun x=>gP.mpr (A1 x).lst
 refine iA (i9 rfl (kQ (A1 _).net rfl)) ⟨_,lm _,?_⟩
 refine jS (xs:=bL N.m) (en:=fun j=>T.cell (pc c (j,true))) (fun j τ C'=>∃x y,τ=[some (.cell c),some (.cell C.length),x,y,none,none]/\C'=C++[l5 (stp N f j)]) ⟨_,_,rfl,rfl⟩ ?_ ?_
 ·rintro j k τ C' hj ⟨x,y,rfl,rfl⟩;have hk:k=j/\j<N.m:=by
   obtain⟨h1,h2⟩:=aR.mp hj;rw[eQ]at h2
   exact⟨h2.symm,by simpa using h1⟩
  obtain⟨rfl,wa⟩:=hk;obtain⟨f1,f2,f3,f4,f5⟩:=(A1 (l5 (stp N f k))).fld (o:=(k,true)) wa;obtain⟨g1,g2,g3,g4,g5⟩:=(A1 (l5 (stp N f k))).fld (o:=(k,false)) wa;have eD:(C++[l5 (stp N f k)])[C.length]?=some (l5 (stp N f k)):=by simp
  have hsl:=vJ (N:=N) (f:=f) (k:=k);unfold pK
  refine gQ.mpr (fO.mpr (gF.mpr (eY.mpr (fF.mpr ?_))))
  refine iA (i9 (t:=.cell (pc c (k,true))) rfl f1) (fF.mpr ?_)
  refine iA (i9 (t:=.cell (pc c (k,true))) rfl f2) (fS.mpr ⟨by simp[lim],gQ.mpr (gR.mpr ?_)⟩)
  refine aBW (gO.mpr (aFq (e9.mpr ⟨_,rfl,by unfold isDc;rw[aF8 (.inl eD)];simp,e9.mpr ⟨stT (N.t k,N.h k),rfl,kZ.mpr ⟨_,u9 (.inl eD),?_⟩⟩⟩)))
  rw[aI4]
  refine aAi.mpr (aAi.mpr (e9.mpr ⟨_,rfl,_,f5,_,g4,pI.mpr ?_⟩))
  refine e9.mpr ⟨_,rfl,e9.mpr ⟨stT (N.t k,N.h k),rfl,_,aDQ eD (by simp[lim];lia),?_,_,_,rfl,?_⟩⟩
  ·show lc _ (c+1)=_;rw[gP,aU (by lia)];exact(A1 _).lst
  ·rw[cC _ _ (bG _),dH];show C++[l5 (lZ (stp N f k) (N.t k,N.h k) (at_ (stp N f k) (N.t k,N.h k)+rr N f (k,false)))]=_;rw[show rr N f (k,false)=f k from rfl,aEa tM];rfl
 ·rintro τ C' ⟨x,y,rfl,rfl⟩;rw[aPk];have eD:∀z:Cl,(C++[l5 (stp N f N.m)]++[z])[C.length]?=some (l5 (stp N f N.m)):=fun z=>by simp
  refine gR.mpr (fO.mpr (gF.mpr (kK.mpr (kE.mpr (fS.mpr ⟨by decide,?_⟩)))))
  refine gQ.mpr (gR.mpr (fO.mpr (gF.mpr (jE.mpr (fF.mpr ?_)))))
  refine e9.mpr ⟨_,rfl,fS.mpr ⟨rfl,xE F0 (eD _) fun r0 yc=>?_⟩⟩
  refine gQ.mpr (gR.mpr (fO.mpr ?_))
  refine xR (fun m τ C'=>∃rl L a r rc x y,τ=[some (.cell c),some (.cell C.length),x,y,some (.cell (C.length+1)),some (.cell rc)]/\C'[C.length]?=some (l5 L)/\C'[C.length+1]?=some (.l,rl.map fun z=>.cell z.1)/\C'[rc]?=some (.l,r.map stT)/\C.length+1<rc/\
   (∀z∈rl,C.length+1<z.1/\C'[z.1]?=some (aAv z))/\rl.length+posn L<=N.m/\Flw L a ρ/\L.map (·.1)=(stp N f N.m).map (·.1)/\x9 n es (stp N f N.m) a0 rl L a/\((r=[]/\a<=0)\/(r≠[]/\SW r 0 1/\r.Nodup/\r.length<1000/\∀s∈r,s∈L.map (·.1)/\0<at_ L s))/\0<=a/\a<=(m:Int)) (m:=a0.toNat) ?_ ?_ ?_
  ·have:a0.toNat<10^199:=by lia
   exact bS this (aO0 (by decide) (by decide))
  ·refine⟨[],stp N f N.m,a0,r0,C.length+2,x,y,by simp,?_,?_,?_,by lia,by simp,?_,F0,rfl,⟨by simp,by simp,by simp⟩,yc,kj,by lia⟩
   ·rw[aY (by simp)];exact eD _
   ·rw[cZ,cZ,bH (by lia),show C.length+1 - C.length=1 by lia];rfl
   ·rw[cZ,cZ,bH (by lia),show C.length+2 - C.length=2 by lia];rfl
   ·have h1:posn (stp N f N.m)<=(stp N f N.m).length:=dM _ _;have h2:=vJ (N:=N) (f:=f) (k:=N.m);simp;lia
  rintro m τ C' ⟨rl,L,a,r,rc,x,y,rfl,e1,e2,e3,hrc,lj,mr,F,ln,RO,hr,ha,yl⟩
  refine vH.mpr (e9.mpr ⟨_,rfl,!(r.map stT).isEmpty,by show(lc C' rc).map _=_;rw[gP.mpr e3];rfl,?_⟩)
  rcases hr with⟨rfl,cm⟩| ⟨bb,jj,xz,jk,bx⟩
  ·rw[if_neg (by simp)]
   refine gR.mpr (jN.mpr (e9.mpr ⟨_,rfl,q rl (C.length+1) C' (by lia) ⟨RO.ok,?_,fun i=>?_⟩ e2 fun z hz=>(lj z hz).2⟩))
   ·rw[RO.sum];lia
   ·rw[RO.thr i,F.zero cm];rfl
  ·rw[if_pos (by cases r with|nil=>exact absurd rfl bb|cons s r=>rfl)];obtain⟨m1,m2⟩:=yF (ns:=r.map (at_ L)) (by rintro z;exact bb (aO7.mp z));generalize hx:tF (r.map (at_ L))=v at m1 m2;obtain⟨s0,oq,mn⟩:=bI.mp m1;have hv:0<v:=by rw[<-mn];exact(bx s0 oq).2
   have hle:∀s∈r,s∈L.map (·.1)/\v<=at_ L s:=fun s hs=>⟨(bx s hs).1,m2 _ (cY hs)⟩
   have hva:v<=a:=by
    obtain⟨e,he,rfl⟩:=bI.mp (bx s0 oq).1;rw[<-mn,aCi F.nd he];exact F.le_a he
   have F':=F.take jj xz hle;have mx:(tks v r L).map (·.1)=(stp N f N.m).map (·.1):=by rw[nG];exact ln
   obtain⟨is,i1,i2,i3,i4,i5⟩:=aHB (n:=n) (es:=es) r none jj fun s hs=>hky s (by rw[<-ln];exact(bx s hs).1)
   have hpt:=aEF F.nd xz hv oq (bx s0 oq).1 mn;have l1:=lB e1;have l2:=lB e2;have l3:=lB e3;have k3:(C'.set C.length (l5 (tks v r L)))[rc]?=some (.l,r.map stT):=by rw[aU (by lia)];exact e3
   unfold o3
   refine fO.mpr (aAu.mpr (e9.mpr ⟨_,rfl,fF.mpr (kK.mpr (sJ.mpr (hZ.mpr (kE.mpr (fF.mpr (jE.mpr (fF.mpr ?_)))))))⟩))
   refine e9.mpr ⟨_,rfl,fF.mpr (e9.mpr ⟨_,rfl,fS.mpr ⟨rfl,aBh e1 e3 F.nd F.len bb jk (fun s hs=>(bx s hs).1) ?_⟩⟩)⟩
   rw[hx]
   refine fS.mpr ⟨by simp[lim],jE.mpr (fF.mpr (e9.mpr ⟨_,rfl,fS.mpr ⟨rfl,aCv k3 jk i1 ?_⟩⟩))⟩
   have yp:is.length<1000:=by
    have h1:=aF6 (l:=r);rw[i1,aP]at h1
    lia
   refine vA.mpr ⟨_,rfl,_,rfl,by simp[lim];lia,fS.mpr ⟨_,rfl,by rw[gP.mpr e2];rfl,_,gP.mpr (?_ :_=some (Kd.l,rl.map fun z=>T.cell z.1)),aAm.mpr ⟨by simp[lim];lia,?_⟩⟩⟩
   ·rw[aY (by rw[cM];exact l2),aU (by lia)];exact e2
   generalize ul:(C'.set C.length (l5 (tks v r L))++[(Kd.l,[T.int v]++is.map fun i:Nat=>T.int (i:Int))]).set (C.length+1) (Kd.l,(rl.map fun z=>T.cell z.1)++[T.cell (C'.set C.length (l5 (tks v r L))).length])=C2;have lC2:C2.length=C'.length+1:=by rw[<-ul];simp
   have old:∀i,i<C'.length->i≠C.length->i≠C.length+1->C2[i]?=C'[i]?:=fun i hi h1 h2=>by
    rw[<-ul,aU (Ne.symm h2),aY (by rw[cM];exact hi),aU (Ne.symm h1)]
   have c1:C2[C.length]?=some (l5 (tks v r L)):=by
    rw[<-ul,aU (by lia),aY (by rw[cM];exact l1)];exact mQ l1
   have c2:C2[C.length+1]?=some (Kd.l,(rl++[(C'.length,v,is)]).map fun z=>T.cell z.1):=by
    rw[<-ul,bQ (by simp;lia),bV,cM];rfl
   have c3:C2[C'.length]?=some (aAv (C'.length,v,is)):=by
    rw[<-ul,aU (by lia),bH (by simp)];simp[aAv]
   refine gR.mpr (gF.mpr (jE.mpr (fF.mpr (e9.mpr ⟨_,rfl,fS.mpr ⟨rfl,xE F' c1 fun r2 hr2=>?_⟩⟩))))
   refine gQ.mpr ⟨(a - v).toNat,by lia,rl++[(C'.length,v,is)],tks v r L,a - v,r2,C2.length,x,y,rfl,?_,?_,?_,by lia,fun z hz=>?_,?_,F',mx,⟨fun z hz=>?_,?_,fun i=>?_⟩,hr2,by lia,by lia⟩
   ·rw[aY (by lia)];exact c1
   ·rw[aY (by lia)];exact c2
   ·simp
   ·rcases bK.mp hz with hz|hz
    ·obtain⟨g1,g2⟩:=lj z hz
     refine⟨g1,?_⟩
     rw[aY (by have:=lB g2;lia),old _ (lB g2) (by lia) (by lia)];exact g2
    ·have:z=(C'.length,v,is):=by simpa using hz
     subst this
     refine⟨by show C.length+1<C'.length;lia,?_⟩
     rw[aY (by show C'.length<C2.length;lia)];exact c3
   ·rw[bA];simp;lia
   ·rcases bK.mp hz with hz|hz
    ·exact RO.ok z hz
    ·have:z=(C'.length,v,is):=by simpa using hz
     subst this
     refine⟨by show 1<=v;lia,i4 rfl,i2,i3,fun i=>?_⟩
     show is.count i<=1;rw[<-i5 i];exact eG.mp xz _
   ·rw[bV,aO5,RO.sum];simp;lia
   ·rw[bV,aO5,RO.thr i,aFY (fun s hs=>(bx s hs).1)];have:=i5 i;simp;rw[this];lia
end Lib
namespace Lib
open PySem L2 TL
variable{G:FS}{Q:Fl->TSt->Sto->Prop}{ga:FB}{i u z:Int}{ns:List Int}{M:Nat}
def Nb(n:Int):Prop:=0<=n/\n<2^140
def tV(w:Int×Int×Int):Prop:=0<=w.2.1/\w.2.1<=w.1/\0<=w.2.2/\w.1<2^252/\w.2.2<2^252
def qQ(w:Int×Int×Int):Prop:=0<=w.2.1/\w.2.1<=w.1/\0<=w.2.2/\w.1<2^240/\w.2.2<2^240
theorem qQ.b{w:Int×Int×Int}(h:qQ w):tV w:=⟨h.1,h.2.1,h.2.2.1,dB h.2.2.2.1 (by decide),dB h.2.2.2.2 (by decide)⟩
theorem sqP{F:FS}{τ:TSt}{C:Sto}(P:TSt->Sto->Prop)(h1:wpS F τ C fun l aq C1=>l=.nx/\P aq C1)(h2:∀aq C1,P aq C1->wpS G aq C1 Q):wpS (fE F G) τ C Q:=by
 obtain⟨l,aq,C1,e,rfl,p⟩:=h1;obtain⟨l2,ap,C2,e2,q⟩:=h2 aq C1 p
 exact fO.mpr ⟨_,_,_,e,l2,ap,C2,e2,q⟩
theorem ifF{F:FS}{τ:TSt}{C:Sto}(h1:wpB ga τ C fun x C1=>x=false/\C1=C)(h2:wpS G τ C Q):wpS (fIf ga F G) τ C Q:=by
 obtain⟨x,C1,e,rfl,rfl⟩:=h1
 exact l6.mpr ⟨_,_,e,h2⟩
theorem ifT{F:FS}{τ:TSt}{C:Sto}(h1:wpB ga τ C fun x C1=>x=true/\C1=C)(h2:wpS F τ C Q):wpS (fIf ga F G) τ C Q:=by
 obtain⟨x,C1,e,rfl,rfl⟩:=h1
 exact l6.mpr ⟨_,_,e,h2⟩
theorem sqA{a:FE}{i:Nat}{t:T}{τ:TSt}{C:Sto}(h1:wpE a τ C fun x C1=>x=t/\C1=C)(h2:wpS G (τ.set i (some t)) C Q):wpS (fE (fM a (gN i)) G) τ C Q:=by
 obtain⟨x,C1,e,rfl,rfl⟩:=h1
 exact fO.mpr (gF.mpr ⟨_,_,e,gQ.mpr (gR.mpr h2)⟩)
theorem aFC{a b c k:Int}(ha:Sm a)(hb:Sm b)(hc:Sm c)(hu:0<=u)(rq:u<=2^100):∃t,aAG [.int a,.int b,.int c,.int k,.int u]=some t/\∃w,t=w3 w/\qQ w:=by
 apply lF;unfold aDS;have au:0<=a*u:=cO ha.1 hu;have bu:0<=b*u:=cO hb.1 hu;have cu:0<=c*u:=cO hc.1 hu;have au2:a*u<=2147483587*2^100:=d9 (cK ha.2) rq hu (by decide);have bu2:b*u<=2147483587*2^100:=d9 (cK hb.2) rq hu (by decide);have cu2:c*u<=2147483587*2^100:=d9 (cK hc.2) rq hu (by decide);have e5:=iB (x:=a) (m:=5) (by decide);have e97:=iB (x:=b) (m:=97) (by decide);have e6:=iB (x:=b) (m:=6) (by decide);have e3:=iB (x:=b) (m:=3) (by decide);have e50:=iB (x:=b/3) (m:=50) (by decide);have ec5:=iB (x:=c) (m:=5) (by decide);have e89:=iB (x:=a) (m:=89) (by decide);have h0:Nb 0:=⟨by decide,by decide⟩;have h1:Nb (a%5):=⟨e5.1,by lia⟩;have h2:Nb (a*u+b%97):=⟨by lia,by lia⟩;have m1:Nb (b%6):=⟨e6.1,by lia⟩;have m2:Nb (b*u*(if decide (0<b%4)=true then 1 else 0)):=by split<;>exact⟨by lia,by lia⟩
 have m3:Nb (b%3*(b/3%50)):=⟨cO e3.1 e50.1,by
  have:b%3*(b/3%50)<=3*50:=d9 (by lia) (by lia) e50.1 (by decide)
  lia⟩
 have p1:Nb (c%5):=⟨ec5.1,by lia⟩;have p2:Nb (c*u+a%89):=⟨by lia,by lia⟩;have hq:=iB (x:=c/64) (m:=4) (by lia);obtain⟨z,ez,p3⟩:∃z:Int,atI [T.int 0,T.int 3,T.int 3,T.int (1+c%40)] (c/64%4)=some (.int z)/\Nb z:=by
  obtain⟨t,ht,et⟩:=aA4 (xs:=[T.int 0,T.int 3,T.int 3,T.int (1+c%40)]) hq.1 (by simpa using hq.2);have:=iB (x:=c) (m:=40) (by decide);simp only[bE,cN,or_false]at ht;rcases ht with rfl|rfl|rfl|rfl
  ·exact⟨0,et,by decide,by decide⟩
  ·exact⟨3,et,by decide,by decide⟩
  ·exact⟨3,et,by decide,by decide⟩
  ·exact⟨_,et,by lia,by lia⟩
 have fin:∀{l mq p:Int},Nb l->Nb mq->Nb p->∃t,dr 3 [] (T.lst [.int (l+mq),.int l,.int p])=some t/\∃w,t=w3 w/\qQ w:=fun {l mq p} h1 h2 h3=>⟨_,iH (by walk_at "c"),(l+mq,l,p),rfl,h1.1,by show l<=l+mq;have:=h2.1;lia,h3.1,by show l+mq<2^240;have:=h1.2;have:=h2.2;lia,by show p<2^240;have:=h3.2;lia⟩
 have k1:jY a u=true:=fZ (ha.bt.mono (by decide));have k2:jY b u=true:=fZ (hb.bt.mono (by decide));have k3:jY c u=true:=fZ (hc.bt.mono (by decide));have k4:jY (b*u) (if decide (0<b%4)=true then 1 else 0)=true:=by split<;>walk_at "a"
 have k5:jY (b%3) (b/3%50)=true:=fZ ((Bt.mod (k:=10) (by decide) (by decide)).mono (by decide));walk_at "b"
 refine sqP (fun τ C=>C=[]/\τ=[some (.int a),some (.int b),some (.int c),some (.int k),some (.int u),some (.int (a%5)),none,none]) (by simp_arith[↓eZ,↓eY];decide) ?_
 rintro _ _ ⟨rfl,rfl⟩
 refine sqP (fun τ C=>C=[]/\τ=[some (.int a),some (.int b),some (.int c),some (.int k),some (.int u),some (.int (a%5)),some (.int (b%6)),none]) (by simp_arith[↓eZ,↓eY];decide) ?_
 rintro _ _ ⟨rfl,rfl⟩
 refine sqP (fun τ C=>C=[]/\τ=[some (.int a),some (.int b),some (.int c),some (.int k),some (.int u),some (.int (a%5)),some (.int (b%6)),some (.int (c%5))]) (by simp_arith[↓eZ,↓eY];decide) ?_
 rintro _ _ ⟨rfl,rfl⟩
 refine sqP (fun τ C=>C=[]/\∃l m p,Nb l/\Nb m/\Nb p/\τ=[some (.int a),some (.int b),some (.int c),some (.int k),some (.int u),some (.int l),some (.int m),some (.int p)]) ?_ ?_
 ·by_cases hk:k=1
  ·refine ifT (by simp_arith[↓eZ,↓eY];simp[hk]) ?_
   refine sqP (fun τ C=>C=[]/\τ=[some (.int a),some (.int b),some (.int c),some (.int k),some (.int u),some (.int (a*u+b%97)),some (.int (b%6)),some (.int (c%5))]) (by simp_arith[↓eZ,↓eY];exact⟨k1,by decide⟩) ?_
   rintro _ _ ⟨rfl,rfl⟩
   refine sqP (fun τ C=>C=[]/\τ=[some (.int a),some (.int b),some (.int c),some (.int k),some (.int u),some (.int (a*u+b%97)),some (.int (b*u*(if decide (0<b%4)=true then 1 else 0))),some (.int (c%5))]) (by simp_arith[↓eZ,↓eY];exact⟨k2,by decide,k4⟩) ?_
   rintro _ _ ⟨rfl,rfl⟩;simp_arith[↓eZ,↓eY]
   exact⟨k3,by decide,_,h2,_,m2,_,p2,rfl⟩
  ·exact ifF (by simp_arith[↓eZ,↓eY];simp[hk]) (iL.mpr ⟨rfl,rfl,_,_,_,h1,m1,p1,rfl⟩)
 rintro _ _ ⟨rfl,l,m,p,hl,hm,hp,rfl⟩
 refine sqP (fun τ C=>C=[]/\∃l m p,Nb l/\Nb m/\Nb p/\τ=[some (.int a),some (.int b),some (.int c),some (.int k),some (.int u),some (.int l),some (.int m),some (.int p)]) ?_ ?_
 ·by_cases hk:k=2
  ·refine ifT (by simp_arith[↓eZ,↓eY];simp[hk]) ?_
   refine sqP (fun τ C=>C=[]/\τ=[some (.int a),some (.int b),some (.int c),some (.int k),some (.int u),some (.int l),some (.int (b%3*(b/3%50))),some (.int p)]) (by simp_arith[↓eZ,↓eY];exact⟨by decide,by decide,by decide,k5⟩) ?_
   rintro _ _ ⟨rfl,rfl⟩;simp_arith[↓eZ,↓eY,↓fJ ez]
   exact⟨by decide,by decide,by decide,by decide,_,hl,_,m3,_,p3,rfl⟩
  ·exact ifF (by simp_arith[↓eZ,↓eY];simp[hk]) (iL.mpr ⟨rfl,rfl,_,_,_,hl,hm,hp,rfl⟩)
 rintro _ _ ⟨rfl,l,m,p,hl,hm,hp,rfl⟩
 refine sqP (fun τ C=>C=[]/\∃l m p,Nb l/\Nb m/\Nb p/\τ=[some (.int a),some (.int b),some (.int c),some (.int k),some (.int u),some (.int l),some (.int m),some (.int p)]) ?_ ?_
 ·refine l6.mpr ?_
  simp_arith[↓eZ,↓eY];split
  ·refine⟨by decide,?_⟩
   split
   ·exact⟨_,h0,_,hm,_,hp,rfl⟩
   ·exact⟨_,hl,_,hm,_,hp,rfl⟩
  ·exact⟨_,hl,_,hm,_,hp,rfl⟩
 rintro _ _ ⟨rfl,l,m,p,hl,hm,hp,rfl⟩;simp_arith[↓eZ,↓eY]
 exact⟨by decide,fin hl hm hp⟩
def LotG(M:Nat)(t:T):Prop:=∃(ws:List (Int×Int×Int))(ps:List (Int×Int)),t=.tup [.lst (ws.map w3),.lst (ps.map pT)]/\ws.length<=M/\ps.length<=20/\(∀w∈ws,qQ w)/\∃rs,Rk ws.length rs/\∀p∈ps,Al rs p
theorem aFj{m:Nat}(oo:0<u)(hu:u<=10^20)(hm:m<=5)(hM:m<=M):∃t,wU [.lst (ns.map T.int),.int m,.int u]=some t/\LotG M t:=by
 apply lF;unfold wQ;walk_at "b";obtain⟨base,ki,hb0,hb1⟩:∃base:Int,(if lS ns 1/576%2=0 then(1:Int)else u*10^eN 9)=base/\0<base/\base<2^200:=by
  refine⟨_,rfl,?_⟩
  split
  ·decide
  ·rw[show(10:Int)^eN 9=1000000000 from rfl];lia
 have pick:∀k:Int,0<k->k<10->∃d:Int,atI [T.int k,T.int base] (if decide (1<base)=true then 1 else 0)=some (.int d)/\0<d/\d<2^200:=by
  intro k h1 h2;split
  ·exact⟨base,rfl,hb0,hb1⟩
  ·exact⟨k,rfl,h1,by lia⟩
 obtain⟨d5,e5,h5,h5'⟩:=pick 5 (by decide) (by decide);obtain⟨d6,e6,h6,h6'⟩:=pick 6 (by decide) (by decide);have k9:jY u (10^eN 9)=true:=f8 (Bt.of_lt (by decide) (by decide))
 refine sqA (t:=.int base) (by
  simp_arith[↓eZ,↓eY,↓lV,aAe,ki]
  exact⟨by decide,k9,by decide,by decide,by decide⟩) ?_
 dsimp only[dC]
 refine fO.mpr (gF.mpr (kK.mpr (kE.mpr (fS.mpr ⟨by decide,gQ.mpr (gR.mpr ?_)⟩))))
 dsimp only[dC,aW,aQ]
 refine fO.mpr (nT.mpr (e9.mpr ⟨_,rfl,_,rfl,by lia,lO (fun i τ C=>∃a b d e:Option T,τ=[some (.lst (ns.map T.int)),some (.int m),some (.int u),some (.int base),some (.cell 0),a,b,d,e,none,none,none]/\∃ws:List (Int×Int×Int),C=[(.l,ws.map w3)]/\ws.length=i/\∀w∈ws,qQ w) ⟨_,_,_,_,rfl,[],rfl,rfl,by simp⟩ ?_ ?_⟩))
 ·rintro i τ C hi ⟨_,_,_,_,rfl,ws,rfl,ml,cc⟩;have h3:0<=3+(0+(i:Int)):=by lia
  unfold q9
  refine gQ.mpr ?_
  dsimp only[dC]
  refine sqA (t:=.int (lS ns (3+(0+(i:Int))))) (by simp_arith[↓eZ,↓eY,↓lV]) ?_
  dsimp only[dC];generalize lS ns (3+(0+(i:Int)))=z;have a1:=iB (x:=z) h5;have a2:=iB (x:=z/d5) h6;have a3:=iB (x:=z/d5/d6) h5
  refine sqA (t:=.int (z%d5)) (by simp_arith[↓eZ,↓eY,↓fJ e5];walk_at "a") ?_
  dsimp only[dC];generalize z%d5=z1 at a1
  refine sqA (t:=.int (z/d5)) (by simp_arith[↓eZ,↓eY,↓fJ e5];walk_at "a") ?_
  dsimp only[dC]
  refine sqA (t:=.int (z/d5%d6)) (by simp_arith[↓eZ,↓eY,↓fJ e6];walk_at "a") ?_
  dsimp only[dC];generalize z/d5%d6=z2 at a2
  refine sqA (t:=.int (z/d5/d6)) (by simp_arith[↓eZ,↓eY,↓fJ e6];walk_at "a") ?_
  dsimp only[dC];simp_arith[↓eZ,↓eY,↓fJ e5];generalize z/d5/d6%d5=z3 at a3
  refine⟨by decide,by walk_at "a",by decide,by walk_at "a",_,_,_,_,rfl,ws++[(z1+z2,z1,z3)],by rw[aJb],by simp[ml],fun w hw=>?_⟩
  rcases bK.mp hw with hw|hw
  ·exact cc w hw
  ·rw[bO.mp hw]
   exact⟨a1.1,by show z1<=z1+z2;lia,a3.1,by show z1+z2<2^240;lia,by show z3<2^240;lia⟩
 rintro τ C ⟨_,_,_,_,rfl,ws,rfl,ml,cc⟩;simp only[cE]at ml
 refine gR.mpr (sqA (t:=.int (lS ns 2)) (by simp_arith[↓eZ,↓eY,↓lV]) ?_)
 dsimp only[dC]
 refine fO.mpr (gF.mpr (kK.mpr (kE.mpr (fS.mpr ⟨by decide,gQ.mpr (gR.mpr ?_)⟩))))
 dsimp only[dC,aT,aW,aQ,aN]
 refine fO.mpr (nT.mpr (e9.mpr ⟨_,rfl,_,rfl,by lia,lO (fun i τ C=>∃(a b d:Option T)(z:Int),τ=[some (.lst (ns.map T.int)),some (.int m),some (.int u),some (.int base),some (.cell 0),a,some (.int z),b,d,some (.cell 1),none,none]/\∃rs:List Int,C=[(.l,ws.map w3),(.l,rs.map T.int)]/\Rk i rs) ⟨_,_,_,_,rfl,[],rfl,⟨rfl,.nil,by simp⟩⟩ ?_ ?_⟩))
 ·rintro i τ C hi ⟨_,_,_,z,rfl,rs,rfl,hr⟩;have aj:=hr.len;have b2:=iB (x:=z) (m:=0+(i:Int)+1) (by lia);unfold rP;simp_arith[↓eZ,↓eY];generalize z%(0+(i:Int)+1)=q at b2
  refine⟨by walk_at "a",⟨by walk_at "a",by lia,by lia⟩,j5 ⟨by lia,by lia⟩,_,_,_,_,rfl,insAt rs q (i:Int),by rw[aOH,<-tR],hr.ins⟩
 rintro τ C ⟨_,_,_,z,rfl,rs,rfl,hr⟩;have bx:Rk m rs:=by simpa using hr
 have aj:=bx.len
 refine gR.mpr (fO.mpr (gF.mpr (kK.mpr (kE.mpr (fS.mpr ⟨by decide,gQ.mpr (gR.mpr ?_)⟩)))))
 dsimp only[dC,aT,aW,aQ,aN]
 refine fO.mpr (nT.mpr (e9.mpr ⟨_,rfl,_,rfl,by lia,lO (fun i τ C=>∃(a b d e:Option T)(z:Int),τ=[some (.lst (ns.map T.int)),some (.int m),some (.int u),some (.int base),some (.cell 0),a,some (.int z),b,d,some (.cell 1),some (.cell 2),e]/\∃ps:List (Int×Int),C=[(.l,ws.map w3),(.l,rs.map T.int),(.l,ps.map pT)]/\ps.length<=i*4/\∀p∈ps,Al rs p) ⟨_,_,_,_,_,rfl,[],rfl,by simp,by simp⟩ ?_ ?_⟩))
 ·rintro k τ C hk ⟨_,_,_,_,z,rfl,ps,rfl,jz,cm⟩;have hk:k<m:=by lia
  unfold rA;simp_arith[↓eZ,↓eY];rw[rS]
  refine jS (fun j τ C=>∃(b d e:Option T)(z:Int),τ=[some (.lst (ns.map T.int)),some (.int m),some (.int u),some (.int base),some (.cell 0),some (.int (0+(k:Int))),some (.int z),b,d,some (.cell 1),some (.cell 2),e]/\∃ps:List (Int×Int),C=[(.l,ws.map w3),(.l,rs.map T.int),(.l,ps.map pT)]/\ps.length<=k*4+j/\∀p∈ps,Al rs p) ⟨_,_,_,_,rfl,ps,rfl,jz,cm⟩ ?_ ?_
  ·rintro j x τ C hj ⟨_,_,_,z,rfl,ps,rfl,jz,cm⟩;rw[aAP (by lia),show(0+(k:Int)).toNat=k by lia]at hj;obtain⟨hj1,hj2⟩:=aR.mp hj;have wb:j<k:=by simp at hj1;lia
   rw[List.getElem_take]at hj2;have e1:=tW (ns:=rs) (i:=0+(k:Int)) (by lia) (by lia);unfold rZ;simp_arith[↓eZ,↓eY,↓fJ e1]
   refine⟨by walk_at "a",?_⟩
   split
   ·refine⟨by walk_at "a",by walk_at "a",by decide,trivial,_,_,_,_,rfl,_,by rw[aJs],by simp;lia,fun p hp=>?_⟩
    rcases bK.mp hp with hp|hp
    ·exact cm p hp
    ·rw[bO.mp hp]
     exact⟨j,k,wb,by rw[<-hj2];exact bC (by lia),by rw[bC (by lia)];congr 2;lia⟩
   ·exact⟨by decide,trivial,_,_,_,_,rfl,ps,rfl,by lia,cm⟩
  ·rintro τ C ⟨_,_,_,z,rfl,ps,rfl,jz,cm⟩;have:(vQ rs none (some (0+(k:Int)))).length<=4:=by rw[aAP (by lia),d7];lia
   exact⟨_,_,_,_,_,rfl,ps,rfl,by lia,cm⟩
 rintro τ C ⟨_,_,_,_,z,rfl,ps,rfl,jz,cm⟩;simp only[cE]at jz;simp_arith[↓eZ,↓eY]
 refine⟨by walk_at "a",_,aLJ (us:=[.lst (ws.map w3),.lst (ps.map pT)]) (jC (rG rfl lY) (jC (aHI rfl) rfl)),ws,ps,rfl,by lia,by lia,cc,rs,by rw[ml];exact bx,cm⟩
theorem pick3{x y:Int}:∃t∈[x,y,z],atI [T.int x,T.int y,T.int z] (i%3)=some (.int t):=by
 have hq:=iB (x:=i) (m:=3) (by decide);obtain⟨t,ht,et⟩:=aA4 (xs:=[x,y,z]) hq.1 hq.2
 exact⟨t,ht,by rw[show[T.int x,T.int y,T.int z]=[x,y,z].map T.int from rfl,aAj,et];rfl⟩
theorem pick4{x y:Int}:∃t∈[x,y,z,u],atI [T.int x,T.int y,T.int z,T.int u] (i%4)=some (.int t):=by
 have hq:=iB (x:=i) (m:=4) (by decide);obtain⟨t,ht,et⟩:=aA4 (xs:=[x,y,z,u]) hq.1 hq.2
 exact⟨t,ht,by rw[show[T.int x,T.int y,T.int z,T.int u]=[x,y,z,u].map T.int from rfl,aAj,et];rfl⟩
theorem aJA(hl:ns.length<=63)(h4:4<=M)(h8:M<=8)(oo:0<u)(hu:u<=10^20):∃t,aDF [.lst (ns.map T.int),.int M,.int u]=some t/\LotG M t:=by
 obtain⟨_,e1,xs,rfl,mj,gc⟩:=aCf hl;have w1:∀{C Q},wpO (gY 1 lK [.lst (ns.map T.int)] C) Q↔Q (.lst (xs.map T.int)) C:=fN e1 rfl (by walk_at "c");have qg:∀i:Int,0<=i->i<40->∃x,atI (xs.map T.int) i=some (.int x)/\Sm x:=fun i h1 h2=>⟨_,tW h1 (by lia),gc _ (d8 _)⟩
 apply lF;unfold aLc;walk_at "b"
 refine sqA (t:=.lst (xs.map T.int)) (by simp_arith[↓eZ,↓eY,↓w1]) ?_
 dsimp only[dC]
 refine sqA (t:=.int (lS ns 0)) (by simp_arith[↓eZ,↓eY,↓lV]) ?_
 dsimp only[dC];generalize lS ns 0=first
 have hq6:=iB (x:=first/4) (m:=min 6 ((M:Int)+1)) (by lia)
 refine sqA (t:=.int (first/4%min 6 ((M:Int)+1))) (by simp_arith[↓eZ,↓eY];exact⟨by decide,by walk_at "a"⟩) ?_
 dsimp only[dC];generalize first/4%min 6 ((M:Int)+1)=few at hq6
 obtain⟨z,hz,ez⟩:=pick4 (x:=0) (y:=0) (z:=1) (u:=2) (i:=first/4);have q2:=iB (x:=first/4) (m:=3) (by decide);obtain⟨mi,hmi,em⟩:=pick4 (x:=few) (y:=(M:Int) - z) (z:=few) (u:=min (M:Int) (3+first/4%3)) (i:=first);simp only[bE,cN,or_false]at hz hmi;obtain⟨m,rfl,hm⟩:∃m:Nat,mi=m/\m<=M:=⟨mi.toNat,by lia,by lia⟩
 refine sqA (t:=.int m) (by simp_arith[↓eZ,↓eY,↓fJ ez,↓fJ em];decide) ?_
 dsimp only[dC]
 refine sqA (t:=.int (lS ns 1)) (by simp_arith[↓eZ,↓eY,↓lV]) ?_
 dsimp only[dC];generalize lS ns 1=c
 refine fO.mpr ?_
 by_cases hc:c/288%2=1
 ·refine ifT (by simp_arith[↓eZ,↓eY,hc];decide) ?_
  obtain⟨k5,ek5,hk3,hk5⟩:∃k:Int,atI [T.int 5,T.int 3] (if decide ((M:Int)<5)=true then 1 else 0)=some (.int k)/\3<=k/\k<=5:=by
   split
   ·exact⟨3,rfl,by decide,by decide⟩
   ·exact⟨5,rfl,by decide,by decide⟩
  obtain⟨j,hj,hj5,wa⟩:∃j:Nat,min (m:Int) k5=j/\j<=5/\j<=M:=⟨(min (m:Int) k5).toNat,by lia,by lia,by lia⟩;obtain⟨t,et,ws,ps,rfl,ht⟩:=aFj (ns:=ns) oo hu hj5 wa;simp_arith[↓eZ,↓eY,↓fJ ek5,hj];rw[fN (n:=3) et rfl (by walk_at "c")]
  exact⟨by decide,_,iH (by rw[j8,fH,fH,f7,fW,fW,lY,j6];rfl),ws,ps,rfl,ht⟩
 refine ifF (by simp_arith[↓eZ,↓eY,hc];decide) (iL.mpr (gR.mpr ?_))
 have hex:∀i:Nat,∃w:Int×Int×Int,i<m->(∃x y z:Int,atI (xs.map T.int) (0+(i:Int))=some (.int x)/\atI (xs.map T.int) (8+(0+(i:Int)))=some (.int y)/\atI (xs.map T.int) (16+(0+(i:Int)))=some (.int z)/\aAG [.int x,.int y,.int z,.int (c%4),.int u]=some (w3 w))/\qQ w:=by
  intro i;by_cases hi:i<m
  ·obtain⟨x,ex,sx⟩:=qg (0+(i:Int)) (by lia) (by lia);obtain⟨y,ey,sy⟩:=qg (8+(0+(i:Int))) (by lia) (by lia);obtain⟨z,ez,sz⟩:=qg (16+(0+(i:Int))) (by lia) (by lia);obtain⟨_,ew,w,rfl,hw⟩:=aFC (k:=c%4) (u:=u) sx sy sz (by lia) (by lia)
   exact⟨w,fun _=>⟨⟨x,y,z,ex,ey,ez,ew⟩,hw⟩⟩
  ·exact⟨(0,0,0),fun h=>absurd h hi⟩
 obtain⟨f,hf⟩:=aQf hex;obtain⟨x39,zh,_⟩:=qg 39 (by decide) (by decide);obtain⟨_,en,rs,rfl,bx⟩:=z7 (c:=x39) (m:=m) (by lia);have aj:=bx.len
 refine sqA (t:=.lst (((bL m).map f).map w3)) (hZ.mpr (n4.mpr (e9.mpr ⟨_,rfl,_,rfl,by lia,?_⟩))) ?_
 ·rw[nP,cE]
  refine gG (fun i=>w3 (f i)) (fun i hi=>?_) ⟨by rw[b7];rfl,rfl⟩
  have hi:i<m:=by simpa using hi
  obtain⟨⟨x,y,z,ex,ey,ez,ew⟩,hw⟩:=hf i hi;simp only[scT,aS,aM,bB,aW,aT,aV,bP,bR,b8];simp_arith[↓eZ,↓eY,↓fJ ex,↓fJ ey,↓fJ ez];rw[fN (n:=5) ew rfl (by walk_at "c")]
  exact⟨by decide,rfl,rfl⟩
 dsimp only[dC];have cc:∀w∈(bL m).map f,qQ w:=fun w hw=>by
  obtain⟨i,hi,rfl⟩:=bI.mp hw
  exact(hf i (c7.mp hi)).2
 have ip:((bL m).map f).length=m:=by simp
 generalize (bL m).map f=ws at cc ip
 refine sqA (t:=.lst (rs.map T.int)) (by simp_arith[↓eZ,↓eY,↓fJ zh];rw[fN (n:=2) en rfl (by walk_at "c")];exact⟨rfl,rfl⟩) ?_
 dsimp only[dC]
 refine fO.mpr (gF.mpr (kK.mpr (kE.mpr (fS.mpr ⟨by decide,gQ.mpr (gR.mpr ?_)⟩))))
 dsimp only[dC,aW,aQ];have q4:=iB (x:=c/4) (m:=4) (by decide)
 refine fO.mpr ?_
 simp_arith[↓eZ,↓eY];generalize c/4%4=c4 at q4
 refine⟨by decide,by decide,by lia,lO (fun i τ C=>∃(a b d e:Option T),τ=[some (.lst (ns.map T.int)),some (.int M),some (.int u),some (.lst (xs.map T.int)),some (.int first),some (.int few),some (.int m),some (.int c),some (.lst (ws.map w3)),some (.lst (rs.map T.int)),some (.cell 0),a,b,d,e]/\∃ps:List (Int×Int),C=[(.l,ps.map pT)]/\ps.length<=i/\∀p∈ps,Al rs p) ⟨_,_,_,_,rfl,[],rfl,by simp,by simp⟩ ?_ ?_⟩
 ·rintro i τ C hi ⟨_,_,_,_,rfl,ps,rfl,jz,cm⟩;obtain⟨x,ex,sx⟩:=qg (24+(i:Int)) (by lia) (by lia);unfold aEo
  refine gQ.mpr ?_
  dsimp only[dC];by_cases h1:(1:Int)<m
  ·refine ifT (by simp_arith[↓eZ,↓eY];exact j5 h1) ?_
   have b1:=iB (x:=x) (m:=(m:Int) - 1) (by lia)
   refine sqA (t:=.int (1+x%((m:Int) - 1))) (by simp_arith[↓eZ,↓eY,↓fJ ex];walk_at "a") ?_
   dsimp only[dC];generalize x%((m:Int) - 1)=y at b1;obtain⟨e3,he3,e3'⟩:=pick3 (x:=1) (y:=2) (z:=8) (i:=c/16);simp only[bE,cN,or_false]at he3;have b2:=iB (x:=x/16) (m:=min (1+y) e3) (by lia)
   refine sqA (t:=.int (x/16%min (1+y) e3)) (by simp_arith[↓eZ,↓eY,↓fJ ex,↓fJ e3'];exact⟨by decide,by decide,by decide,by decide,by walk_at "a"⟩) ?_
   dsimp only[dC];generalize x/16%min (1+y) e3=bk at b2;obtain⟨ia,pe,h0,bn⟩:∃ia:Int,(if c/48%2=0 then 1+y - 1 - bk else bk)=ia/\0<=ia/\ia<1+y:=⟨_,rfl,by split<;>lia,by split<;>lia⟩
   refine sqA (t:=.int ia) (by simp_arith[↓eZ,↓eY,aAe,pe];decide) ?_
   dsimp only[dC];have b3:=iB (x:=x/256) (m:=(ps.length:Int)+1) (by lia);simp_arith[↓eZ,↓eY,↓fJ ex,aP,↓fJ (tW (ns:=rs) h0 (by lia)),↓fJ (tW (ns:=rs) (i:=1+y) (by lia) (by lia))];generalize x/256%((ps.length:Int)+1)=at9 at b3
   refine⟨by decide,by walk_at "a",by decide,⟨by walk_at "a",by lia,by lia⟩,_,_,_,_,rfl,insAt ps at9 (_,_),by rw[<-tR];rfl,by rw[xF];lia,fun p hp=>?_⟩
   rcases bE.mp (tZ.mem_iff.mp hp)with hp|hp
   ·rw[hp]
    exact⟨ia.toNat,(1+y).toNat,by lia,bC (by lia),bC (by lia)⟩
   ·exact cm p hp
  ·exact ifF (by simp_arith[↓eZ,↓eY];simpa using h1) (iL.mpr ⟨trivial,_,_,_,_,rfl,ps,rfl,by lia,cm⟩)
 ·rintro τ C ⟨_,_,_,_,rfl,ps,rfl,jz,cm⟩;simp_arith[↓eZ,↓eY,rS];have wd:(vQ ps (some (c/96%3)) none).length<=20:=cA aH9 (by lia)
  refine⟨by decide,by decide,by decide,_,iH (by rw[j8,fH,fH,f7,fW,fW,lY,j6];rfl),ws,_,rfl,by lia,wd,cc,rs,by rw[ip];exact bx,fun p hp=>cm p (aGB hp)⟩
end Lib
namespace Lib
open PySem L2 TL NF
variable{ws:List (Int×Int×Int)}{ps:List (Int×Int)}{nd:List (List Int)}{bonus:Int}
theorem aEy{α:Type}{g:α->Int}{d:α}{ws:List α}:∀{k:Nat},k<=ws.length->sm k (fun i=>g ((ws[i]?).getD d))=((ws.take k).map g).sum
 |0,_=>by simp[sm]
 |k+1,hk=>by
  have ih:=aEy (g:=g) (d:=d) (ws:=ws) (k:=k) (by lia);show sm k _+g ((ws[k]?).getD d)=_;rw[ih,aOT,bC (by lia),dO,bV,aO5];simp
theorem aJG{α:Type}{g:α->Int}{d:α}{ws:List α}:sm ws.length (fun i=>g ((ws[i]?).getD d))=(ws.map g).sum:=by rw[aEy (bG _),dA]
theorem wO{n:Nat}{x:Int}:sm n (fun _=>x)=n*x:=by
 induction n with
 |zero=>simp[sm]
 |succ n ih=>show sm n _+x=_;rw[ih,aP2,aO3,aQw]
theorem uE{P:Int×Int×Int->Prop}(h:∀w∈ws,P w){i:Nat}(hi:i<ws.length):P ((ws[i]?).getD (0,0,0)):=by
 rw[bC hi]
 exact h _ (d8 hi)
theorem zZ{m:Nat}(hw:InW m ps)(h:Nd ps m nd){e:Nat×Nat}(he:e∈i7 0 nd):((e.1:Int),(e.2:Int))∈ps/\e.1<m/\e.2<m:=by
 obtain⟨b,l,a,h1,h2,rfl⟩:=aGq he;have hp:=((h.2 b l h1).2 a).mp h2;have:=hw _ hp
 refine⟨?_,by show a.toNat<m;have:=this.1;dsimp only at this;lia,by show 0+b<m;have:=(aR.mp h1).1;rw[h.1]at this;lia⟩
 show((a.toNat:Int),((0+b:Nat):Int))∈ps;rw[aOG,bN this.1.1];exact hp
theorem aH1{m:Nat}(hw:InW m ps)(h:Nd ps m nd){p:Int×Int}(hp:p∈ps):(p.1.toNat,p.2.toNat)∈i7 0 nd:=by
 have:=hw p hp;have hb:p.2.toNat<nd.length:=by rw[h.1];lia
 have e:=bC hb
 refine aKM e (((h.2 _ _ e).2 p.1).mpr ?_)
 rw[bN this.2.1];exact hp
theorem aKL{m:Nat}{o:List Int}(t:Topo ps m o):∃r:Nat->Int,(∀i,i<m->0<=r i/\r i<m)/\∀a b:Nat,((a:Int),(b:Int))∈ps->b<m->r a<r b:=by
 refine⟨fun i=>(o.idxOf (i:Int):Int),fun i hi=>⟨Int.natCast_nonneg _,?_⟩,fun a b ig hb=>?_⟩
 ·have:=d0 (t.all i hi);rw[t.len]at this;show((o.idxOf (i:Int):Nat):Int)<m
  lia
 ·have hbm:=d0 (t.all b hb);have mz:o[o.idxOf (b:Int)]?=some (b:Int):=by
   rw[bC hbm,aPd]
  have ha:=t.top _ _ mz _ ig;obtain⟨i,hi⟩:=bT.mp ha;have yp:=(aR.mp hi).1;rw[d7]at yp;rw[List.getElem?_take,if_pos (by lia)]at hi;obtain⟨h1,h2⟩:=aR.mp hi;have:o.idxOf (a:Int)=i:=by rw[<-h2];exact t.nd.idxOf_getElem i h1
  show((o.idxOf (a:Int):Nat):Int)<((o.idxOf (b:Int):Nat):Int)
  lia
structure Gvn(ws:List (Int×Int×Int))(ps:List (Int×Int))(nd:List (List Int)):Prop where
 l8:ws.length<=8
 pl:ps.length<=1000
 inw:InW ws.length ps
 acy:Acy ps
 ndd:Nd ps ws.length nd
 need:gH [.int ws.length,.lst (ps.map pT)]=some (.lst (nd.map iT))
 ok:∀w∈ws,tV w
theorem Gvn.ex(h1:ws.length<=8)(h2:ps.length<=1000)(h3:InW ws.length ps)(h4:Acy ps)(h5:∀w∈ws,tV w):∃nd,Gvn ws ps nd:=by
 obtain⟨_,e,nd,rfl,gh⟩:=sY (by lia) h2 h3
 exact⟨nd,h1,h2,h3,h4,gh,e,h5⟩
theorem Gvn.rank(G:Gvn ws ps nd):∃r:Nat->Int,(∀i,i<ws.length->0<=r i/\r i<ws.length)/\∀e∈i7 0 nd,r e.1<r e.2:=by
 obtain⟨_,_,o,_,ho,iu⟩:=wH G.l8 G.pl G.inw G.acy;obtain⟨r,h1,h2⟩:=aKL (iu.topo ho)
 exact⟨r,h1,fun e he=>h2 _ _ (zZ G.inw G.ndd he).1 (zZ G.inw G.ndd he).2.2⟩
theorem Gvn.price:sm ws.length (fT ws).p=plenty ws bonus - bonus - 1:=by
 show sm ws.length (fun i=>((ws[i]?).getD (0,0,0)).2.2)=_;rw[aJG (g:=fun w:Int×Int×Int=>w.2.2)];unfold plenty;lia
theorem Gvn.sP(G:Gvn ws ps nd):sm ws.length (fT ws).p<=8*2^252:=by
 have h1:sm ws.length (fT ws).p<=sm ws.length fun _=>2^252:=wN fun i hi=>cK (uE (P:=tV) G.ok hi).2.2.2.2
 rw[wO]at h1;have h3:(ws.length:Int)*2^252<=8*2^252:=dP (by have:=G.l8;lia) (by decide)
 lia
theorem Gvn.wel(G:Gvn ws ps nd)(hb:0<=bonus):Wel (fT ws) ws.length (i7 0 nd) (plenty ws bonus):=by
 refine⟨G.l8,?_,fun e he=>(zZ G.inw G.ndd he).2,G.rank,fun i hi=>(uE G.ok hi).1,?_,?_⟩
 ·have:=aBP (nd:=nd) (z:=1000) (fun l hl=>?_) (s:=0)
  ·rw[G.ndd.1]at this;have h2:ws.length*1000<=8*1000:=aPF _ G.l8;have h3:=G.l8;show 4*ws.length+(i7 0 nd).length<40000
   lia
  ·obtain⟨b,hb⟩:=bT.mp hl
   exact cA (G.ndd.2 b l hb).1 G.pl
 ·rw[Gvn.price (bonus:=bonus)];lia
 ·exact cT G.sP (by decide)
theorem Gvn.tim(G:Gvn ws ps nd){bs:List Int}(hE:Early ps (ws.map (·.2.1)) bs):Tim ws.length (i7 0 nd) (jQ 0 (dones bs (ws.map (·.2.1)))) (fun i=>at0 bs i) (fT ws).l:=by
 have hh:∀i:Nat,i<ws.length->at0 (ws.map (·.2.1)) i=(fT ws).l i:=fun i hi=>by
  rw[jF (by simpa using hi)];show _=((ws[i]?).getD (0,0,0)).2.1;rw[bC hi];simp
 refine⟨fun i _=>hE.pos _,fun i hi=>?_,fun x hx=>?_⟩
 ·rw[<-hh i hi]
  exact vC ((mJ hE.len).mpr ⟨i,by simpa using hi,rfl⟩)
 ·obtain⟨h1,h2,h3⟩:=zZ G.inw G.ndd hx;rw[<-hh x.1 h2]
  exact hE.ge _ h1
end Lib
namespace Lib
open PySem L2 TL NF
variable{ws:List (Int×Int×Int)}{ps:List (Int×Int)}{nd:List (List Int)}{hs bs:List Int}{e P:Int}{w:Wk}{es:List (Nat×Nat)}
theorem Gvn.timH(G:Gvn ws ps nd)(hE:Early ps hs bs)(hl:hs.length=ws.length):Tim ws.length (i7 0 nd) (jQ 0 (dones bs hs)) (fun i=>at0 bs i) (fun i=>at0 hs i):=by
 refine⟨fun i _=>hE.pos _,fun i hi=>?_,fun x hx=>?_⟩
 ·exact vC ((mJ hE.len).mpr ⟨i,by rw[hl];exact hi,rfl⟩)
 ·exact hE.ge _ (zZ G.inw G.ndd hx).1
theorem Gvn.fst(G:Gvn ws ps nd)(hE:Early ps hs bs)(hl:hs.length=ws.length){B:Nat->Int}(he:0<=e)(b0:∀i,i<ws.length->0<=B i)(hB:∀p∈ps,B p.1.toNat+at0 hs p.1<=B p.2.toNat)(hM:∀i:Nat,i<ws.length->B i+at0 hs i<=e):jQ 0 (dones bs hs)<=e:=by
 obtain⟨r,h1,h2⟩:=G.rank;have key:∀(k:Nat)(i:Nat),i<ws.length->r i<k->at0 bs i<=B i:=fun k=>by
  induction k with
  |zero=>intro i hi hk;have:=h1 i hi;lia
  |succ k ih=>
   intro i hi hk;have:=b0 i hi;rcases hE.att i (by rw[hl];exact hi)with h| ⟨a,ha,h⟩
   ·lia
   ·have h3:=h2 _ (aH1 G.inw G.ndd ha);have pe:=(G.inw _ ha).1;have h4:=hB _ ha;dsimp only at pe h3 h4;rw[cE]at h3 h4;have h5:=ih a.toNat (by lia) (by lia);rw[bN pe.1]at h5
    lia
 rcases pA (d:=0) (ns:=dones bs hs)with⟨_,h⟩|h
 ·rw[h];exact he
 ·obtain⟨w,hw,e⟩:=(mJ hE.len).mp h;rw[hl]at hw;have h3:=key (r w+1).toNat w hw (by have:=h1 w hw;lia);have h4:=hM w hw
  lia
theorem Gvn.early_le(G:Gvn ws ps nd)(hE:Early ps hs bs)(hl:hs.length=ws.length)(hH:∀i:Nat,i<ws.length->0<=at0 hs i/\at0 hs i<=2^252):jQ 0 (dones bs hs)<=8*2^252:=by
 obtain⟨r,h1,h2⟩:=G.rank;have hn:=G.l8
 refine G.fst hE hl (B:=fun i=>r i*2^252) (by decide) (fun i hi=>?_) (fun p hp=>?_) fun i hi=>?_
 ·have:=h1 i hi;lia
 ·have h3:=h2 _ (aH1 G.inw G.ndd hp);have pe:=(G.inw _ hp).1;have h4:=hH p.1.toNat (by lia);rw[bN pe.1]at h4;dsimp only at h3|-
  lia
 ·have h3:=h1 i hi;have h4:=hH i hi
  lia
theorem aDG{i:Nat}(hi:i<ws.length):at0 (ws.map iV) i=if(fT ws).p i=0 then(fT ws).l i else(fT ws).u i:=by
 rw[jF (by simpa using hi)];show _=if((ws[i]?).getD (0,0,0)).2.2=0 then((ws[i]?).getD (0,0,0)).2.1 else((ws[i]?).getD (0,0,0)).1
 rw[bC hi,eP];rfl
theorem Gvn.free(G:Gvn ws ps nd)(hE:Early ps (ws.map iV) bs){bonus:Int}(hb:0<=bonus):
 jQ 0 (dones bs (ws.map iV))<=8*2^252/\∃p0,Good (fT ws) ws.length (i7 0 nd) (plenty ws bonus) (fun _=>0) 0 p0/\sm (2*ws.length+2) p0<10^198/\p0 1=jQ 0 (dones bs (ws.map iV)):=by
 have T:=G.timH hE (by simp);have W:=G.wel hb;have hn:=G.l8;have wo:∀i,i<ws.length->tV ((ws[i]?).getD (0,0,0)):=fun i hi=>uE (P:=tV) G.ok hi
 have lu:∀i,i<ws.length->0<=(fT ws).l i/\(fT ws).l i<=(fT ws).u i/\(fT ws).u i<2^252/\0<=(fT ws).p i:=fun i hi=>⟨(wo i hi).1,(wo i hi).2.1,(wo i hi).2.2.2.1,(wo i hi).2.2.1⟩
 have hh:∀i:Nat,i<ws.length->0<=at0 (ws.map iV) i/\at0 (ws.map iV) i<=2^252/\(fT ws).l i<=at0 (ws.map iV) i:=fun i hi=>by
  have:=lu i hi;rw[aDG hi];split<;>lia
 have hM:=G.early_le hE (by simp) fun i hi=>⟨(hh i hi).1,(hh i hi).2.1⟩
 have hz:0<=jQ 0 (dones bs (ws.map iV)):=(hE.mxL fun x hx=>by
  obtain⟨w,hw,rfl⟩:=bI.mp hx;have h:=G.ok w hw;unfold iV;split
  ·exact h.1
  ·exact dQ h.1 h.2.1).1
 refine⟨hM,pf (jQ 0 (dones bs (ws.map iV))) (fun i=>at0 bs i) (fun i=>at0 (ws.map iV) i),⟨fun p=>?_,fun k hk=>?_,fun k hk=>⟨fun hc=>?_,fun z=>absurd z (Int.lt_irrefl _)⟩,rfl,fun v hv=>?_⟩,?_,rfl⟩
 ·rw[aOu];exact oF fun k _=>aOu _
 ·refine⟨b4 _,?_⟩
  have hP:0<=plenty ws bonus:=by
   have:=W.pP;have h2:0<=sm ws.length (fT ws).p:=pX fun i hi=>(lu i hi).2.2.2
   lia
  cases pipe hk with
  |src i hi e t h d c=>rw[c];exact hP
  |usu i hi e t h d c=>rw[c];exact(lu i hi).2.2.2
  |lea i hi e t h d c=>rw[c];exact hP
  |snk i hi e t h d c=>rw[c];exact hP
  |nee x y j hj e t h d c=>rw[c];exact hP
 ·cases hU:isU ws.length k with
  |false=>exact aAJ T (fun i hi=>(hh i hi).2.2) k hk hU
  |true=>
   cases pipe hk with
   |src i hi e=>simp[isU]at hU;lia
   |usu i hi e t h d c=>
    rw[t,h,d,aEC,aEQ,aDG hi,if_neg (by rw[c]at hc;lia)];lia
   |lea i hi e=>simp[isU]at hU;lia
   |snk i hi e=>simp[isU]at hU;lia
   |nee x y j hj e=>simp[isU]at hU;lia
 ·by_cases v0:v=0
  ·rw[v0];exact b4 _
  ·by_cases v1:v=1
   ·rw[v1];exact hz
   ·by_cases ve:v%2=0
    ·obtain⟨i,rfl⟩:∃i,v=2*i+2:=⟨v/2 - 1,by lia⟩;rw[aEC];exact T.b0 i (by lia)
    ·obtain⟨i,rfl⟩:∃i,v=2*i+3:=⟨v/2 - 1,by lia⟩;rw[aEQ];have:=T.b0 i (by lia);have:=(hh i (by lia)).1;lia
 ·have h5:sm (2*ws.length+2) (pf (jQ 0 (dones bs (ws.map iV))) (fun i=>at0 bs i) (fun i=>at0 (ws.map iV) i))<=sm (2*ws.length+2) fun _=>8*2^252:=wN fun v hv=>by
   unfold pf;split
   ·decide
   ·split
    ·exact hM
    ·have hi:v/2 - 1<ws.length:=by lia
     have h8:=T.e _ hi;have h9:=hh _ hi;dsimp only at h8|-;split<;>lia
  rw[wO]at h5;have h6:((2*ws.length+2:Nat):Int)*(8*2^252)<=18*(8*2^252):=dP (by lia) (by decide);have h7:(18*(8*2^252):Int)<10^198:=by decide
  lia
theorem Gvn.zge(G:Gvn ws ps nd)(hE:Early ps (ws.map (·.2.1)) bs):0<=jQ 0 (dones bs (ws.map (·.2.1))):=
 (hE.mxL fun x hx=>by
  obtain⟨w,hw,rfl⟩:=bI.mp hx
  exact(G.ok w hw).1).1
theorem yK(G:Gvn ws ps nd)(hE:Early ps (ws.map (·.2.1)) bs)(he:jQ 0 (dones bs (ws.map (·.2.1)))<=e){p0:Nat->Int}(G0:Good (fT ws) ws.length (i7 0 nd) (plenty ws 0) (fun _=>0) 0 p0)(hb:sm (2*ws.length+2) p0<10^198){C:Sto}{Q:T->Sto->Prop}
 (q:∀f p a C',Filled (fT ws) ws.length (i7 0 nd) (plenty ws 0) e (fun _=>0) 0 p0 f p a->a<=sm ws.length (fT ws).p->0<=a->iE (iG ws nd 0) f C.length (2*ws.length+2:Nat) C'->Q (.cell C.length) C'):
 wpO (mC [.lst (ws.map w3),.lst (ps.map pT),.int e] C) Q:=by
 have W:=G.wel (bonus:=0) (by decide);have hz:=G.zge hE
 refine iO ?_
 unfold rK;walk_at "b"
 refine fO.mpr (gF.mpr (xD (fF.mpr (e9.mpr ⟨_,rfl,fF.mpr (e9.mpr ⟨_,rfl,fS.mpr ⟨rfl,?_⟩⟩)⟩))))
 refine aCx (nd:=nd) G.l8 G.pl G.inw G.need G.ndd fun C1 P1=>⟨rfl,gQ.mpr (gR.mpr (fO.mpr (o9.mpr (mU ?_))))⟩
 have A1:iE (iG ws nd 0) (fun _=>0) C.length (2*ws.length+2:Nat) C1:=by
  have:=P1.at;rw[show((2*ws.length+2:Nat):Int)=2*(ws.length:Int)+2 by lia];exact this
 refine e9.mpr ⟨_,rfl,oN A1.net rfl,fF.mpr (e9.mpr ⟨_,rfl,fS.mpr ⟨rfl,?_⟩⟩)⟩
 refine aIO W (G.tim hE) he (by lia) G0 (pX fun i hi=>(uE (P:=tV) G.ok hi).2.2.1) (b4 _) (dB hb (by decide)) A1 fun f p a C2 F ha kj A2 _ _=>?_
 exact gR.mpr (jN.mpr (e9.mpr ⟨_,rfl,q f p a C2 F ha kj A2⟩))
theorem aGJ{N:Nt}{a:Int}(h:Flo N (fun _=>0) a):a=0:=by
 have:=h fun v=>if v=1 then 1 else 0
 rw[oF fun k _=>aOu _]at this;simp at this
 lia
theorem aFT{n:Nat}{k:Nat}(hk:k<(net w n es P).m):(net w n es P).h k≠0/\(net w n es P).t k≠1:=by
 cases pipe hk with
 |src i hi e t h d c=>rw[t,h];lia
 |usu i hi e t h d c=>rw[t,h];lia
 |lea i hi e t h d c=>rw[t,h];lia
 |snk i hi e t h d c=>rw[t,h];lia
 |nee x y i hi e t h d c=>rw[t,h];lia
theorem aMa{n:Nat}(W:Wel w n es P){f:Nat->Int}{a:Int}(hf:Flo (net w n es P) f a)(hc:Cap (net w n es P) f):∃ρ,Flw (stp (net w n es P) f (net w n es P).m) a ρ:=by
 obtain⟨r,h1,h2⟩:=W.rk;have hn:=W.n8;have hup:=aKP (w:=w) (P:=P) h1 h2;have key:∀e∈stp (net w n es P) f (net w n es P).m,∃j,j<(net w n es P).m/\e.1=((net w n es P).t j,(net w n es P).h j):=fun e he=>vU (cY he)
 have r1:rk n r 1=2*n:=rfl;have r0:rk n r 0= -1:=rfl
 refine⟨rk n r,aMc hf,wC (fun k hk=>(hc k hk).1) (bG _),tM,fun e he=>?_,fun e he=>?_,fun e he=>?_,fun e he=>?_,by rw[r1,r0];lia,by rw[r1,r0];lia,aOQ vJ (by have:=W.m;lia)⟩
 ·obtain⟨j,hj,e1⟩:=key e he;rw[e1];exact(aFT hj).1
 ·obtain⟨j,hj,e1⟩:=key e he;rw[e1];exact hup j hj
 ·obtain⟨j,hj,e1⟩:=key e he;rw[e1,r1];show rk n r ((net w n es P).h j)<=_;cases pipe hj with
  |src i hi e t h d c=>rw[h,vV];have:=h1 i hi;lia
  |usu i hi e t h d c=>rw[h,uO];have:=h1 i hi;lia
  |lea i hi e t h d c=>rw[h,uO];have:=h1 i hi;lia
  |snk i hi e t h d c=>rw[h,r1];lia
  |nee x y i hi e t h d c=>rw[h,vV];have:=h1 y (W.ein _ (bD hi)).2;lia
 ·obtain⟨j,hj,e1⟩:=key e he;rw[e1,r0];show _<=rk n r ((net w n es P).t j);cases pipe hj with
  |src i hi e t h d c=>rw[t,r0];lia
  |usu i hi e t h d c=>rw[t,vV];have:=h1 i hi;lia
  |lea i hi e t h d c=>rw[t,vV];have:=h1 i hi;lia
  |snk i hi e t h d c=>rw[t,uO];have:=h1 i hi;lia
  |nee x y i hi e t h d c=>rw[t,uO];have:=h1 x (W.ein _ (bD hi)).1;lia
end Lib
namespace TL
open PySem L2
theorem zY{B:FS}{m:Nat}{ts:List T}{Q:T->Sto->Prop}(h:wpS B (st0 m ts) [] fun l ag C'=>match l with
 | .rt r=>Q r C'
 |_=>False):wpO (aCd B m ts) Q:=by
 obtain⟨l,ag,C',e,q⟩:=h;cases l with
 |rt r=>exact⟨_,C',by unfold aCd;rw[e],q⟩
 |nx=>exact q.elim
 |bk=>exact q.elim
 |ct=>exact q.elim
 |ex c=>exact q.elim
end TL
namespace Lib
open PySem L2 TL NF
theorem Filled.at_e{w:Wk}{n:Nat}{es:List (Nat×Nat)}{P e:Int}{p0 f p:Nat->Int}{a:Int}(F:Filled w n es P e (fun _=>0) 0 p0 f p a)(gu:0<=e):∃pp,Good w n es P f a pp/\pp 1=e:=by
 rcases F.how with rfl| ⟨_,y,Gy,hy,hle⟩
 ·have G:=F.good;have fw:∀o,Open (net w n es P) (fun _=>0) o->o.2=true/\o.1<(net w n es P).m:=fun o ho=>by
   obtain⟨k,b⟩:=o;cases b
   ·exact absurd ho.2 (by unfold rr;simp)
   ·exact⟨rfl,ho.1⟩
  refine⟨up p 1 e,⟨G.flo,G.cap,mF.mpr fun o ho=>?_,?_,fun v hv=>?_⟩,zI⟩
  ·obtain⟨h1,h2⟩:=fw o ho;have h3:=mF.mp G.pot o ho;obtain⟨k,b⟩:=o;cases h1;have bb:=(aFT h2).2;unfold up;rw[if_neg (show¬rt (net w n es P) (k,true)=1 from bb)];split
   ·rename_i z;rw[z]at h3;have:=F.ready
    lia
   ·exact h3
  ·rw[xJ (by decide)];exact G.p0
  ·unfold up;split
   ·exact gu
   ·exact G.ge v hv
 ·exact F.good.amid Gy F.ready (by lia)
theorem aAT{ws:List (Int×Int×Int)}{ps:List (Int×Int)}{nd:List (List Int)}(G:Gvn ws ps nd){bs fs:List Int}(hE:Early ps (ws.map (·.2.1)) bs)(hF:Early ps (ws.map iV) fs)(hL:i6 [.lst (ws.map w3),.lst (ps.map pT)]=some (.int (jQ 0 (dones bs (ws.map (·.2.1)))))){e:Int}:
 (e<jQ 0 (dones bs (ws.map (·.2.1)))->kD [.lst (ws.map w3),.lst (ps.map pT),.int e]=some (.non,[]))/\
 (jQ 0 (dones bs (ws.map (·.2.1)))<=e->∃f a pp rl rw Cn,kD [.lst (ws.map w3),.lst (ps.map pT),.int e]=some (.cell rw,Cn)/\Good (fT ws) ws.length (i7 0 nd) (plenty ws 0) f a pp/\pp 1=e/\a<=sm ws.length (fT ws).p/\rl.length<40000/\
  x9 ws.length (i7 0 nd) (stp (iG ws nd 0) f (iG ws nd 0).m) a rl [] 0/\Cn[rw]?=some (.l,rl.map fun z=>.cell z.1)/\(∀z∈rl,Cn[z.1]?=some (aAv z))/\(jQ 0 (dones fs (ws.map iV))<=e->rl=[])):=by
 have hz:=G.zge hE;have W:=G.wel (bonus:=0) (by decide);obtain⟨_,p0,G0,hb,hp0⟩:=G.free hF (bonus:=0) (by decide);have hcf:CFs [T.lst (ws.map w3),T.lst (ps.map pT)]=true:=by rw[fH,fH,f7,fW,fW,lY,j6];rfl
 have test:∀{τ:TSt}{Q:Bool->Sto->Prop},τ[0]?=some (some (.lst (ws.map w3)))->τ[1]?=some (some (.lst (ps.map pT)))->τ[2]?=some (some (.int e))->Q (decide (e<jQ 0 (dones bs (ws.map (·.2.1))))) []->wpB (iJ (fLt Y2 (fQ 2 i6 (eU Y0 (eU Y1 fB))))) τ [] Q:=fun h0 h1 h2 q=>
  j0.mpr (gO.mpr (e9.mpr ⟨_,h2,jT.mpr (fF.mpr (e9.mpr ⟨_,h0,fF.mpr (e9.mpr ⟨_,h1,fS.mpr ((fN hL rfl hcf).mpr (pI.mpr ⟨_,rfl,q⟩))⟩)⟩))⟩))
 constructor
 ·intro h;have:wpO (kD [.lst (ws.map w3),.lst (ps.map pT),.int e]) fun r C=>r=.non/\C=[]:=by
   refine zY ?_
   unfold pD;walk_at "b"
   refine fO.mpr (l6.mpr (test rfl rfl rfl ?_))
   rw[if_pos (decide_eq_true h)]
   exact jN.mpr (kZ.mpr ⟨rfl,rfl⟩)
  obtain⟨_,_,e1,rfl,rfl⟩:=this
  exact e1
 ·intro h;have:wpO (kD [.lst (ws.map w3),.lst (ps.map pT),.int e]) fun r Cn=>∃f a pp rl rw,r=.cell rw/\Good (fT ws) ws.length (i7 0 nd) (plenty ws 0) f a pp/\pp 1=e/\a<=sm ws.length (fT ws).p/\rl.length<40000/\
   x9 ws.length (i7 0 nd) (stp (iG ws nd 0) f (iG ws nd 0).m) a rl [] 0/\Cn[rw]?=some (.l,rl.map fun z=>.cell z.1)/\(∀z∈rl,Cn[z.1]?=some (aAv z))/\(jQ 0 (dones fs (ws.map iV))<=e->rl=[]):=by
   refine zY ?_
   unfold pD;walk_at "b"
   refine fO.mpr (l6.mpr (test rfl rfl rfl ?_))
   rw[if_neg (by rw[decide_eq_false (by lia)];simp)]
   refine iL.mpr (gR.mpr (jN.mpr (mU (jE.mpr (fF.mpr (e9.mpr ⟨_,rfl,fF.mpr (e9.mpr ⟨_,rfl,fF.mpr (e9.mpr ⟨_,rfl,fS.mpr ⟨rfl,?_⟩⟩)⟩)⟩))))))
   refine yK G hE h G0 hb fun f p a C' F ha kj A=>⟨oN A.net rfl,fS.mpr ⟨rfl,?_⟩⟩
   obtain⟨pp,Gp,ll⟩:=F.at_e (by lia);obtain⟨ρ,Fl⟩:=aMa W Gp.flo Gp.cap
   refine aEI A W.m Fl (fun s hs=>aOh hs) kj (by have:=W.big;lia) fun rl rw C2 vq R h1 h2=>?_
   refine⟨f,a,pp,rl,rw,rfl,Gp,ll,ha,aOQ vq W.m,R,h1,h2,fun hy=>?_⟩
   have hf:f=fun _=>0:=by
    rcases F.how with h1| ⟨_,q,_,h2,h3⟩
    ·exact h1
    ·have:=h3 1 (by lia)
     lia
   have ha1:a=0:=by
    have:=F.good.flo;rw[hf]at this
    exact aGJ this
   cases rl with
   |nil=>rfl
   |cons z rl=>
    exfalso;have hs:=R.sum;have mr:∀l:List (Nat×Int×List Nat),(∀z∈l,1<=z.2.1)->0<=(l.map fun z=>z.2.1).sum:=fun l=>by
     induction l with
     |nil=>intro _;simp
     |cons y l ih=>
      intro hl;have:=hl y bJ;have:=ih fun x hx=>hl x (aZ _ hx)
      rw[aM,d4];lia
    have h3:=(R.ok z bJ).1;have h4:=mr rl fun x hx=>(R.ok x (aZ _ hx)).1
    rw[aM,d4]at hs
    lia
  obtain⟨_,Cn,e1,f,a,pp,rl,rw,rfl,h1⟩:=this
  exact⟨f,a,pp,rl,rw,Cn,e1,h1⟩
end Lib
namespace Lib
open PySem L2 TL NF
variable{w:Wk}{es:List (Nat×Nat)}{P e:Int}{pp:Nat->Int}
noncomputable def beg(pp:Nat->Int)(i:Nat):Int:=pp (2*i+2)
noncomputable def hrs(w:Wk)(pp:Nat->Int)(i:Nat):Int:=min (w.u i) (pp (2*i+3) - pp (2*i+2))
theorem aKp{n:Nat}(W:Wel w n es P){f:Nat->Int}{a:Int}(G:Good w n es P f a pp)(he:pp 1=e)(ha:a<=sm n w.p)(ic:∀i,i<n->w.l i<=w.u i):
 (∀i,i<n->0<=beg pp i/\w.l i<=hrs w pp i/\hrs w pp i<=w.u i/\beg pp i+hrs w pp i<=e)/\(∀x∈es,beg pp x.1+hrs w pp x.1<=beg pp x.2)/\sm n (fun i=>w.p i*(w.u i - hrs w pp i))=len (net w n es P) f - a*e:=by
 have ho:=W.open G (cT ha W.pP);obtain⟨q1,q2,q3,q4⟩:=aD4 G.pot ho G.p0 W.ein
 refine⟨fun i hi=>?_,fun x hx=>?_,?_⟩
 ·have h1:=q1 i hi;have h2:=q2 i hi;have h3:=q3 i hi;have h4:=ic i hi;unfold beg hrs
  refine⟨h1,?_,?_,?_⟩<;>lia
 ·have h1:=q4 x hx;unfold beg hrs
  lia
 ·rw[<-he,G.price ho]
  refine iF fun i _=>?_
  congr 1;unfold hrs NF.pos;split<;>lia
theorem aEe{x u l p:Int}(h:l<=u):(if x<=p then x*u else p*u+(x - p)*l)=min (x*u) (p*(u - l)+x*l):=by
 have e1:x*u - (p*(u - l)+x*l)=(x - p)*(u - l):=by rw[aO2,c9,c9];lia
 have e2:p*u+(x - p)*l=p*(u - l)+x*l:=by rw[aO2,c9];lia
 by_cases hx:x<=p
 ·rw[if_pos hx];have:(x - p)*(u - l)<=0:=Int.mul_nonpos_of_nonpos_of_nonneg (by lia) (by lia)
  lia
 ·rw[if_neg hx,e2];have:0<=(x - p)*(u - l):=cO (by lia) (by lia)
  lia
theorem aD2{n:Nat}{g:Nat->Int}{k:Nat}(hk:k<n):(sm n fun j=>if j=k then g j else 0)=g k:=by
 induction n with
 |zero=>lia
 |succ n ih=>
  show sm n _+(if n=k then g n else 0)=_;by_cases h:n=k
  ·subst h;rw[if_pos rfl,oF fun j hj=>if_neg (by lia)];lia
  ·rw[if_neg h,ih (by lia)];lia
theorem aMl{n:Nat}{f:Nat->Int}{i:Nat}(hi:i<n):at_ (stp (net w n es P) f (net w n es P).m) (stw i)=thr f i:=by
 rw[aGP];show sm (4*n+es.length) _=_;have e:∀k,k<4*n+es.length->(if stw i=((net w n es P).t k,(net w n es P).h k)then f k else 0)=(if k=4*i+1 then f k else 0)+if k=4*i+2 then f k else 0:=fun k hk=>by
  have hs:stw i=((net w n es P).t k,(net w n es P).h k)↔(2*i+2=(net w n es P).t k/\2*i+3=(net w n es P).h k):=by unfold stw;rw[aQy.injEq]
  cases pipe (w:=w) (n:=n) (es:=es) (P:=P) (k:=k) hk with
  |src j hj e t h d c=>rw[if_neg (by rw[hs,t,h];lia),if_neg (by lia),if_neg (by lia)];rfl
  |usu j hj e t h d c=>
   by_cases z:j=i
   ·rw[if_pos (by rw[hs,t,h];lia),if_pos (by lia),if_neg (by lia)];lia
   ·rw[if_neg (by rw[hs,t,h];lia),if_neg (by lia),if_neg (by lia)];rfl
  |lea j hj e t h d c=>
   by_cases z:j=i
   ·rw[if_pos (by rw[hs,t,h];lia),if_neg (by lia),if_pos (by lia)];lia
   ·rw[if_neg (by rw[hs,t,h];lia),if_neg (by lia),if_neg (by lia)];rfl
  |snk j hj e t h d c=>rw[if_neg (by rw[hs,t,h];lia),if_neg (by lia),if_neg (by lia)];rfl
  |nee x y j hj e t h d c=>rw[if_neg (by rw[hs,t,h];lia),if_neg (by lia),if_neg (by lia)];rfl
 rw[iF e,aML,aD2 (by lia),aD2 (by lia)];rfl
theorem aBt{n:Nat}{f f2 p2:Nat->Int}{a a2:Int}(G:Good w n es P f a pp)(G2:Good w n es P f2 a2 p2)(h1:pp 1=e)(h2:p2 1=e)(ic:∀i,i<n->w.l i<=w.u i){rl:List (Nat×Int×List Nat)}(R:x9 n es (stp (net w n es P) f2 (net w n es P).m) a2 rl [] 0):
 len (net w n es P) f - a*e=sm n (fun i=>min ((rl.map fun z=>z.2.1*(z.2.2.count i:Int)).sum*w.u i) (w.p i*(w.u i - w.l i)+(rl.map fun z=>z.2.1*(z.2.2.count i:Int)).sum*w.l i)) - e*(rl.map fun z=>z.2.1).sum:=by
 rw[aDb G G2 h1 h2,aHx G2 ic,R.sum,aOI,Int.mul_comm a2 e];congr 1
 refine iF fun i hi=>?_
 have:(rl.map fun z=>z.2.1*(z.2.2.count i:Int)).sum=thr f2 i:=by
  rw[R.thr i,aMl hi];show thr f2 i - 0=_
  lia
 rw[this]
 exact aEe (ic i hi)
end Lib
namespace K42
open PySem L2 TL Lib
end K42
namespace K42
open PySem L2 TL Lib NF
variable{ws:List (Int×Int×Int)}{i:Nat}
theorem aK2(hi:i<ws.length):(fT ws).u i=ws[i].1/\(fT ws).l i=ws[i].2.1/\(fT ws).p i=ws[i].2.2:=by
 refine⟨?_,?_,?_⟩<;>simp[fT,hi]
theorem aNF(hi:i<ws.length):atI (ws.map w3) (i:Int)=some (w3 ((fT ws).u i,(fT ws).l i,(fT ws).p i)):=by
 obtain⟨h1,h2,h3⟩:=aK2 hi;rw[rR,bM,bC hi,h1,h2,h3];rfl
end K42
namespace K42
open PySem L2 TL Lib NF
noncomputable def nI(is:List Nat):List Int:=is.map fun i:Nat=>(i:Int)
def rI(z:Nat×Int×List Nat):List Int:=z.2.1::nI z.2.2
end K42
namespace K42
open PySem L2 TL Lib NF
end K42
namespace K42
open PySem L2 TL Lib NF
variable{Cn:Sto}
theorem zL{k:Nat}:∀{xs:List Nat},shs k (xs.map T.cell)=(xs.map (k+ ·)).map T.cell
 | []=>by simp[shs]
 |x::xs=>by simp[shs,sh,zL]
theorem aCg{k:Nat}:∀{xs:List Int},shs k (xs.map T.int)=xs.map T.int
 | []=>by simp[shs]
 |x::xs=>by simp[shs,sh,aCg]
theorem aKZ{C:Sto}{c:Nat}{x:Cl}(h:Cn[c]?=some x):(C++Cn.map (shc C.length))[C.length+c]?=some (shc C.length x):=by
 rw[bH (by lia),show C.length+c - C.length=c by lia,bM,h];rfl
structure tU(C:Sto)(k:Nat)(cs:List Nat)(rows:List (List Int)):Prop where
 at_:C[k]?=some (.l,cs.map T.cell)
 rows:cs.length=rows.length/\∀(i:Nat)(c:Nat)(r:List Int),cs[i]?=some c->rows[i]?=some r->C[c]?=some (.l,r.map T.int)/\c≠k
theorem tU.dr{C:Sto}{k:Nat}{cs:List Nat}{rows:List (List Int)}(R:tU C k cs rows):dr 3 C (.cell k)=some (.lst (rows.map iT)):=by
 have h1:mapO (TL.dr 2 C) (cs.map T.cell)=some (rows.map iT):=aDM (by simp[R.rows.1]) fun i t u ht hu=>by
  rw[bM]at ht hu;obtain⟨c,hc,rfl⟩:=aL.mp ht;obtain⟨r,hr,rfl⟩:=aL.mp hu
  exact mT (gP.mpr (R.rows.2 i c r hc hr).1)
 show(lc C k).bind _=_;rw[gP.mpr R.at_];show(mapO (TL.dr 2 C) _).map _=_;rw[h1];rfl
theorem tU.sh{C:Sto}{k:Nat}{cs:List Nat}{rows:List (List Int)}(R:tU Cn k cs rows):tU (C++Cn.map (shc C.length)) (C.length+k) (cs.map (C.length+ ·)) rows:=by
 refine⟨?_,by simp[R.rows.1],fun i c r hc hr=>?_⟩
 ·rw[aKZ R.at_];show some (Kd.l,shs C.length _)=_;rw[zL]
 ·rw[bM]at hc;obtain⟨c',pj,rfl⟩:=aL.mp hc;obtain⟨h1,h2⟩:=R.rows.2 i c' r pj hr
  refine⟨?_,by lia⟩
  rw[aKZ h1];show some (Kd.l,shs C.length _)=_;rw[aCg]
theorem aE3{n:Nat}{G:List T->Option (T×Sto)}{ts:List T}{r:T}{C:Sto}{Q:T->Sto->Prop}(e:G ts=some (r,Cn))(hl:ts.length=n)(hc:CFs ts=true):wpO (qZ n G ts C) Q↔Q (TL.sh C.length r) (C++Cn.map (shc C.length)):=by
 have:qZ n G ts C=some (TL.sh C.length r,C++Cn.map (shc C.length)):=by
  unfold qZ;rw[if_pos ⟨hl,hc⟩,e];rfl
 rw[this];exact nF
theorem aCl{rl:List (Nat×Int×List Nat)}{rw:Nat}(h1:Cn[rw]?=some (.l,rl.map fun z=>T.cell z.1))(h2:∀z∈rl,Cn[z.1]?=some (aAv z)):tU Cn rw (rl.map (·.1)) (rl.map rI):=by
 refine⟨by rw[b7];exact h1,by simp,fun i c r hc hr=>?_⟩
 rw[bM]at hc hr;obtain⟨z,hz,rfl⟩:=aL.mp hc;rw[hz]at hr;cases hr;have h3:=h2 z (bD hz)
 refine⟨?_,fun e=>?_⟩
 ·rw[h3];simp[aAv,rI,nI]
 ·rw[e,h1]at h3;cases rl with
  |nil=>simp at hz
  |cons y rl=>simp[aAv]at h3
end K42
namespace K42
open PySem L2 TL Lib NF
variable{ws:List (Int×Int×Int)}{ps:List (Int×Int)}
theorem o0{e:Int}:CFs [.lst (ws.map w3),.lst (ps.map pT),.int e]=true:=by rw[fH,fH,fH,f7,fW,fW,fY,lY,j6];rfl
theorem aK7:CFs [.lst (ws.map w3),.lst (ps.map pT)]=true:=by rw[fH,fH,f7,fW,fW,lY,j6];rfl
theorem aDX{rl:List (Nat×Int×List Nat)}{i:Nat}(h:∀z∈rl,1<=z.2.1/\∀i,z.2.2.count i<=1):0<=(rl.map fun z=>z.2.1*(z.2.2.count i:Int)).sum/\(rl.map fun z=>z.2.1*(z.2.2.count i:Int)).sum<=(rl.map fun z=>z.2.1).sum:=by
 induction rl with
 |nil=>simp
 |cons z rl ih=>
  obtain⟨h1,h2⟩:=ih fun y hy=>h y (aZ _ hy)
  obtain⟨h3,h4⟩:=h z bJ;have h5:=h4 i;rw[aM,aM,d4,d4];rcases(show z.2.2.count i=0\/z.2.2.count i=1 by lia)with e|e<;>rw[e]<;>simp<;>lia
theorem mM{n:Nat}{is:List Nat}(h:∀i,is.count i<=1)(hi:∀i∈is,i<n):is.length<=n:=by
 have hn:is.Nodup:=eG.mpr h;have hs:is ⊆ bL n:=fun i h=>c7.mpr (hi i h)
 have:=hn.length_le_of_subset hs;simpa using this
end K42
namespace Lib
open PySem L2 TL NF
variable{ws:List (Int×Int×Int)}{ps:List (Int×Int)}
theorem Gvn.early_mono{nd:List (List Int)}(G:Gvn ws ps nd){hs gs bs fs:List Int}(hE:Early ps hs bs)(hF:Early ps gs fs)(hl:hs.length=ws.length)(gl:gs.length=ws.length)(hH:∀i:Nat,i<ws.length->at0 hs i<=at0 gs i)(hp:∀h∈gs,0<=h):jQ 0 (dones bs hs)<=jQ 0 (dones fs gs):=by
 obtain⟨n0,n1,n2⟩:=hF.mxL hp
 refine G.fst hE hl (B:=fun i=>at0 fs i) n0 (fun i _=>hF.pos _) (fun p hp=>?_) fun i hi=>?_
 ·have h1:=hF.ge p hp;have h2:=G.inw _ hp;have h3:=hH p.1.toNat (by lia);rw[bN h2.1.1]at h3|-;rw[bN h2.2.1]
  lia
 ·have h4:=hH i hi;have h5:=n1 _ ⟨i,by rw[gl];exact hi,rfl⟩
  lia
structure Lot(ws:List (Int×Int×Int))(ps:List (Int×Int))(nd:List (List Int))(bs fs:List Int)(z y:Int):Prop where
 g:Gvn ws ps nd
 p63:ps.length<=63
 e:Early ps (ws.map (·.2.1)) bs
 f:Early ps (ws.map iV) fs
 zz:jQ 0 (dones bs (ws.map (·.2.1)))=z
 yy:jQ 0 (dones fs (ws.map iV))=y
 le:i6 [.lst (ws.map w3),.lst (ps.map pT)]=some (.int z)
 fe:xV [.lst (ws.map w3),.lst (ps.map pT)]=some (.int y)
 en:p8 [.lst (ws.map w3),.lst (ps.map pT)]=some (.tup [.int z,.int y])
 z0:0<=z
 zy:z<=y
 yb:y<=8*2^252
theorem Lot.of(ip:ws.length<=8)(ay:ps.length<=63)(ji:InW ws.length ps)(lq:Acy ps)(cc:∀w∈ws,tV w):∃nd bs fs z y,Lot ws ps nd bs fs z y:=by
 obtain⟨nd,G⟩:=Gvn.ex ip (by lia) ji lq cc;have ends:∀f:Int×Int×Int->Int,(∀w∈ws,0<=f w)->∃bs,Early ps (ws.map f) bs/\kP [.lst ((ws.map f).map T.int),.lst (ps.map pT)]=some (.int (jQ 0 (dones bs (ws.map f))))/\jW [.lst ((ws.map f).map T.int),.lst (ps.map pT)]=some (.int (jQ 0 (dones bs (ws.map f)))):=by
  intro f hf;have hp:∀h∈ws.map f,0<=h:=fun h hm=>by
   obtain⟨w,hw,rfl⟩:=bI.mp hm
   exact hf w hw
  have oz:(ws.map f).length=ws.length:=aP _;have hw:InW (ws.map f).length ps:=by rw[oz];exact ji
  obtain⟨_,e,bs,rfl,hE⟩:=aBV (hs:=ws.map f) (by lia) (by lia) hw lq hp
  exact⟨bs,hE,aFw e (by rw[hE.len];lia),aCZ (by lia) (by lia) hw lq hp hE⟩
 have p1:∀w∈ws,0<=w.2.1:=fun w hw=>(cc w hw).1
 have p2:∀w∈ws,0<=iV w:=fun w hw=>by
  have h:=cc w hw;unfold iV;split
  ·exact h.1
  ·exact dQ h.1 h.2.1
 obtain⟨bs,hE,hz1,hz2⟩:=ends (·.2.1) p1;obtain⟨fs,hF,jy,rp⟩:=ends iV p2
 refine⟨nd,bs,fs,_,_,G,ay,hE,hF,rfl,rfl,aA7 (by lia) hz1,aBY (by lia) jy,aGR (by lia) hz2 rp,G.zge hE,?_,(G.free hF (bonus:=0) (by decide)).1⟩
 refine G.early_mono hE hF (by simp) (by simp) (fun i hi=>?_) fun h hm=>?_
 ·have hw:=cc _ (d8 hi);rw[jF (by simpa using hi),jF (by simpa using hi),eP,eP];unfold iV;split
  ·exact b4 _
  ·exact hw.2.1
 ·obtain⟨w,hw,rfl⟩:=bI.mp hm;exact p2 w hw
theorem lotM{ns:List Int}(hl:ns.length<=63){M:Nat}(h4:4<=M)(h8:M<=8){u:Int}(oo:0<u)(hu:u<=10^20):∃ws ps nd bs fs z y,aDF [.lst (ns.map T.int),.int M,.int u]=some (.tup [.lst (ws.map w3),.lst (ps.map pT)])/\Lot ws ps nd bs fs z y/\ws.length<=M/\ps.length<=20/\∀w∈ws,qQ w:=by
 obtain⟨_,e1,ws,ps,rfl,ip,ay,cc,rs,bx,cm⟩:=aJA hl h4 h8 oo hu;obtain⟨nd,bs,fs,z,y,L⟩:=Lot.of (ws:=ws) (ps:=ps) (by lia) (by lia) (Al.inW bx cm) (Al.acy bx cm) fun w hw=>(cc w hw).b
 exact⟨ws,ps,nd,bs,fs,z,y,e1,L,ip,ay,cc⟩
end Lib
namespace Lib
open PySem L2 TL NF
variable{ws:List (Int×Int×Int)}{e:Int}{rl:List (Nat×Int×List Nat)}
theorem aEX{rows:List (Int×List Int)}(hm:ws.length<=100)(hl:rows.length<90000)(hx:∀r∈rows,∀w∈r.2,0<=w/\w<(ws.length:Int))(hw:∀w∈ws,WB w)
 (ht:∀i,Bt 1000 (sR rows i))(ha:Bt 1000 (rows.map (·.1)).sum)(he:Bt 1000 e):
 u6 [.lst (ws.map w3),.lst (rows.map rT),.int e]=some (.int (aCY ws rows e)):=by
 apply hJ;unfold aDy;have w1:∀{C Q},wpO (gY 2 mI [.int ws.length,.lst (rows.map rT)] C) Q↔Q (.lst (((bL ws.length).map (sR rows)).map T.int)) C:=aBw hm hx;walk_at "b";simp_arith[↓eZ,↓eY,↓w1,aP,aBE]
 refine⟨sS (by simp;lia),gG (fun p=>T.int (wworth p.1 p.2)) (fun p hp=>?_) ?_⟩
 ·have ll:=hw p.1 (aOO hp).1;have kb:Bt 1000 p.2:=by
   obtain⟨i,_,e⟩:=bI.mp (aOO hp).2;rw[<-e];exact ht i
  simp only[scT,aS,aM,bB,aW,aT,aV,bP,bR,b8];simp_arith[↓eZ,↓eY,↓v7]
 ·rw[pO]
  refine⟨_,rfl,(by(try simp only[aP]);unfold lim;lia),gG (fun r=>T.int r.1) (fun r _=>?_) ?_⟩
  ·simp only[scT,aS,aM,bB,aW,aT,aV,bP,bR,b8];simp_arith[↓eZ,↓eY,rT,↓fJ (aB2 (α:=T))]
  ·rw[pO]
   refine⟨_,rfl,mP he ha (by decide),?_⟩
   exact iH fY
noncomputable def rws(rl:List (Nat×Int×List Nat)):List (Int×List Int):=rl.map fun z=>(z.2.1,z.2.2.map fun i:Nat=>(i:Int))
theorem aNz:(rws rl).map rT=(rl.map K42.rI).map iT:=by
 unfold rws;rw[b7,b7];rfl
theorem aBq{i:Nat}:∀{is:List Nat},(is.map fun i:Nat=>(i:Int)).count (i:Int)=is.count i
 | []=>rfl
 |a::is=>by
  rw[aM,aOy,aOy,aBq];congr 1;by_cases h:a=i
  ·subst h;simp
  ·rw[if_neg (by simp;lia),if_neg (by simp;lia)]
theorem aEm{i:Nat}:sR (rws rl) i=(rl.map fun z=>z.2.1*(z.2.2.count i:Int)).sum:=by
 unfold sR rws;rw[b7];congr 1
 refine cL fun z _=>?_
 show z.2.1*_=_;rw[aBq]
theorem aD5:((rws rl).map (·.1)).sum=(rl.map fun z=>z.2.1).sum:=by
 unfold rws;rw[b7];rfl
theorem tD{n:Nat}{g:Nat->Int}:((bL n).map g).sum=sm n g:=by
 induction n with
 |zero=>rfl
 |succ n ih=>rw[aP6,bV,aO5,ih];simp[sm]
theorem aFM(ic:∀i,i<ws.length->(fT ws).l i<=(fT ws).u i):
 aCY ws (rws rl) e=sm ws.length (fun i=>min ((rl.map fun z=>z.2.1*(z.2.2.count i:Int)).sum*(fT ws).u i) ((fT ws).p i*((fT ws).u i - (fT ws).l i)+(rl.map fun z=>z.2.1*(z.2.2.count i:Int)).sum*(fT ws).l i)) - e*(rl.map fun z=>z.2.1).sum:=by
 unfold aCY;rw[aD5];congr 1;rw[<-tD];congr 1;apply aPo
 ·simp
 ·intro i h1 h2;have hi:i<ws.length:=by simpa using h2
  obtain⟨q1,q2,q3⟩:=K42.aK2 hi;have:=ic i hi;simp only[eP,List.getElem_zip,eQ];rw[aEm];generalize (rl.map fun z=>z.2.1*(z.2.2.count i:Int)).sum=x;rw[<-aEe this];unfold wworth;rw[q1,q2,q3];split
  ·rfl
  ·rw[c9,aO2];lia
def jZ(ws:List (Int×Int×Int))(nd:List (List Int))(e q:Int):Prop:=∃f a pp,Good (fT ws) ws.length (i7 0 nd) (plenty ws 0) f a pp/\pp 1=e/\a<=sm ws.length (fT ws).p/\q=len (iG ws nd 0) f - a*e
theorem k6{ps:List (Int×Int)}{nd:List (List Int)}{bs fs:List Int}{z y:Int}(L:Lot ws ps nd bs fs z y)(he:e<2^300):
 (e<z->gD [.lst (ws.map w3),.lst (ps.map pT),.int e]=some .non)/\
 (z<=e->∃q,gD [.lst (ws.map w3),.lst (ps.map pT),.int e]=some (.int q)/\jZ ws nd e q):=by
 have hz0:=L.z0;have hn:=L.g.l8;obtain⟨S1,S2⟩:=aAT L.g L.e L.f (by rw[L.zz];exact L.le) (e:=e);rw[L.zz]at S1 S2;have w4:∀{C Q},wpO (gY 2 i6 [.lst (ws.map w3),.lst (ps.map pT)] C) Q↔Q (.int z) C:=fN L.le rfl K42.aK7;constructor
 ·intro hez;apply hJ;unfold qY;walk_at "b"
  refine fO.mpr (l6.mpr (j0.mpr (gO.mpr (e9.mpr ⟨_,rfl,jT.mpr (fF.mpr (e9.mpr ⟨_,rfl,fF.mpr (e9.mpr ⟨_,rfl,fS.mpr (w4.mpr (pI.mpr ⟨_,rfl,?_⟩))⟩)⟩))⟩))))
  rw[if_pos (decide_eq_true hez)]
  exact jN.mpr (kZ.mpr (iH rfl))
 ·intro yq;obtain⟨f2,a2,p2,rl,rw,Cn,s1,G2,kb,ha2,jk,RO,c1,c2,_⟩:=S2 yq;have ic:∀i,i<ws.length->(fT ws).l i<=(fT ws).u i:=fun i hi=>(uE (P:=tV) L.g.ok hi).2.1
  have k4:=aBt G2 G2 kb kb ic RO;have R2:=(K42.aCl c1 c2).sh (C:=[]);have d2:=R2.dr;have hzz:∀x∈rl,1<=x.2.1/\∀i,x.2.2.count i<=1:=fun x hx=>⟨(RO.ok x hx).1,(RO.ok x hx).2.2.2.2⟩
  have hsP:=L.g.sP;have sj:0<=(rl.map fun z=>z.2.1).sum/\(rl.map fun z=>z.2.1).sum<2^256:=by
   have h1:=K42.aDX (i:=0) hzz;have h2:=RO.sum
   refine⟨by lia,?_⟩
   have h3:(8*2^252:Int)<2^256:=by decide
   lia
  have eW:=aEX (ws:=ws) (rows:=rws rl) (e:=e) (by lia) (by unfold rws;rw[aP];lia) (fun r hr w hw=>by
   unfold rws at hr;obtain⟨x,hx,rfl⟩:=bI.mp hr;obtain⟨i,hi,rfl⟩:=bI.mp hw;have:=(RO.ok x hx).2.2.1 i hi
   lia) (fun w hw=>by
   have h:=L.g.ok w hw;have hu:0<=w.1:=dQ h.1 h.2.1
   exact⟨Bt.mono (Bt.of_lt hu (dB h.2.2.2.1 (by decide:(2^252:Int)<2^256))) (by decide),Bt.mono (Bt.of_lt h.1 (cT h.2.1 (dB h.2.2.2.1 (by decide:(2^252:Int)<2^256)))) (by decide),Bt.mono (Bt.of_lt h.2.2.1 (dB h.2.2.2.2 (by decide:(2^252:Int)<2^256))) (by decide)⟩) (fun i=>by
   rw[aEm];have h1:=K42.aDX (i:=i) hzz;have h2:(rl.map fun z=>z.2.1*(z.2.2.count i:Int)).sum<2^256:=by lia
   exact Bt.mono (Bt.of_lt h1.1 h2) (by decide)) (by
   rw[aD5]
   exact Bt.mono (Bt.of_lt sj.1 sj.2) (by decide)) (Bt.mono (Bt.of_lt (by lia) he) (by decide))
  rw[aNz,aFM ic,<-k4]at eW
  refine⟨_,?_,f2,a2,p2,G2,kb,ha2,rfl⟩
  apply hJ;unfold qY;walk_at "b"
  refine fO.mpr (l6.mpr (j0.mpr (gO.mpr (e9.mpr ⟨_,rfl,jT.mpr (fF.mpr (e9.mpr ⟨_,rfl,fF.mpr (e9.mpr ⟨_,rfl,fS.mpr (w4.mpr (pI.mpr ⟨_,rfl,?_⟩))⟩)⟩))⟩))))
  rw[if_neg (by simpa using yq)]
  refine iL.mpr (gR.mpr (jN.mpr ?_))
  refine jT.mpr (fF.mpr (e9.mpr ⟨_,rfl,fF.mpr (jT.mpr (fF.mpr (e9.mpr ⟨_,rfl,fF.mpr (e9.mpr ⟨_,rfl,fF.mpr (e9.mpr ⟨_,rfl,fS.mpr ((K42.aE3 s1 rfl K42.o0).mpr ?_)⟩)⟩)⟩)))⟩))
  refine fF.mpr (e9.mpr ⟨_,rfl,fS.mpr ?_⟩)
  exact sT rfl (jC (iH (by rw[fW,lY])) (jC d2 (jC (iH fY) aCb))) ⟨_,eW,rfl,iH fY⟩
end Lib
namespace Lib
open PySem L2 TL NF
structure Pl(ws:List (Int×Int×Int))(ps:List (Int×Int))(e:Int)(b h:Nat->Int):Prop where
 b0:∀i,i<ws.length->0<=b i
 lh:∀i,i<ws.length->(fT ws).l i<=h i
 hu:∀i,i<ws.length->h i<=(fT ws).u i
 en:∀i,i<ws.length->b i+h i<=e
 ne:∀p∈ps,b p.1.toNat+h p.1.toNat<=b p.2.toNat
def cst(ws:List (Int×Int×Int))(h:Nat->Int):Int:=sm ws.length fun i=>(fT ws).p i*((fT ws).u i - h i)
section
variable {ws:List (Int×Int×Int)}{ps:List (Int×Int)}{nd:List (List Int)}{bs fs:List Int}{z y e q:Int}{b h:Nat->Int}
theorem jZ.plan(G:Gvn ws ps nd)(A:jZ ws nd e q):∃b h,Pl ws ps e b h/\cst ws h=q:=by
 obtain⟨f,a,pp,g,hp,ha,rfl⟩:=A;obtain⟨k1,k2,k3⟩:=aKp (G.wel (bonus:=0) (by decide)) g hp ha fun i hi=>(uE (P:=tV) G.ok hi).2.1
 exact⟨beg pp,hrs (fT ws) pp,⟨fun i hi=>(k1 i hi).1,fun i hi=>(k1 i hi).2.1,fun i hi=>(k1 i hi).2.2.1,fun i hi=>(k1 i hi).2.2.2,fun p hp=>k2 _ (aH1 G.inw G.ndd hp)⟩,k3⟩
theorem Pl.tim(G:Gvn ws ps nd)(p:Pl ws ps e b h):Tim ws.length (i7 0 nd) e b h:=
 ⟨p.b0,p.en,fun x hx=>by
  have:=p.ne _ (zZ G.inw G.ndd hx).1;simpa using this⟩
theorem jZ.le(G:Gvn ws ps nd)(A:jZ ws nd e q)(p:Pl ws ps e b h):q<=cst ws h:=by
 obtain⟨f,a,pp,g,hp,ha,rfl⟩:=A
 refine dQ (best g.flo g.cap (p.tim G) p.lh) (aPU (iF fun i hi=>?_))
 have:=p.hu i hi;unfold pos;split
 ·rfl
 ·rw[show(fT ws).u i - h i=0 by lia]
theorem Lot.pl_z(L:Lot ws ps nd bs fs z y)(p:Pl ws ps e b h)(he:0<=e):z<=e:=by
 have uj:∀i:Nat,i<ws.length->at0 (ws.map (·.2.1)) i=(fT ws).l i:=fun i hi=>by
  rw[jF (by simpa using hi),eP];show _=((ws[i]?).getD (0,0,0)).2.1;rw[bC hi];rfl
 rw[<-L.zz]
 refine L.g.fst L.e (aP _) he p.b0 (fun x hx=>?_) fun i hi=>?_
 ·have h1:=p.ne x hx;have h2:=L.g.inw _ hx;have hi:x.1.toNat<ws.length:=by lia
  have h3:=uj _ hi;rw[bN h2.1.1]at h3;have:=p.lh _ hi
  lia
 ·have h4:=p.en i hi;have h5:=p.lh i hi;have h6:=uj i hi
  lia
end
end Lib
namespace Lib
open PySem L2 TL NF
section
variable {ws ax:List (Int×Int×Int)}{ps av:List (Int×Int)}{nd cr:List (List Int)}{bs fs:List Int}{z y e q q' t:Int}{b h:Nat->Int}
theorem aM6{xs ys:List Int}(h:iT xs=iT ys):xs=ys:=by
 unfold iT at h;have h1:=T.lst.inj h;have key:∀{xs ys:List Int},xs.map T.int=ys.map T.int->xs=ys:=by
  intro xs;induction xs with
  |nil=>intro ys h;cases ys with|nil=>rfl|cons a b=>cases h
  |cons a xs ih=>
   intro ys h;cases ys with
   |nil=>cases h
   |cons c ys=>
    rw[aM,aM]at h;injection h with h1 h2
    injection h1 with h1
    rw[h1,ih h2]
 exact key h1
theorem aEw:∀{xs ys:List (List Int)},xs.map iT=ys.map iT->xs=ys
 | [],[],_=>rfl
 | [],_::_,h=>by cases h
 |_::_,[],h=>by cases h
 |a::xs,c::ys,h=>by
  rw[aM,aM]at h;injection h with h1 h2
  rw[aM6 h1,aEw h2]
theorem Gvn.same(G:Gvn ws ps nd)(G':Gvn ax ps cr)(hl:ax.length=ws.length):cr=nd:=by
 have h1:=G.need;have h2:=G'.need;rw[hl,h1]at h2;have h3:=cH.inj h2
 exact(aEw (T.lst.inj h3)).symm
theorem nE{s:Int×Int×Int->Int×Int×Int}(h0:s (0,0,0)=(0,0,0))(i:Nat):((ws.map s)[i]?).getD (0,0,0)=s ((ws[i]?).getD (0,0,0)):=by
 rw[bM];cases ws[i]?with
 |none=>exact h0.symm
 |some w=>rfl
theorem aDp{n:Nat}{g:Nat->Int}{t:Int}:sm n (fun i=>t*g i)=t*sm n g:=by
 induction n with
 |zero=>simp[sm]
 |succ n ih=>show sm n _+t*g n=t*(sm n g+g n);rw[ih,aOD]
noncomputable def lgr(t:Int)(w:Int×Int×Int):Int×Int×Int:=(t*w.1,t*w.2.1,w.2.2)
theorem aBp:lgr t (0,0,0)=(0,0,0):=by simp[lgr]
theorem aEU(G:Gvn ws ps nd)(G':Gvn (ws.map (lgr t)) ps cr)(ht:0<t)(A:jZ ws nd e q)(A':jZ (ws.map (lgr t)) cr (t*e) q'):q'=t*q:=by
 have hl:(ws.map (lgr t)).length=ws.length:=aP _;have hu:∀i,(fT (ws.map (lgr t))).u i=t*(fT ws).u i:=fun i=>by show(((ws.map (lgr t))[i]?).getD (0,0,0)).1=_;rw[nE aBp];rfl
 have ke:∀i,(fT (ws.map (lgr t))).l i=t*(fT ws).l i:=fun i=>by show(((ws.map (lgr t))[i]?).getD (0,0,0)).2.1=_;rw[nE aBp];rfl
 have hp:∀i,(fT (ws.map (lgr t))).p i=(fT ws).p i:=fun i=>by show(((ws.map (lgr t))[i]?).getD (0,0,0)).2.2=_;rw[nE aBp];rfl
 apply eB
 ·obtain⟨b,h,p,rfl⟩:=A.plan G;have:=A'.le G' (b:=fun i=>t*b i) (h:=fun i=>t*h i) ⟨fun i hi=>cO (cK ht) (p.b0 i (by rw[<-hl];exact hi)),fun i hi=>by rw[ke];exact bW (p.lh i (by rw[<-hl];exact hi)) (cK ht),
   fun i hi=>by rw[hu];exact bW (p.hu i (by rw[<-hl];exact hi)) (cK ht),fun i hi=>by rw[<-aOD];exact bW (p.en i (by rw[<-hl];exact hi)) (cK ht),fun x hx=>by rw[<-aOD];exact bW (p.ne x hx) (cK ht)⟩
  refine dQ this (aPU ?_)
  unfold cst;rw[hl,<-aDp]
  refine iF fun i _=>?_
  rw[hu,hp,<-c9,aPl]
 ·obtain⟨b,h,p,rfl⟩:=A'.plan G';obtain⟨f,a,pp,g,h1,h2,rfl⟩:=A;have gh:=G.same G' hl;subst gh;have T:=p.tim G';have c':Cap (net (fT (ws.map (lgr t))) ws.length (i7 0 cr) (plenty ws 0)) f:=fun k hk=>by
   have:=g.cap k hk
   refine⟨this.1,?_⟩
   have h3:=this.2;show f k<=if k<4*ws.length/\k%4=1 then(fT (ws.map (lgr t))).p (k/4)else plenty ws 0
   rw[hp]
   exact h3
  rw[hl]at T;have hb:=best (w:=fT (ws.map (lgr t))) (P:=plenty ws 0) g.flo c' T fun i hi=>p.lh i (by rw[hl];exact hi)
  have e1:len (net (fT (ws.map (lgr t))) ws.length (i7 0 cr) (plenty ws 0)) f=t*len (iG ws cr 0) f:=by
   unfold len;rw[<-aDp]
   refine iF fun k _=>?_
   rw[aPl];congr 1;show(if k<4*ws.length then(match k%4 with|1=>(fT (ws.map (lgr t))).u (k/4)|2=>(fT (ws.map (lgr t))).l (k/4)|_=>0)else 0)=t*(if k<4*ws.length then(match k%4 with|1=>(fT ws).u (k/4)|2=>(fT ws).l (k/4)|_=>0)else 0);split
   ·split
    ·rw[hu]
    ·rw[ke]
    ·rw[aOt]
   ·rw[aOt]
  rw[e1]at hb;have e2:(sm ws.length fun i=>(fT (ws.map (lgr t))).p i*pos ((fT (ws.map (lgr t))).u i - h i))=cst (ws.map (lgr t)) h:=by
   unfold cst;rw[hl]
   refine iF fun i hi=>?_
   have:=p.hu i (by rw[hl];exact hi);unfold pos;split
   ·rfl
   ·rw[show(fT (ws.map (lgr t))).u i - h i=0 by lia]
  rw[e2]at hb;rw[c9];rw[show a*(t*e)=t*(a*e)from aPl ..]at hb
  exact hb
noncomputable def drr(t:Int)(w:Int×Int×Int):Int×Int×Int:=(w.1,w.2.1,t*w.2.2)
theorem aBK:drr t (0,0,0)=(0,0,0):=by simp[drr]
theorem aEJ(G:Gvn ws ps nd)(G':Gvn (ws.map (drr t)) ps cr)(ht:0<t)(A:jZ ws nd e q)(A':jZ (ws.map (drr t)) cr e q'):q'=t*q:=by
 have hl:(ws.map (drr t)).length=ws.length:=aP _;have hu:∀i,(fT (ws.map (drr t))).u i=(fT ws).u i:=fun i=>by show(((ws.map (drr t))[i]?).getD (0,0,0)).1=_;rw[nE aBK];rfl
 have ke:∀i,(fT (ws.map (drr t))).l i=(fT ws).l i:=fun i=>by show(((ws.map (drr t))[i]?).getD (0,0,0)).2.1=_;rw[nE aBK];rfl
 have hp:∀i,(fT (ws.map (drr t))).p i=t*(fT ws).p i:=fun i=>by show(((ws.map (drr t))[i]?).getD (0,0,0)).2.2=_;rw[nE aBK];rfl
 have hc:∀h,cst (ws.map (drr t)) h=t*cst ws h:=fun h=>by
  unfold cst;rw[hl,<-aDp]
  refine iF fun i _=>?_
  rw[hu,hp,Int.mul_assoc]
 apply eB
 ·obtain⟨b,h,p,rfl⟩:=A.plan G;rw[<-hc]
  exact A'.le G' ⟨fun i hi=>p.b0 i (by rw[<-hl];exact hi),fun i hi=>by rw[ke];exact p.lh i (by rw[<-hl];exact hi),fun i hi=>by rw[hu];exact p.hu i (by rw[<-hl];exact hi),fun i hi=>p.en i (by rw[<-hl];exact hi),p.ne⟩
 ·obtain⟨b,h,p,rfl⟩:=A'.plan G';rw[hc]
  exact bW (A.le G ⟨fun i hi=>p.b0 i (by rw[hl];exact hi),fun i hi=>by rw[<-ke];exact p.lh i (by rw[hl];exact hi),fun i hi=>by rw[<-hu];exact p.hu i (by rw[hl];exact hi),fun i hi=>p.en i (by rw[hl];exact hi),p.ne⟩) (cK ht)
end
end Lib
namespace Lib
open PySem L2 TL NF
variable{rs:List Int}
theorem Rk.surj{m:Nat}(h:Rk m rs){v:Nat}(hv:v<m):(v:Int)∈rs:=cB fun hn=>by
 have h1:((v:Int)::rs).Nodup:=bY.mpr ⟨hn,h.nd⟩;have h2:(((v:Int)::rs).map eN).Nodup:=by
  refine aPV.mpr (List.Pairwise.imp_of_mem (fun {x y} hx hy bb e=>?_) h1)
  have b:∀x∈(v:Int)::rs,0<=x:=fun x hx=>by
   rcases bE.mp hx with rfl|hx
   ·lia
   ·exact(h.rng x hx).1
  have:=b x hx;have:=b y hy
  exact bb (by lia)
 have h3:=K42.mM (n:=m) (is:=((v:Int)::rs).map eN) (fun i=>eG.mp h2 i) fun i hi=>by
  obtain⟨x,hx,rfl⟩:=bI.mp hi;rcases bE.mp hx with rfl|hx
  ·lia
  ·have:=h.rng x hx;lia
 rw[aP,aN,h.len]at h3
 lia
theorem Rk.perm{m:Nat}(h:Rk m rs):rs.Perm ((bL m).map fun i:Nat=>(i:Int)):=by
 refine List.perm_iff_count.mpr fun x=>?_
 have hn:((bL m).map fun i:Nat=>(i:Int)).Nodup:=by
  refine aPV.mpr (List.Pairwise.imp_of_mem (fun {a b} _ _ bb e=>bb (by lia)) List.nodup_range)
 by_cases hx:x∈rs
 ·have hr:=h.rng x hx;have hy:x∈((bL m).map fun i:Nat=>(i:Int)):=bI.mpr ⟨x.toNat,by simp;lia,by show((x.toNat:Nat):Int)=x;lia⟩;have h1:=eG.mp h.nd x;have h2:=eG.mp hn x;have h3:=aPO.mpr hx;have h4:=aPO.mpr hy
  lia
 ·have hy:x∉((bL m).map fun i:Nat=>(i:Int)):=fun hy=>by
   obtain⟨i,hi,rfl⟩:=bI.mp hy
   exact hx (h.surj (c7.mp hi))
  rw[aPc.mpr hx,aPc.mpr hy]
theorem aIk{xs ys:List Int}(h:xs.Perm ys):xs.sum=ys.sum:=by
 induction h with
 |nil=>rfl
 |cons x _ ih=>rw[d4,d4,ih]
 |swap x y l=>simp only[d4];lia
 |trans _ _ h1 h2=>exact h1.trans h2
theorem Rk.sum{m:Nat}(h:Rk m rs){g:Nat->Int}:sm m (fun k=>g (at0 rs k).toNat)=sm m g:=by
 have p:=aIk (h.perm.map fun x:Int=>g x.toNat);rw[b7,show((fun x:Int=>g x.toNat) ∘ fun i:Nat=>(i:Int))=g from funext fun i=>by simp,tD]at p;rw[<-p,<-tD];congr 1;apply aPo
 ·simp[h.len]
 ·intro i h1 h2;have hi:i<rs.length:=by simpa using h2
  simp only[eP,eQ];rw[jF hi]
section
variable {ws ax:List (Int×Int×Int)}{ps av:List (Int×Int)}{nd cr:List (List Int)}{bs fs:List Int}{z y e q q' t:Int}{b h:Nat->Int}{rs:List Int}
structure Ren(rs:List Int)(ws:List (Int×Int×Int))(ps:List (Int×Int))(ax:List (Int×Int×Int))(av:List (Int×Int)):Prop where
 r:Rk ws.length rs
 l:ax.length=ws.length
 w:∀k,k<ws.length->ax[(at0 rs k).toNat]?=ws[k]?
 p:av=ps.map fun p=>(at0 rs p.1,at0 rs p.2)
theorem Rk.at{m:Nat}(h:Rk m rs){k:Nat}(hk:k<m):0<=at0 rs k/\(at0 rs k).toNat<m:=by
 have hi:k<rs.length:=by rw[h.len];exact hk
 rw[jF hi];have:=h.rng _ (d8 hi)
 lia
theorem Rk.inj{m:Nat}(h:Rk m rs){j k:Nat}(hj:j<m)(hk:k<m)(e:at0 rs j=at0 rs k):j=k:=by
 have kg:j<rs.length:=by rw[h.len];exact hj
 have tw:k<rs.length:=by rw[h.len];exact hk
 rw[jF kg,jF tw]at e
 exact(aOU h.nd).mp e
theorem Ren.wk(R:Ren rs ws ps ax av){k:Nat}(hk:k<ws.length):(fT ax).u (at0 rs k).toNat=(fT ws).u k/\(fT ax).l (at0 rs k).toNat=(fT ws).l k/\(fT ax).p (at0 rs k).toNat=(fT ws).p k:=by
 have e:=R.w k hk
 exact⟨show(ax[(at0 rs k).toNat]?.getD (0,0,0)).1=_ by rw[e];rfl,show(ax[(at0 rs k).toNat]?.getD (0,0,0)).2.1=_ by rw[e];rfl,show(ax[(at0 rs k).toNat]?.getD (0,0,0)).2.2=_ by rw[e];rfl⟩
noncomputable def bk(rs:List Int)(v:Nat):Nat:=rs.idxOf (v:Int)
theorem aBZ{m:Nat}(h:Rk m rs){k:Nat}(hk:k<m):bk rs (at0 rs k).toNat=k:=by
 have h1:=h.at hk;have hm:((at0 rs k).toNat:Int)∈rs:=h.surj h1.2;have hb:bk rs (at0 rs k).toNat<rs.length:=d0 hm
 refine h.inj (by rw[<-h.len];exact hb) hk ?_
 rw[jF hb]
 exact(aPd (x:=((at0 rs k).toNat:Int)) hb).trans (by lia)
theorem aEh{m:Nat}(h:Rk m rs){v:Nat}(hv:v<m):bk rs v<m/\at0 rs (bk rs v:Nat)=v:=by
 have hm:(v:Int)∈rs:=h.surj hv;have hb:bk rs v<rs.length:=d0 hm
 refine⟨by rw[<-h.len];exact hb,?_⟩
 rw[jF hb]
 exact aPd _
theorem Ren.to(R:Ren rs ws ps ax av)(hw:InW ws.length ps)(p:Pl ax av e b h):Pl ws ps e (fun k=>b (at0 rs k).toNat) (fun k=>h (at0 rs k).toNat)/\cst ws (fun k=>h (at0 rs k).toNat)=cst ax h:=by
 have at':∀i,i<ws.length->(at0 rs i).toNat<ax.length:=fun i hi=>by rw[R.l];exact(R.r.at hi).2
 refine⟨⟨fun i hi=>p.b0 _ (at' i hi),fun i hi=>by rw[<-(R.wk hi).2.1];exact p.lh _ (at' i hi),fun i hi=>by rw[<-(R.wk hi).1];exact p.hu _ (at' i hi),fun i hi=>p.en _ (at' i hi),fun x hx=>?_⟩,?_⟩
 ·have:=p.ne (at0 rs x.1,at0 rs x.2) (by rw[R.p];exact bI.mpr ⟨x,hx,rfl⟩);have lf:=hw x hx;show b (at0 rs ((x.1.toNat:Nat):Int)).toNat+h (at0 rs ((x.1.toNat:Nat):Int)).toNat<=b (at0 rs ((x.2.toNat:Nat):Int)).toNat;rw[bN lf.1.1,bN lf.2.1]
  exact this
 ·unfold cst;rw[R.l,<-R.r.sum (g:=fun v=>(fT ax).p v*((fT ax).u v - h v))]
  refine iF fun i hi=>?_
  rw[(R.wk hi).1,(R.wk hi).2.2]
theorem Ren.back(R:Ren rs ws ps ax av)(hw:InW ws.length ps)(p:Pl ws ps e b h):Pl ax av e (fun v=>b (bk rs v)) (fun v=>h (bk rs v))/\cst ax (fun v=>h (bk rs v))=cst ws h:=by
 have nv:∀v,v<ax.length->bk rs v<ws.length/\(fT ax).u v=(fT ws).u (bk rs v)/\(fT ax).l v=(fT ws).l (bk rs v):=fun v hv=>by
  rw[R.l]at hv;have h1:=aEh R.r hv;have h2:=R.wk h1.1;rw[h1.2,cE]at h2
  exact⟨h1.1,h2.1,h2.2.1⟩
 refine⟨⟨fun v hv=>p.b0 _ (nv v hv).1,fun v hv=>by rw[(nv v hv).2.2];exact p.lh _ (nv v hv).1,fun v hv=>by rw[(nv v hv).2.1];exact p.hu _ (nv v hv).1,fun v hv=>p.en _ (nv v hv).1,fun x hx=>?_⟩,?_⟩
 ·rw[R.p]at hx;obtain⟨y,hy,rfl⟩:=bI.mp hx;have gp:=hw y hy;have h1:=p.ne y hy;have g:∀i:Int,0<=i->i<ws.length->bk rs (at0 rs i).toNat=i.toNat:=fun i h0 h1=>by
   have:=aBZ R.r (k:=i.toNat) (by lia);rw[bN h0]at this
   exact this
  show b (bk rs (at0 rs y.1).toNat)+h (bk rs (at0 rs y.1).toNat)<=b (bk rs (at0 rs y.2).toNat);rw[g _ gp.1.1 gp.1.2,g _ gp.2.1 gp.2.2]
  exact h1
 ·unfold cst;rw[R.l,<-R.r.sum (g:=fun v=>(fT ax).p v*((fT ax).u v - h (bk rs v)))]
  refine iF fun i hi=>?_
  rw[(R.wk hi).1,(R.wk hi).2.2,aBZ R.r hi]
theorem aEz(R:Ren rs ws ps ax av)(G:Gvn ws ps nd)(G':Gvn ax av cr)(A:jZ ws nd e q)(A':jZ ax cr e q'):q'=q:=by
 apply eB
 ·obtain⟨b,h,p,rfl⟩:=A.plan G;rw[<-(R.back G.inw p).2]
  exact A'.le G' (R.back G.inw p).1
 ·obtain⟨b,h,p,rfl⟩:=A'.plan G';rw[<-(R.to G.inw p).2]
  exact A.le G (R.to G.inw p).1
theorem Ren.inw(R:Ren rs ws ps ax av)(hw:InW ws.length ps):InW ax.length av:=fun x hx=>by
 rw[R.p]at hx;obtain⟨y,hy,rfl⟩:=bI.mp hx;have gp:=hw y hy;have g:∀i:Int,0<=i->i<ws.length->0<=at0 rs i/\at0 rs i<ax.length:=fun i h0 h1=>by
  have:=R.r.at (k:=i.toNat) (by lia);rw[bN h0]at this;rw[R.l]
  lia
 exact⟨g _ gp.1.1 gp.1.2,g _ gp.2.1 gp.2.2⟩
theorem Ren.acy(R:Ren rs ws ps ax av)(hw:InW ws.length ps)(ha:Acy ps):Acy av:=by
 obtain⟨r,hr⟩:=ha
 refine⟨fun x=>r (bk rs x.toNat:Nat),fun x hx=>?_⟩
 rw[R.p]at hx;obtain⟨y,hy,rfl⟩:=bI.mp hx;have gp:=hw y hy;have g:∀i:Int,0<=i->i<ws.length->((bk rs (at0 rs i).toNat:Nat):Int)=i:=fun i h0 h1=>by
  have:=aBZ R.r (k:=i.toNat) (by lia);rw[bN h0]at this;rw[this];lia
 show r (bk rs (at0 rs y.1).toNat:Nat)<r (bk rs (at0 rs y.2).toNat:Nat);rw[g _ gp.1.1 gp.1.2,g _ gp.2.1 gp.2.2]
 exact hr y hy
end
end Lib
namespace Lib
open PySem L2 TL NF
noncomputable def aHQ(ps:List (Int×Int))(ah:List Int):List Int:=ah++(ps.filter fun p=>decide (p.1∈ah)&& !decide (p.2∈ah)).map (·.2)
def fol(ps:List (Int×Int))(x:Int):Nat->List Int
 |0=>[x]
 |k+1=>aHQ ps (fol ps x k)
section
variable {ps av:List (Int×Int)}{m k:Nat}{x y a b:Int}
theorem aKT:x∈fol ps x k:=by
 induction k with
 |zero=>simp[fol]
 |succ k ih=>exact dR _ ih
theorem aFg{r:Int->Nat}(hr:∀p∈ps,r p.1<r p.2):y∈fol ps x k->y=x\/r x<r y:=by
 induction k generalizing y with
 |zero=>intro h;exact .inl (by simpa[fol]using h)
 |succ k ih=>
  intro h;rcases bK.mp h with h|h
  ·exact ih h
  ·obtain⟨p,hp,rfl⟩:=bI.mp h;simp only[cQ,aOE,decide_eq_true_eq]at hp;have h1:=hr p hp.1;rcases ih hp.2.1 with h2|h2
   ·rw[<-h2];exact .inr h1
   ·exact .inr (aPq h2 h1)
theorem aJh(hl:ps.length<=63):(fol ps x k).length<=1+63*k:=by
 induction k with
 |zero=>simp[fol]
 |succ k ih=>
  show(fol ps x k++_).length<=_;have:=cA (dM (fun p=>decide (p.1∈fol ps x k)&& !decide (p.2∈fol ps x k)) ps) hl;rw[bA,aP]
  lia
def Cld(ps:List (Int×Int))(ah:List Int):Prop:=∀p∈ps,p.1∈ah->p.2∈ah
theorem Cld.fix{ah:List Int}(h:Cld ps ah):aHQ ps ah=ah:=by
 unfold aHQ;rw[List.filter_eq_nil_iff.mpr fun p hp=>?_]
 ·simp
 ·simp only[aOE,decide_eq_true_eq,Bool.not_eq_true',decide_eq_false_iff_not]
  exact fun z=>z.2 (h p hp z.1)
theorem qS{α:Type}{p q:α->Bool}(vv:∀x,p x=true->q x=true):∀{l:List α},(∃x∈l,p x=false/\q x=true)->(l.filter p).length+1<=(l.filter q).length
 | [],h=>by obtain⟨x,hx,_⟩:=h;cases hx
 |c::l,h=>by
  have le:(l.filter p).length<=(l.filter q).length:=by
   clear h;induction l with
   |nil=>simp
   |cons d l ih=>
    rw[eO,eO];by_cases hd:p d=true
    ·rw[if_pos hd,if_pos (vv d hd)];simp;exact ih
    ·rw[if_neg hd];split
     ·simp;lia
     ·exact ih
  rw[eO,eO];by_cases hc:p c=true
  ·rw[if_pos hc,if_pos (vv c hc),aN,aN];have:=qS vv (l:=l) (by
    obtain⟨x,hx,h1,h2⟩:=h;rcases bE.mp hx with rfl|hx
    ·rw[hc]at h1;cases h1
    ·exact⟨x,hx,h1,h2⟩)
   lia
  ·rw[if_neg hc];by_cases hq:q c=true
   ·rw[if_pos hq,aN];lia
   ·rw[if_neg hq]
    exact qS vv (l:=l) (by
     obtain⟨x,hx,h1,h2⟩:=h;rcases bE.mp hx with rfl|hx
     ·exact absurd h2 hq
     ·exact⟨x,hx,h1,h2⟩)
theorem aJY(hw:InW m ps)(hx:0<=x/\x<m):Cld ps (fol ps x m):=by
 have key:∀k,Cld ps (fol ps x k)\/k+1<=((bL m).filter fun v:Nat=>decide ((v:Int)∈fol ps x k)).length:=fun k=>by
  induction k with
  |zero=>
   refine .inr (eJ.mpr fun hn=>?_)
   have:x.toNat∈(bL m).filter fun v:Nat=>decide ((v:Int)∈fol ps x 0):=cQ.mpr ⟨by simp;lia,by rw[bN hx.1];exact decide_eq_true aKT⟩
   rw[hn]at this;cases this
  |succ k ih=>
   rcases ih with h|h
   ·refine .inl ?_
    show Cld ps (aHQ ps (fol ps x k));rw[h.fix]
    exact h
   ·by_cases hc:Cld ps (fol ps x k)
    ·refine .inl ?_
     show Cld ps (aHQ ps (fol ps x k));rw[hc.fix]
     exact hc
    ·refine .inr ?_
     obtain⟨p,hp,h1,h2⟩:∃p∈ps,p.1∈fol ps x k/\p.2∉fol ps x k:=cB fun hn=>hc fun p hp h1=>cB fun h2=>hn ⟨p,hp,h1,h2⟩
     have kb:=(hw p hp).2;have:=qS (p:=fun v:Nat=>decide ((v:Int)∈fol ps x k)) (q:=fun v:Nat=>decide ((v:Int)∈fol ps x (k+1))) (fun v hv=>decide_eq_true (dR _ (of_decide_eq_true hv))) (l:=bL m)
      ⟨p.2.toNat,by simp;lia,by rw[bN kb.1];exact decide_eq_false h2,by
       rw[bN kb.1]
       refine decide_eq_true (cF _ (bI.mpr ⟨p,cQ.mpr ⟨hp,?_⟩,rfl⟩))
       simp[h1,h2]⟩
     lia
 rcases key m with h|h
 ·exact h
 ·have:=dM (fun v:Nat=>decide ((v:Int)∈fol ps x m)) (bL m);rw[aPk]at this
  lia
theorem aGe(hw:InW m ps)(ha:Acy ps)(hb:0<=b/\b<m)(ig:a≠b)(hs:∀p∈av,p∈ps\/p=if a∈fol ps b m then(b,a)else(a,b)):Acy av:=by
 obtain⟨r,hr⟩:=ha;by_cases h:a∈fol ps b m
 ·refine⟨r,fun p hp=>?_⟩
  rcases hs p hp with h1|h1
  ·exact hr p h1
  ·rw[if_pos h]at h1;rw[h1];rcases aFg hr h with h2|h2
   ·exact absurd h2 ig
   ·exact h2
 ·have hc:=aJY hw hb
  refine⟨fun v=>if v∈fol ps b m then r v+(r a+1)else r v,fun p hp=>?_⟩
  rcases hs p hp with h1|h1
  ·have h2:=hr p h1;dsimp only;by_cases ll:p.1∈fol ps b m
   ·rw[if_pos ll,if_pos (hc p h1 ll)];lia
   ·rw[if_neg ll];split<;>lia
  ·rw[if_neg h]at h1;rw[h1];show(if a∈fol ps b m then _ else _)<if b∈fol ps b m then _ else _
   rw[if_neg h,if_pos aKT];dsimp only
   lia
theorem aGm(hw:InW m ps)(ha:Acy ps)(hx:0<=x/\x<m)(hs:(∀p∈av,p∈ps\/p=(x,(m:Int)))\/∀p∈av,p∈ps\/p=((m:Int),x)):Acy av:=by
 obtain⟨r,hr⟩:=ha;have g:∀p∈ps,p.1≠(m:Int)/\p.2≠(m:Int):=fun p hp=>by have:=hw p hp;lia
 have mh:x≠(m:Int):=by lia
 rcases hs with hs|hs
 ·refine⟨fun v=>if v=(m:Int)then r x+1 else r v,fun p hp=>?_⟩
  rcases hs p hp with h1|h1
  ·dsimp only;rw[if_neg (g p h1).1,if_neg (g p h1).2];exact hr p h1
  ·rw[h1];show(if x=(m:Int)then _ else _)<if(m:Int)=(m:Int)then _ else _
   rw[if_neg mh,if_pos rfl];dsimp only;lia
 ·refine⟨fun v=>if v=(m:Int)then 0 else r v+1,fun p hp=>?_⟩
  rcases hs p hp with h1|h1
  ·dsimp only;rw[if_neg (g p h1).1,if_neg (g p h1).2];have:=hr p h1;lia
  ·rw[h1];show(if(m:Int)=(m:Int)then _ else _)<if x=(m:Int)then _ else _
   rw[if_neg mh,if_pos rfl];dsimp only;lia
end
end Lib
namespace K42
open PySem L2 TL Lib NF
end K42
namespace K93
open PySem L2 TL Lib
def vW:FS:=
 (fE (fM (fQ 2 gK (eU Y0 (eU (iD (fI 3) Y5) fB))) (gN 6))
  (fE (fM (gA Y6 (fIx (fL (fU (eU (fI 5) (eU Y3 fB)))) (l7 (eU (fGt Y3 (fI 1)) fB)))) (gN 7))
  (fE (fM (uC Y6 (fIx (fL (fU (eU (fI 5) (eU Y3 fB)))) (l7 (eU (fGt Y3 (fI 1)) fB)))) (gN 6))
  (fE (fM (gA Y6 (fIx (fL (fU (eU (fI 6) (eU Y3 fB)))) (l7 (eU (fGt Y3 (fI 1)) fB)))) (gN 8))
  (fE (fM (uC Y6 (fIx (fL (fU (eU (fI 6) (eU Y3 fB)))) (l7 (eU (fGt Y3 (fI 1)) fB)))) (gN 6))
  (uT Y4 (eU (fL (fU (eU (iD Y7 Y8) (eU Y7 (eU (gA Y6 (fIx (fL (fU (eU (fI 5) (eU Y3 fB)))) (l7 (eU (fGt Y3 (fI 1)) fB)))) fB))))) fB)))))))
def wR:FS:=
 (fE (aFn Y9 (eU (gA Y6 (iD Y5 (fI 1))) (eU Y5 fB)))
  (fM (uC Y6 (iD Y5 (fI 1))) (gN 6)))
def xB:FS:=
 (fE (fIf (iJ (fEq (gA Y6 (fI 2)) (fI 1))) (uT Y10 (eU (fL (fU (eU Y11 (eU (fIx Y9 Y5) fB)))) fB)) iC)
  (fM (jI Y6 (fI 2)) (gN 6)))
def yC:FS:=
 (oE (fL (fSl Y9 kF (m5 Y5))) (gN 11)
  xB)
def aAQ:FS:=
 (fE (fM (fIx (fL (fU (eU (fI 1) (eU (kU Y2 (aI2 (fI 10) (fI 9))) fB)))) (gA (jI (fQ 2 gK (eU Y0 (eU (fI 1) fB))) (fI 576)) (fI 2))) (gN 3))
  (fE (fM (iP (fU fB)) (gN 4))
  (fE (kA Y1 (gN 5)
   vW)
  (fE (fM (fQ 2 gK (eU Y0 (eU (fI 2) fB))) (gN 6))
  (fE (fM (iP (fU fB)) (gN 9))
  (fE (kA Y1 (gN 5)
   wR)
  (fE (fM (iP (fU fB)) (gN 10))
  (fE (kA Y1 (gN 5)
   yC)
  (gT (qM (eU Y4 (eU Y10 fB))))))))))))
def nW:List T->Option T:=iW aAQ 12
def aFV:FS:=
 (fE (fM (gA Y0 (fI 5)) (gN 5))
  (fE (fM (gA Y1 (fI 6)) (gN 6))
  (fE (fM (gA Y2 (fI 5)) (gN 7))
  (fE (fIf (iJ (fEq Y3 (fI 1))) (fE (fM (iD (kU Y0 Y4) (gA Y1 (fI 97))) (gN 5))
  (fE (fM (kU (kU Y1 Y4) (l7 (eU (fGt (gA Y1 (fI 4)) (fI 0)) fB))) (gN 6))
  (fM (iD (kU Y2 Y4) (gA Y0 (fI 89))) (gN 7)))) iC)
  (fE (fIf (iJ (fEq Y3 (fI 2))) (fE (fM (kU (gA Y1 (fI 3)) (gA (jI Y1 (fI 3)) (fI 50))) (gN 6))
  (fM (fIx (fL (fU (eU (fI 0) (eU (fI 3) (eU (fI 3) (eU (iD (fI 1) (gA Y2 (fI 40))) fB)))))) (gA (jI Y2 (fI 64)) (fI 4))) (gN 7))) iC)
  (fE (fIf (nU (iJ (fEq Y3 (fI 3))) (iJ (fEq (gA Y0 (fI 3)) (fI 0)))) (fM (fI 0) (gN 5)) iC)
  (gT (fL (fU (eU (iD Y5 Y6) (eU Y5 (eU Y7 fB))))))))))))
def wB:List T->Option T:=iW aFV 8
def aEW:FS:=
 (fIf (iJ (fGt Y6 (fI 1))) (fE (fM (iD (fI 1) (gA (fIx Y3 Y11) (qW Y6 (fI 1)))) (gN 12))
  (fE (fM (gA (jI (fIx Y3 Y11) (fI 16)) (oR (eU Y12 (eU (fIx (fL (fU (eU (fI 1) (eU (fI 2) (eU (fI 8) fB))))) (gA (jI Y7 (fI 16)) (fI 3))) fB)))) (gN 13))
  (fE (fM (fIx (fL (fU (eU (qW (qW Y12 (fI 1)) Y13) (eU Y13 fB)))) (gA (jI Y7 (fI 48)) (fI 2))) (gN 14))
  (aFn Y10 (eU (gA (jI (fIx Y3 Y11) (fI 256)) (iD (n6 (eU Y10 fB)) (fI 1))) (eU (fL (fU (eU (fIx Y9 Y14) (eU (fIx Y9 Y12) fB)))) fB)))))) iC)
def aJg:FS:=
 (fE (fM (fQ 1 lK (eU Y0 fB)) (gN 3))
  (fE (fM (fQ 2 gK (eU Y0 (eU (fI 0) fB))) (gN 4))
  (fE (fM (gA (jI Y4 (fI 4)) (oR (eU (fI 6) (eU (iD Y1 (fI 1)) fB)))) (gN 5))
  (fE (fM (fIx (fL (fU (eU Y5 (eU (qW Y1 (fIx (fL (fU (eU (fI 0) (eU (fI 0) (eU (fI 1) (eU (fI 2) fB)))))) (gA (jI Y4 (fI 4)) (fI 4)))) (eU Y5 (eU (oR (eU Y1 (eU (iD (fI 3) (gA (jI Y4 (fI 4)) (fI 3))) fB))) fB)))))) (gA Y4 (fI 4))) (gN 6))
  (fE (fM (fQ 2 gK (eU Y0 (eU (fI 1) fB))) (gN 7))
  (fE (fIf (iJ (fEq (gA (jI Y7 (fI 288)) (fI 2)) (fI 1))) (gT (fQ 3 nW (eU Y0 (eU (oR (eU Y6 (eU (fIx (fL (fU (eU (fI 5) (eU (fI 3) fB)))) (l7 (eU (fLt Y1 (fI 5)) fB))) fB))) (eU Y2 fB))))) iC)
  (fE (fM (fL (jO Y6 1 [3,7,2] (gN 0) gS (fQ 5 wB (eU (fIx Y1 Y0) (eU (fIx Y1 (iD (fI 8) Y0)) (eU (fIx Y1 (iD (fI 16) Y0)) (eU (gA Y2 (fI 4)) (eU Y3 fB)))))))) (gN 8))
  (fE (fM (fQ 2 lU (eU (fIx Y3 (fI 39)) (eU Y6 fB))) (gN 9))
  (fE (fM (iP (fU fB)) (gN 10))
  (fE (o8 (fI 24) (iD (fI 24) (oR (eU (fI 14) (eU (iD Y6 (gA (jI Y7 (fI 4)) (fI 4))) fB)))) (gN 11)
   aEW)
  (gT (qM (eU Y8 (eU (fL (fSl Y10 (m5 (gA (jI Y7 (fI 96)) (fI 3))) kF)) fB))))))))))))))
def sO:List T->Option T:=iW aJg 15
def aBD:FS:=
 (fE (fM (fQ 2 p8 (eU Y0 (eU Y1 fB))) (gU [3,4]))
  (gT (iD Y3 (gA (kU (fQ 2 iX (eU Y2 (eU (fI 70) fB))) (aI2 (fQ 2 iX (eU Y2 (eU (fI 71) fB))) (fI 3))) (iD (qW Y4 Y3) (fI 1))))))
def lW:List T->Option T:=iW aBD 5
def vO:FS:=
 (fE (fM (fQ 3 lW (eU Y2 (eU Y3 (eU Y4 fB)))) (gN 5))
  (fE (fM (fQ 3 gD (eU Y0 (eU Y1 (eU Y5 fB)))) (gN 6))
  (fE (fM (fQ 3 gD (eU Y2 (eU Y3 (eU Y5 fB)))) (gN 7))
  (gT (uF (fQ 1 p5 (eU Y6 fB)) (uF (fQ 1 p5 (eU Y7 fB)) (fGe Y7 Y6)))))))
def jJ:List T->Option T:=iW vO 8
def t7:FS:=
 (fM (fL (xK Y4 (fL (jP Y1 2 [4] (gU [0,1]) (nU (iJ (fIn Y0 Y2)) (iJ (aG1 Y1 Y2))) Y1)))) (gN 4))
def z5:FS:=
 (fE (fM (fL (fU (eU Y2 fB))) (gN 4))
  (fE (kA Y0 (gN 5)
   t7)
  (gT (fIn Y3 Y4))))
def mK:List T->Option T:=iW z5 6
def aCw:FS:=
 (fE (fM (fQ 2 gK (eU Y2 (eU (fI 2) fB))) (gN 3))
  (fE (fM (n6 (eU Y0 fB)) (gN 4))
  (fE (fIf (iJ (fGt Y4 (fI 1))) (fE (fM (gA (jI Y3 (fI 2)) Y4) (gN 5))
  (fE (fM (gA (iD (iD Y5 (fI 1)) (gA (jI Y3 (fI 16)) (qW Y4 (fI 1)))) Y4) (gN 6))
  (fE (fIf (nY (fQ 4 mK (eU Y4 (eU Y1 (eU Y6 (eU Y5 fB)))))) (aCD 5 6 (eU Y6 (eU Y5 fB))) iC)
  (fE (fM (gA (jI Y3 (fI 128)) (iD (n6 (eU Y1 fB)) (fI 1))) (gN 7))
  (fIf (oU (nY (fQ 5 jJ (eU Y0 (eU Y1 (eU Y0 (eU (fL (xK (fL (xK (fL (fSl Y1 kF (m5 Y7))) (fL (fU (eU (fL (fU (eU Y5 (eU Y6 fB)))) fB))))) (fL (fSl Y1 (m5 Y7) kF)))) (eU Y3 fB)))))))) (gT (fC (.bl false))) iC))))) iC)
  (fE (fM (fQ 2 iX (eU Y3 (eU (fI 73) fB))) (gN 8))
  (fE (fM (fL (xK Y0 (fL (fU (eU (fL (fU (eU (gA Y8 (fI 7)) (eU (uC (gA Y8 (fI 7)) (iD (fI 1) (gA (jI Y8 (fI 8)) (fI 3)))) (eU (gA (jI Y8 (fI 32)) (fI 6)) fB))))) fB))))) (gN 9))
  (fE (fM (fL (aIr (eU Y1 fB))) (gN 10))
  (fE (fIf (nU (iJ (fGt Y4 (fI 0))) (iJ (fGt (gA (jI Y8 (fI 256)) (fI 3)) (fI 0)))) (fM (fL (xK Y10 (fL (fU (eU (fIx (fL (fU (eU (fL (fU (eU (gA (jI Y8 (fI 1024)) Y4) (eU Y4 fB)))) (eU (fL (fU (eU Y4 (eU (gA (jI Y8 (fI 1024)) Y4) fB)))) fB)))) (qW (gA (jI Y8 (fI 256)) (fI 3)) (fI 1))) fB))))) (gN 10)) iC)
  (gT (fQ 5 jJ (eU Y0 (eU Y1 (eU Y9 (eU Y10 (eU (jI Y3 (fI 2)) fB))))))))))))))
def pR:List T->Option T:=iW aCw 11
def aDH:FS:=
 (oY (fL (aIr (eU (fIx Y1 Y9) fB))) Y8 (fIx Y7 Y9))
def aKS:FS:=
 (fE (fM (fQ 3 sO (eU Y0 (eU (fI 7) (eU (aI2 (fI 10) (fI 18)) fB)))) (gU [1,2]))
  (fE (fM (fQ 2 gK (eU Y0 (eU (fI 2) fB))) (gN 3))
  (fE (fM (n6 (eU Y1 fB)) (gN 4))
  (fE (fIf (oU (nY (fQ 3 pR (eU Y1 (eU Y2 (eU Y0 fB)))))) (gT (fC (.bl false))) iC)
  (fE (fM (fQ 3 lW (eU Y1 (eU Y2 (eU (jI Y3 (fI 3)) fB)))) (gN 5))
  (fE (fM (fQ 3 gD (eU Y1 (eU Y2 (eU Y5 fB)))) (gN 6))
  (fE (fM (fQ 2 lU (eU (fQ 2 iX (eU Y3 (eU (fI 74) fB))) (eU Y4 fB))) (gN 7))
  (fE (fM (iP (jO Y4 1 [] (gN 0) gS (fL (fU fB)))) (gN 8))
  (fE (kA Y4 (gN 9)
   aDH)
  (fE (fIf (iJ (fNe (fQ 3 gD (eU Y8 (eU (fL (jP Y2 2 [7] (gU [0,1]) gS (fL (fU (eU (fIx Y2 Y0) (eU (fIx Y2 Y1) fB)))))) (eU Y5 fB)))) Y6)) (gT (fC (.bl false))) iC)
  (fE (fM (iD (fI 2) (gA Y3 (fI 8))) (gN 10))
  (fE (fM (fL (jP Y1 3 [10] (gU [0,1,2]) gS (fL (fU (eU (kU Y3 Y0) (eU (kU Y3 Y1) (eU Y2 fB))))))) (gN 11))
  (fE (fIf (iJ (fNe (fQ 3 gD (eU Y11 (eU Y2 (eU (kU Y10 Y5) fB)))) (kU Y10 Y6))) (gT (fC (.bl false))) iC)
  (fE (fM (fL (jP Y1 3 [10] (gU [0,1,2]) gS (fL (fU (eU Y0 (eU Y1 (eU (kU Y3 Y2) fB))))))) (gN 12))
  (gT (fEq (fQ 3 gD (eU Y12 (eU Y2 (eU Y5 fB)))) (kU Y10 Y6)))))))))))))))))
def aEj:List T->Option T:=iW aKS 13
end K93
namespace K93
open PySem L2 TL Lib NF
theorem aF1:sO=Lib.aDF:=rfl
section
variable {ws ax:List (Int×Int×Int)}{ps av:List (Int×Int)}{nd cr:List (List Int)}{bs fs lx gw:List Int}{z y z' y':Int}
theorem aDA(L:Lot ws ps nd bs fs z y){c:Int}:∃e,lW [.lst (ws.map w3),.lst (ps.map pT),.int c]=some (.int e)/\z<=e/\e<=y:=by
 have w4:∀{C Q},wpO (gY 2 p8 [.lst (ws.map w3),.lst (ps.map pT)] C) Q↔Q (.tup [.int z,.int y]) C:=fN L.en rfl K42.aK7;have hzy:=L.zy;have wc:Sm (kH c 71):=wW;have hd0:Sm (kH c 70):=wW;have m1:Bt 20 (70:Int):=.sml (by lia) (by lia) (by decide);have m2:Bt 20 (71:Int):=.sml (by lia) (by lia) (by decide);have hm:0<=kH c 70*kH c 71^eN 3%(y - z+1)/\kH c 70*kH c 71^eN 3%(y - z+1)<y - z+1:=⟨dX _ (by lia),dN _ (by lia)⟩
 refine⟨z+kH c 70*kH c 71^eN 3%(y - z+1),?_,by lia,by lia⟩
 apply hJ;unfold aBD;walk_at "b";simp_arith[↓eZ,↓eY,↓w4,↓nQ];have bd1:Bt 31 (kH c 71):=Bt.of_lt wc.1 (dB wc.2 (by decide));have bd0:Bt 31 (kH c 70):=Bt.of_lt hd0.1 (dB hd0.2 (by decide));have bp:Bt (31+31+31) (kH c 71^eN 3):=by
  rw[show kH c 71^eN 3=kH c 71*kH c 71*kH c 71 by show kH c 71^3=_;rw[aPW,aPW,aPW,Int.pow_zero,aQw]]
  exact(bd1.mul bd1).mul bd1
 have hn1:(kH c 71).natAbs<2^64:=by
  have h1:=wc.1;have h2:=wc.2
  lia
 exact⟨decide_eq_true ⟨by decide,by decide,hn1⟩,mP bd0 bp (by decide),decide_eq_true (by lia),iH fY⟩
theorem zT(L:Lot ws ps nd bs fs z y)(L':Lot ax av cr lx gw z' y'){c:Int}(hp:∀e b h,Pl ax av e b h->∃b' h',Pl ws ps e b' h'/\cst ws h'<=cst ax h):
 jJ [.lst (ws.map w3),.lst (ps.map pT),.lst (ax.map w3),.lst (av.map pT),.int c]=some (.bl true):=by
 obtain⟨e,h1,h2,h3⟩:=aDA L' (c:=c);have he:e<2^300:=by have:=L'.yb;lia
 obtain⟨q',e2,A'⟩:=(k6 L' he).2 h2;have hz:z<=e:=by
  obtain⟨b,h,p,_⟩:=A'.plan L'.g;obtain⟨b',h',p',_⟩:=hp e b h p
  exact L.pl_z p' (by have:=L'.z0;lia)
 obtain⟨q,e1,A⟩:=(k6 L he).2 hz;have hle:q<=q':=by
  obtain⟨b,h,p,rfl⟩:=A'.plan L'.g;obtain⟨b',h',p',hc⟩:=hp e b h p
  exact dQ (A.le L.g p') hc
 have w1:∀{C Q},wpO (gY 3 lW [.lst (ax.map w3),.lst (av.map pT),.int c] C) Q↔Q (.int e) C:=fN h1 rfl K42.o0;have w2:∀{C Q},wpO (gY 3 gD [.lst (ws.map w3),.lst (ps.map pT),.int e] C) Q↔Q (.int q) C:=fN e1 rfl K42.o0;have w3':∀{C Q},wpO (gY 3 gD [.lst (ax.map w3),.lst (av.map pT),.int e] C) Q↔Q (.int q') C:=fN e2 rfl K42.o0;apply hJ;unfold vO;walk_at "b";simp_arith[↓eZ,↓eY,↓w1,↓w2,↓w3',↓aE1];simp[hle];try exact iH kY
theorem aGK{m:Nat}{x y:Int}(hm:m<=8)(hl:ps.length<=63):mK [.int m,.lst (ps.map pT),.int x,.int y]=some (.bl (decide (y∈fol ps x m))):=by
 apply hJ;unfold z5;walk_at "b";simp_arith[↓eZ,↓eY]
 refine⟨by decide,by lia,lO (fun i τ C=>C=[]/\∃a:Option T,τ=[some (.int m),some (.lst (ps.map pT)),some (.int x),some (.int y),some (.lst ((fol ps x i).map T.int)),a]) ⟨rfl,_,rfl⟩ ?_ ?_⟩
 ·rintro i τ C hi ⟨rfl,a,rfl⟩;unfold t7;simp_arith[↓eZ,↓eY];have oz:=aJh (x:=x) (k:=i) hl
  refine⟨sS (by simpa using cA hl (by decide)),rO (fun p=>decide (p.1∈fol ps x i)&& !decide (p.2∈fol ps x i)) (fun p=>T.int p.2) (fun p _=>?_) ?_⟩
  ·simp only[scT,aS,aM,bB,aW,aT,aV,bP,bR,b8];simp_arith[↓eZ,↓eY,pT];by_cases g:p.1∈fol ps x i
   ·rw[if_pos (by simpa using g)];simp[g]
   ·rw[if_neg (by simpa using g)];simp[g]
  ·have hfl:=cA (dM (fun p=>decide (p.1∈fol ps x i)&& !decide (p.2∈fol ps x i)) ps) hl
   refine⟨?_,rfl,some (T.int (0+(i:Int))),?_⟩
   ·unfold lim;simp only[aP];lia
   ·rw[show((ps.filter fun p=>decide (p.1∈fol ps x i)&& !decide (p.2∈fol ps x i)).map fun p=>T.int p.2)=((ps.filter fun p=>decide (p.1∈fol ps x i)&& !decide (p.2∈fol ps x i)).map (·.2)).map T.int by rw[b7];rfl,<-bV];rfl
 ·rintro τ C ⟨rfl,a,rfl⟩;simp_arith[↓eZ,↓eY];rw[cE]
  exact iH kY
end
end K93
namespace K93
open PySem L2 TL Lib NF
variable{G:FS}{Q:TL.Fl->TSt->Sto->Prop}{ga:FB}
theorem g8{F:FS}{τ:TSt}{C:Sto}(P:TSt->Sto->Prop)(h1:wpS F τ C fun l aq C1=>l=.nx/\P aq C1)(h2:∀aq C1,P aq C1->wpS G aq C1 Q):wpS (fE F G) τ C Q:=by
 obtain⟨l,aq,C1,e,rfl,p⟩:=h1;obtain⟨l2,ap,C2,e2,q⟩:=h2 aq C1 p
 exact fO.mpr ⟨_,_,_,e,l2,ap,C2,e2,q⟩
theorem nX{F:FS}{τ:TSt}{C:Sto}(h1:wpB ga τ C fun x C1=>x=false/\C1=C)(h2:wpS G τ C Q):wpS (fIf ga F G) τ C Q:=by
 obtain⟨x,C1,e,rfl,rfl⟩:=h1
 exact l6.mpr ⟨_,_,e,h2⟩
theorem aAF{F:FS}{τ:TSt}{C:Sto}(h1:wpB ga τ C fun x C1=>x=true/\C1=C)(h2:wpS F τ C Q):wpS (fIf ga F G) τ C Q:=by
 obtain⟨x,C1,e,rfl,rfl⟩:=h1
 exact l6.mpr ⟨_,_,e,h2⟩
section
variable {ws:List (Int×Int×Int)}{ps:List (Int×Int)}{nd:List (List Int)}{bs fs:List Int}{z y:Int}{ns:List Int}
variable{c:Int}{w:Int×Int×Int}
theorem more1(L:Lot ws ps nd bs fs z y)(h60:ps.length<=60){a b:Int}{k:Nat}(ha:0<=a/\a<ws.length)(hb:0<=b/\b<ws.length)(ig:a≠b):
 jJ [.lst (ws.map w3),.lst (ps.map pT),.lst (ws.map w3),.lst ((ps.take k++[if a∈fol ps b ws.length then(b,a)else(a,b)]++ps.drop k).map pT),.int c]=some (.bl true):=by
 have iz:∀p,p∈ps.take k++[if a∈fol ps b ws.length then(b,a)else(a,b)]++ps.drop k->p∈ps\/p=if a∈fol ps b ws.length then(b,a)else(a,b):=fun p hp=>by
  simp only[bK,bO]at hp;rcases hp with(hp|hp)|hp
  ·exact .inl (aO1 hp)
  ·exact .inr hp
  ·exact .inl (aPC hp)
 obtain⟨cr,lx,gw,z',y',L'⟩:=Lot.of (ws:=ws) (ps:=ps.take k++[if a∈fol ps b ws.length then(b,a)else(a,b)]++ps.drop k) L.g.l8 (by simp only[bA,d7,aOW,aN,aQ];lia) (fun p hp=>by
  rcases iz p hp with h|h
  ·exact L.g.inw p h
  ·rw[h];split<;>exact⟨by assumption,by assumption⟩) (aGe L.g.inw L.g.acy hb ig iz) L.g.ok
 exact zT L L' fun e b' h p=>⟨b',h,⟨p.b0,p.lh,p.hu,p.en,fun x hx=>p.ne x (by
  rw[<-aPw k ps]at hx;simp only[bK,bO];rcases bK.mp hx with hx|hx
  ·exact .inl (.inl hx)
  ·exact .inr hx)⟩,b4 _⟩
theorem aCH{i:Nat}(hi:i<ws.length):((ws++[w])[i]?).getD (0,0,0)=(ws[i]?).getD (0,0,0):=by rw[aY hi]
theorem more2(L:Lot ws ps nd bs fs z y)(h7:ws.length<=7)(hw:tV w){av:List (Int×Int)}(hs:∀p∈ps,p∈av)(hl:av.length<=63)(hi:InW (ws.length+1) av)(ha:Acy av):
 jJ [.lst (ws.map w3),.lst (ps.map pT),.lst ((ws++[w]).map w3),.lst (av.map pT),.int c]=some (.bl true):=by
 have oz:(ws++[w]).length=ws.length+1:=by simp
 obtain⟨cr,lx,gw,z',y',L'⟩:=Lot.of (ws:=ws++[w]) (ps:=av) (by rw[oz];lia) hl (by rw[oz];exact hi) ha (fun x hx=>by
  rcases bK.mp hx with hx|hx
  ·exact L.g.ok x hx
  ·rw[bO.mp hx];exact hw)
 refine zT L L' fun e b h p=>⟨b,h,⟨fun i hi=>p.b0 i (by lia),fun i hi=>?_,fun i hi=>?_,fun i hi=>p.en i (by lia),fun x hx=>p.ne x (hs x hx)⟩,?_⟩
 ·have:=p.lh i (by lia);unfold fT at this|-;dsimp only at this|-;rw[aCH hi]at this
  exact this
 ·have:=p.hu i (by lia);unfold fT at this|-;dsimp only at this|-;rw[aCH hi]at this
  exact this
 ·unfold cst;rw[oz];show _<=sm ws.length _+_;have e1:(sm ws.length fun i=>(fT (ws++[w])).p i*((fT (ws++[w])).u i - h i))=sm ws.length fun i=>(fT ws).p i*((fT ws).u i - h i):=iF fun i hi=>by
   unfold fT;dsimp only;rw[aCH hi]
  rw[e1];have h1:=p.hu ws.length (by lia);have h2:0<=(fT (ws++[w])).p ws.length:=by
   show 0<=(((ws++[w])[ws.length]?).getD (0,0,0)).2.2;rw[bH (bG _),dH]
   exact hw.2.2.1
  have:=cO h2 (show 0<=(fT (ws++[w])).u ws.length - h ws.length by lia);dsimp only
  lia
theorem aI3{m a j:Int}(hm:1<m)(ha:0<=a/\a<m)(hj:0<=j/\j<m - 1):a≠(a+1+j)%m/\0<=(a+1+j)%m/\(a+1+j)%m<m:=by
 have h1:0<=(a+1+j)%m:=dX _ (by lia);have h2:(a+1+j)%m<m:=dN _ (by lia)
 refine⟨fun h=>?_,h1,h2⟩
 by_cases hc:a+1+j<m
 ·rw[aPX (by lia) hc]at h;lia
 ·rw[<-Int.sub_emod_right,aPX (by lia) (by lia)]at h;lia
end
end K93
namespace K93
open PySem L2 TL Lib NF
theorem aIG{i j:Nat}{fr:FN}{τ:TSt}{C:Sto}{Q:TL.Fl->TSt->Sto->Prop}(h:wpA fr τ C fun ts C1=>∃t u,ts=[t,u]/\Q .nx ((τ.set i (some t)).set j (some u)) C1):wpS (aCD i j fr) τ C Q:=by
 obtain⟨ts,C1,e,t,u,rfl,q⟩:=h
 refine⟨_,_,_,?_,q⟩
 unfold aCD;rw[e];rfl
section
variable {ws:List (Int×Int×Int)}{ps:List (Int×Int)}{nd:List (List Int)}{bs fs:List Int}{z y:Int}{ns:List Int}
abbrev sM(ws:List (Int×Int×Int))(ps:List (Int×Int))(ns:List Int)(c:Int)(r:TSt):TSt:=[some (.lst (ws.map w3)),some (.lst (ps.map pT)),some (.lst (ns.map T.int)),some (.int c),some (.int ws.length)]++r
theorem cf5{ax:List (Int×Int×Int)}{av:List (Int×Int)}{c:Int}:CFs [T.lst (ws.map w3),.lst (ps.map pT),.lst (ax.map w3),.lst (av.map pT),.int c]=true:=by rw[fH,fH,fH,fH,fH,f7,fW,fW,fW,fW,fY,lY,j6,lY,j6];rfl
theorem part1(L:Lot ws ps nd bs fs z y)(h60:ps.length<=60){c:Int}:wpS (fIf (iJ (fGt Y4 (fI 1))) (fE (fM (gA (jI Y3 (fI 2)) Y4) (gN 5))
 (fE (fM (gA (iD (iD Y5 (fI 1)) (gA (jI Y3 (fI 16)) (qW Y4 (fI 1)))) Y4) (gN 6))
 (fE (fIf (nY (fQ 4 mK (eU Y4 (eU Y1 (eU Y6 (eU Y5 fB)))))) (aCD 5 6 (eU Y6 (eU Y5 fB))) iC)
 (fE (fM (gA (jI Y3 (fI 128)) (iD (n6 (eU Y1 fB)) (fI 1))) (gN 7))
 (fIf (oU (nY (fQ 5 jJ (eU Y0 (eU Y1 (eU Y0 (eU (fL (xK (fL (xK (fL (fSl Y1 kF (m5 Y7))) (fL (fU (eU (fL (fU (eU Y5 (eU Y6 fB)))) fB))))) (fL (fSl Y1 (m5 Y7) kF)))) (eU Y3 fB)))))))) (gT (fC (.bl false))) iC))))) iC)
 (sM ws ps ns c [none,none,none,none,none,none]) [] fun l ag C'=>l=.nx/\C'=[]/\∃a b d,ag=sM ws ps ns c [a,b,d,none,none,none]:=by
 have hm8:=L.g.l8;by_cases hm:(1:Int)<ws.length
 ·refine aAF (by simp_arith[↓eZ,↓eY]<;>simp[hm]) ?_
  have ha:0<=c/2%(ws.length:Int)/\c/2%(ws.length:Int)<ws.length:=⟨dX _ (by lia),dN _ (by lia)⟩;have hj:0<=c/16%((ws.length:Int) - 1)/\c/16%((ws.length:Int) - 1)<ws.length - 1:=⟨dX _ (by lia),dN _ (by lia)⟩;have ig:=aI3 hm ha hj;have hk:0<=c/128%((ps.length:Int)+1):=dX _ (by lia);have w2:∀{C Q},wpO (gY 4 mK [.int ws.length,.lst (ps.map pT),.int ((c/2%(ws.length:Int)+1+c/16%((ws.length:Int) - 1))%(ws.length:Int)),.int (c/2%(ws.length:Int))] C) Q↔Q (.bl (decide (c/2%(ws.length:Int)∈fol ps ((c/2%(ws.length:Int)+1+c/16%((ws.length:Int) - 1))%(ws.length:Int)) ws.length))) C:=fN (aGK hm8 (by lia)) rfl (by rw[fH,fH,fH,fH,f7,fY,fW,j6];rfl)
  refine g8 (fun τ C=>C=[]/\τ=sM ws ps ns c [some (.int (c/2%(ws.length:Int))),none,none,none,none,none]) ?_ ?_
  ·simp_arith[↓eZ,↓eY]
   exact⟨by decide,decide_eq_true (by lia)⟩
  rintro _ _ ⟨rfl,rfl⟩
  refine g8 (fun τ C=>C=[]/\τ=sM ws ps ns c [some (.int (c/2%(ws.length:Int))),some (.int ((c/2%(ws.length:Int)+1+c/16%((ws.length:Int) - 1))%(ws.length:Int))),none,none,none,none]) ?_ ?_
  ·simp_arith[↓eZ,↓eY]
   exact⟨by decide,decide_eq_true (by lia),decide_eq_true (by lia)⟩
  rintro _ _ ⟨rfl,rfl⟩;generalize c/2%(ws.length:Int)=a at*;generalize (a+1+c/16%((ws.length:Int) - 1))%(ws.length:Int)=b at*;generalize tw:c/128%((ps.length:Int)+1)=k at*
  refine g8 (fun τ C=>C=[]/\∃a' b',(a',b')=(if a∈fol ps b ws.length then(b,a)else(a,b))/\τ=sM ws ps ns c [some (.int a'),some (.int b'),none,none,none,none]) ?_ ?_
  ·by_cases hl:a∈fol ps b ws.length
   ·refine aAF (by simp_arith[↓eZ,↓eY,↓w2];simp[hl];rfl) (aIG (fF.mpr (e9.mpr ⟨_,rfl,fF.mpr (e9.mpr ⟨_,rfl,fS.mpr ⟨_,_,rfl,rfl,rfl,b,a,by rw[if_pos hl],rfl⟩⟩)⟩)))
   ·exact nX (by simp_arith[↓eZ,↓eY,↓w2];simp[hl];rfl) (iL.mpr ⟨rfl,rfl,a,b,by rw[if_neg hl],rfl⟩)
  rintro _ _ ⟨rfl,a',b',ou,rfl⟩
  refine g8 (fun τ C=>C=[]/\τ=sM ws ps ns c [some (.int a'),some (.int b'),some (.int k),none,none,none]) ?_ ?_
  ·simp_arith[↓eZ,↓eY,aP];rw[tw]
   exact⟨by decide,decide_eq_true (by lia),rfl⟩
  rintro _ _ ⟨rfl,rfl⟩;have md:=more1 L h60 (a:=a) (b:=b) (c:=c) (k:=k.toNat) ha ig.2 ig.1;rw[<-ou]at md;have w5:∀{C Q},wpO (gY 5 jJ [.lst (ws.map w3),.lst (ps.map pT),.lst (ws.map w3),.lst ((ps.take k.toNat++[(a',b')]++ps.drop k.toNat).map pT),.int c] C) Q↔Q (.bl true) C:=fN md rfl cf5
  refine nX ?_ (iL.mpr ⟨rfl,rfl,_,_,_,rfl⟩)
  simp_arith[↓eZ,↓eY,rS];rw[aAP hk,zN hk,show aPT pT (ps.take k.toNat)++[T.lst [T.int a',T.int b']]++aPT pT (ps.drop k.toNat)=(ps.take k.toNat++[(a',b')]++ps.drop k.toNat).map pT by simp[pT]]
  refine⟨by decide,by decide,?_,?_,w5.mpr ⟨true,rfl,rfl,rfl⟩⟩
  ·unfold lim;simp;lia
  ·unfold lim;simp;lia
 ·exact nX (by simp_arith[↓eZ,↓eY]<;>simp[hm]) (iL.mpr ⟨rfl,rfl,_,_,_,rfl⟩)
theorem aIT(L:Lot ws ps nd bs fs z y)(h7:ws.length<=7)(h60:ps.length<=60):pR [.lst (ws.map w3),.lst (ps.map pT),.lst (ns.map T.int)]=some (.bl true):=by
 apply hJ;unfold aCw;walk_at "b";generalize hc:lS ns 2=c
 refine g8 (fun τ C=>C=[]/\τ=[some (.lst (ws.map w3)),some (.lst (ps.map pT)),some (.lst (ns.map T.int)),some (.int c),none,none,none,none,none,none,none]) ?_ ?_
 ·simp_arith[↓eZ,↓eY,↓lV,hc]
 rintro _ _ ⟨rfl,rfl⟩
 refine g8 (fun τ C=>C=[]/\τ=sM ws ps ns c [none,none,none,none,none,none]) ?_ ?_
 ·simp_arith[↓eZ,↓eY,aP]
 rintro _ _ ⟨rfl,rfl⟩
 refine g8 (fun τ C=>C=[]/\∃a b d,τ=sM ws ps ns c [a,b,d,none,none,none]) (part1 L h60) ?_
 rintro _ _ ⟨rfl,a,b,d,rfl⟩;have m1:Bt 20 (73:Int):=.sml (by lia) (by lia) (by decide);have hn:Sm (kH c 73):=wW
 refine g8 (fun τ C=>C=[]/\τ=sM ws ps ns c [a,b,d,some (.int (kH c 73)),none,none]) ?_ ?_
 ·simp_arith[↓eZ,↓eY,↓nQ]
 rintro _ _ ⟨rfl,rfl⟩;generalize kH c 73=n at hn;have vy:=hn.1;have hu:=iB (x:=n) (m:=7) (by decide);have hd:=iB (x:=n/8) (m:=3) (by decide);have hp:=iB (x:=n/32) (m:=6) (by decide);have hl:0<=n%7/(1+n/8%3)/\n%7/(1+n/8%3)<=n%7:=by
  refine⟨Int.ediv_nonneg hu.1 (by lia),?_⟩
  exact Int.ediv_le_self _ hu.1
 have hw:tV (n%7,n%7/(1+n/8%3),n/32%6):=⟨hl.1,hl.2,hp.1,by show n%7<2^252;lia,by show n/32%6<2^252;lia⟩
 refine g8 (fun τ C=>C=[]/\τ=sM ws ps ns c [a,b,d,some (.int n),some (.lst ((ws++[(n%7,n%7/(1+n/8%3),n/32%6)]).map w3)),none]) ?_ ?_
 ·simp_arith[↓eZ,↓eY,aP]
  exact⟨by decide,by decide,by decide,by decide,decide_eq_true ⟨by lia,dB (by lia:1+n/8%3<4) (by decide)⟩,by decide,by decide,by decide,by decide,by unfold lim;lia,by simp[w3]⟩
 rintro _ _ ⟨rfl,rfl⟩
 refine g8 (fun τ C=>C=[]/\τ=sM ws ps ns c [a,b,d,some (.int n),some (.lst ((ws++[(n%7,n%7/(1+n/8%3),n/32%6)]).map w3)),some (.lst (ps.map pT))]) ?_ ?_
 ·simp_arith[↓eZ,↓eY]
 rintro _ _ ⟨rfl,rfl⟩;generalize (n%7,n%7/(1+n/8%3),n/32%6)=w at hw
 refine g8 (fun τ C=>C=[]/\∃av:List (Int×Int),τ=sM ws ps ns c [a,b,d,some (.int n),some (.lst ((ws++[w]).map w3)),some (.lst (av.map pT))]/\(∀p∈ps,p∈av)/\av.length<=63/\InW (ws.length+1) av/\Acy av) ?_ ?_
 ·have hI:InW (ws.length+1) ps:=fun p hp=>by have:=L.g.inw p hp;lia
  by_cases hc:(0:Int)<ws.length/\0<n/256%3
  ·refine aAF (by
    simp_arith[↓eZ,↓eY];simp[hc.2];have:=hc.1
    lia) ?_
   have hx:0<=n/1024%(ws.length:Int)/\n/1024%(ws.length:Int)<ws.length:=⟨dX _ (by lia),dN _ (by lia)⟩;have h12:n/256%3=1\/n/256%3=2:=by lia
   obtain⟨pr,he,ou⟩:∃pr:Int×Int,atI [T.lst [.int (n/1024%(ws.length:Int)),.int ws.length],T.lst [.int ws.length,.int (n/1024%(ws.length:Int))]] (n/256%3 - 1)=some (pT pr)/\(pr=(n/1024%(ws.length:Int),(ws.length:Int))\/pr=((ws.length:Int),n/1024%(ws.length:Int))):=by
    rcases h12 with h|h
    ·exact⟨_,by rw[h];rfl,.inl rfl⟩
    ·exact⟨_,by rw[h];rfl,.inr rfl⟩
   simp_arith[↓eZ,↓eY,↓fJ he,aP];have yu:∃av:List (Int×Int),sM ws ps ns c [a,b,d,some (.int n),some (.lst ((ws++[w]).map w3)),some (.lst (ps.map pT++[pT pr]))]=sM ws ps ns c [a,b,d,some (.int n),some (.lst ((ws++[w]).map w3)),some (.lst (av.map pT))]/\(∀p∈ps,p∈av)/\av.length<=63/\InW (ws.length+1) av/\Acy av:=by
    refine⟨ps++[pr],by rw[show(ps++[pr]).map pT=ps.map pT++[pT pr]by simp],fun p hp=>dR _ hp,by rw[bA,aPv];lia,fun p hp=>?_,?_⟩
    ·rcases bK.mp hp with hp|hp
     ·exact hI p hp
     ·rw[bO.mp hp];rcases ou with rfl|rfl<;>dsimp only<;>lia
    ·refine aGm L.g.inw L.g.acy hx ?_
     rcases ou with rfl|rfl
     ·exact .inl fun p hp=>by
       rcases bK.mp hp with hp|hp
       ·exact .inl hp
       ·exact .inr (bO.mp hp)
     ·exact .inr fun p hp=>by
       rcases bK.mp hp with hp|hp
       ·exact .inl hp
       ·exact .inr (bO.mp hp)
   exact⟨by decide,decide_eq_true hc.1,by decide,by decide,decide_eq_true hc.1,by decide,by decide,by decide,by decide,by decide,by unfold lim;lia,yu⟩
  ·refine nX (by
    simp_arith[↓eZ,↓eY];split
    ·rename_i h
     exact⟨by decide,by decide,decide_eq_false fun g=>hc ⟨of_decide_eq_true h,g⟩⟩
    ·trivial) (iL.mpr ⟨rfl,rfl,ps,rfl,fun p hp=>hp,by lia,hI,L.g.acy⟩)
 rintro _ _ ⟨rfl,av,rfl,h1,h2,h3,h4⟩;have w5:∀{C Q},wpO (gY 5 jJ [.lst (ws.map w3),.lst (ps.map pT),.lst ((ws++[w]).map w3),.lst (av.map pT),.int (c/2)] C) Q↔Q (.bl true) C:=fN (more2 L h7 hw h1 h2 h3 h4) rfl cf5;simp_arith[↓eZ,↓eY,↓w5]
 exact⟨by decide,iH kY⟩
end
end K93
namespace K93
open PySem L2 TL Lib NF
theorem lot93{ns:List Int}(hl:ns.length<=63):∃ws ps nd bs fs z y,aDF [.lst (ns.map T.int),.int 7,.int (10^18)]=some (.tup [.lst (ws.map w3),.lst (ps.map pT)])/\Lot ws ps nd bs fs z y/\ws.length<=7/\ps.length<=60/\∀w∈ws,qQ w:=by
 obtain⟨ws,ps,nd,bs,fs,z,y,e,L,h7,h20,hw⟩:=lotM hl (M:=7) (by decide) (by decide) (u:=10^18) (by decide) (by decide)
 exact⟨ws,ps,nd,bs,fs,z,y,e,L,h7,by lia,hw⟩
section
variable {ws ax:List (Int×Int×Int)}{ps av:List (Int×Int)}{nd cr:List (List Int)}{bs fs lx gw:List Int}{z y z' y' e q t:Int}{b h:Nat->Int}{rs:List Int}
theorem aLo(hw:∀w∈ws,qQ w)(h7:ws.length<=7)(p:Pl ws ps e b h):Bt 600 (cst ws h):=by
 have k:∀i,i<ws.length->0<=(fT ws).p i*((fT ws).u i - h i)/\(fT ws).p i*((fT ws).u i - h i)<=2^240*2^240:=fun i hi=>by
  have h1:qQ ((ws[i]?).getD (0,0,0)):=uE (P:=qQ) hw hi;have h2:=p.lh i hi;have h3:=p.hu i hi;have hp0:0<=(fT ws).p i:=h1.2.2.1;have ll:(fT ws).p i<=2^240:=cK h1.2.2.2.2;have vz:0<=(fT ws).l i:=h1.1;have xx:(fT ws).u i<2^240:=h1.2.2.2.1
  exact⟨cO hp0 (by lia),d9 ll (by lia) (by lia) (by decide)⟩
 have h1:0<=cst ws h:=pX fun i hi=>(k i hi).1
 have h2:cst ws h<=sm ws.length fun _=>2^240*2^240:=wN fun i hi=>(k i hi).2
 rw[wO]at h2;have h3:(ws.length:Int)*(2^240*2^240)<=7*(2^240*2^240):=dP (by lia) (by decide)
 exact Bt.of_lt h1 (cT (dQ h2 h3) (by decide))
theorem aLY(ht:0<t)(p:Pl ws ps e b h):Pl (ws.map (lgr t)) ps (t*e) (fun i=>t*b i) (fun i=>t*h i):=by
 have hl:(ws.map (lgr t)).length=ws.length:=aP _;have hu:∀i,(fT (ws.map (lgr t))).u i=t*(fT ws).u i:=fun i=>by show(((ws.map (lgr t))[i]?).getD (0,0,0)).1=_;rw[nE aBp];rfl
 have ke:∀i,(fT (ws.map (lgr t))).l i=t*(fT ws).l i:=fun i=>by show(((ws.map (lgr t))[i]?).getD (0,0,0)).2.1=_;rw[nE aBp];rfl
 exact⟨fun i hi=>cO (cK ht) (p.b0 i (by rw[<-hl];exact hi)),fun i hi=>by rw[ke];exact bW (p.lh i (by rw[<-hl];exact hi)) (cK ht),
  fun i hi=>by rw[hu];exact bW (p.hu i (by rw[<-hl];exact hi)) (cK ht),fun i hi=>by rw[<-aOD];exact bW (p.en i (by rw[<-hl];exact hi)) (cK ht),fun x hx=>by rw[<-aOD];exact bW (p.ne x hx) (cK ht)⟩
theorem aLR(p:Pl ws ps e b h):Pl (ws.map (drr t)) ps e b h:=by
 have hl:(ws.map (drr t)).length=ws.length:=aP _;have hu:∀i,(fT (ws.map (drr t))).u i=(fT ws).u i:=fun i=>by show(((ws.map (drr t))[i]?).getD (0,0,0)).1=_;rw[nE aBK];rfl
 have ke:∀i,(fT (ws.map (drr t))).l i=(fT ws).l i:=fun i=>by show(((ws.map (drr t))[i]?).getD (0,0,0)).2.1=_;rw[nE aBK];rfl
 exact⟨fun i hi=>p.b0 i (by rw[<-hl];exact hi),fun i hi=>by rw[ke];exact p.lh i (by rw[<-hl];exact hi),fun i hi=>by rw[hu];exact p.hu i (by rw[<-hl];exact hi),fun i hi=>p.en i (by rw[<-hl];exact hi),p.ne⟩
theorem aDj(L:Lot ws ps nd bs fs z y)(h60:ps.length<=60)(R:Ren rs ws ps ax av)(A:jZ ws nd e q)(gu:0<=e)(he:e<2^300)(hw:∀w∈ax,tV w):gD [.lst (ax.map w3),.lst (av.map pT),.int e]=some (.int q):=by
 obtain⟨cr,lx,gw,z',y',L'⟩:=Lot.of (ws:=ax) (ps:=av) (by rw[R.l];exact L.g.l8) (by rw[R.p,aP];lia) (R.inw L.g.inw) (R.acy L.g.inw L.g.acy) hw;obtain⟨b,h,p,_⟩:=A.plan L.g;obtain⟨q',e1,A'⟩:=(k6 L' he).2 (L'.pl_z (R.back L.g.inw p).1 gu);rw[e1,aEz R L.g L'.g A A']
theorem aFa(L:Lot ws ps nd bs fs z y)(cc:∀w∈ws,qQ w)(ht:2<=t/\t<10)(A:jZ ws nd e q)(gu:0<=e)(he:e<2^260):gD [.lst ((ws.map (lgr t)).map w3),.lst (ps.map pT),.int (t*e)]=some (.int (t*q)):=by
 have sg:0<=t:=by lia
 obtain⟨cr,lx,gw,z',y',L'⟩:=Lot.of (ws:=ws.map (lgr t)) (ps:=ps) (by rw[aP];exact L.g.l8) L.p63 (by rw[aP];exact L.g.inw) L.g.acy (fun x hx=>by
  obtain⟨w,hw,rfl⟩:=bI.mp hx;obtain⟨h1,h2,h3,h4,h5⟩:=cc w hw
  refine⟨cO sg h1,bW h2 sg,h3,?_,dB h5 (by decide)⟩
  show t*w.1<2^252;have:t*w.1<=10*2^240:=d9 (by lia) (cK h4) (dQ h1 h2) (by decide)
  exact cT this (by decide))
 obtain⟨b,h,p,_⟩:=A.plan L.g;have hte:t*e<2^300:=by
  have:t*e<=10*2^260:=d9 (by lia) (cK he) gu (by decide)
  exact cT this (by decide)
 obtain⟨q',e1,A'⟩:=(k6 L' hte).2 (L'.pl_z (aLY (by lia) p) (cO sg gu));rw[e1,aEU L.g L'.g (by lia) A A']
theorem aFs(L:Lot ws ps nd bs fs z y)(cc:∀w∈ws,qQ w)(ht:2<=t/\t<10)(A:jZ ws nd e q)(gu:0<=e)(he:e<2^300):gD [.lst ((ws.map (drr t)).map w3),.lst (ps.map pT),.int e]=some (.int (t*q)):=by
 have sg:0<=t:=by lia
 obtain⟨cr,lx,gw,z',y',L'⟩:=Lot.of (ws:=ws.map (drr t)) (ps:=ps) (by rw[aP];exact L.g.l8) L.p63 (by rw[aP];exact L.g.inw) L.g.acy (fun x hx=>by
  obtain⟨w,hw,rfl⟩:=bI.mp hx;obtain⟨h1,h2,h3,h4,h5⟩:=cc w hw
  refine⟨h1,h2,cO sg h3,dB h4 (by decide),?_⟩
  show t*w.2.2<2^252;have:t*w.2.2<=10*2^240:=d9 (by lia) (cK h5) h3 (by decide)
  exact cT this (by decide))
 obtain⟨b,h,p,_⟩:=A.plan L.g;obtain⟨q',e1,A'⟩:=(k6 L' he).2 (L'.pl_z (aLR p) gu);rw[e1,aEJ L.g L'.g (by lia) A A']
end
end K93
namespace K93
open PySem L2 TL Lib NF
section
variable {ws:List (Int×Int×Int)}{rs:List Int}
variable{i:Nat}
def trn(rs:List Int)(ws:List (Int×Int×Int))(i:Nat):List T:=(bL ws.length).map fun v=>if bk rs v<i then w3 ((ws[bk rs v]?).getD (0,0,0))else .lst []
def ws2(rs:List Int)(ws:List (Int×Int×Int)):List (Int×Int×Int):=(bL ws.length).map fun v=>(ws[bk rs v]?).getD (0,0,0)
theorem u3:(trn rs ws i).length=ws.length:=by simp[trn]
theorem aDZ{v:Nat}(h:v<(trn rs ws i).length):(trn rs ws i)[v]=if bk rs v<i then w3 ((ws[bk rs v]?).getD (0,0,0))else .lst []:=by simp[trn]
theorem aN6:trn rs ws 0=(bL ws.length).map fun _=>T.lst []:=by
 unfold trn
 refine cL fun v _=>?_
 rw[if_neg (by lia)]
theorem aJU(R:Rk ws.length rs)(hi:i<ws.length):(trn rs ws i).set (at0 rs i).toNat (w3 ((ws[i]?).getD (0,0,0)))=trn rs ws (i+1):=by
 apply aPo
 ·rw[cM,u3,u3]
 ·intro v h1 h2;have hv:v<ws.length:=by rw[u3]at h2;exact h2
  rw[List.getElem_set,aDZ h2,aDZ];by_cases h:(at0 rs i).toNat=v
  ·rw[if_pos h,<-h,aBZ R hi,if_pos (by lia)]
  ·rw[if_neg h];have bb:bk rs v≠i:=fun g=>h (by
    have:=(aEh R hv).2;rw[g]at this;rw[this,cE])
   by_cases hb:bk rs v<i
   ·rw[if_pos hb,if_pos (by lia)]
   ·rw[if_neg hb,if_neg (by lia)]
theorem aJH(R:Rk ws.length rs):trn rs ws ws.length=(ws2 rs ws).map w3:=by
 unfold trn ws2;rw[b7]
 refine cL fun v hv=>?_
 rw[if_pos (aEh R (c7.mp hv)).1];rfl
theorem aJR(R:Rk ws.length rs){ps:List (Int×Int)}:Ren rs ws ps (ws2 rs ws) (ps.map fun p=>(at0 rs p.1,at0 rs p.2)):=by
 refine⟨R,by simp[ws2],fun k hk=>?_,rfl⟩
 unfold ws2;rw[bM,dY (R.at hk).2];show some ((ws[bk rs (at0 rs k).toNat]?).getD (0,0,0))=_;rw[aBZ R hk,bC hk];rfl
theorem aMD(R:Rk ws.length rs){P:Int×Int×Int->Prop}(h:∀w∈ws,P w):∀w∈ws2 rs ws,P w:=fun w hw=>by
 obtain⟨v,hv,rfl⟩:=bI.mp hw
 exact uE h (aEh R (c7.mp hv)).1
theorem ixv{τ:TSt}{C:Sto}{a k:Nat}{row:List T}{i:Int}{r v:T}(h0:τ[a]?=some (some r))(hk:τ[k]?=some (some (.int i)))(hr:sqT C r=some row)(hv:atI row i=some v):fIx (j4 a) (j4 k) τ C=some (v,C):=
 aIo (gO.mpr (e9.mpr ⟨_,h0,e9.mpr ⟨_,hk,pN.mpr ⟨_,hr,_,hv,rfl,rfl⟩⟩⟩))
theorem aHW{m:Nat}(R:Rk m rs){x:Int}(h0:0<=x)(h:x<m):atI (rs.map T.int) x=some (.int (at0 rs x)):=by
 have hx:x<rs.length:=by rw[R.len];exact h
 rw[tW h0 hx];have:=jF (bs:=rs) (i:=x.toNat) (by lia);rw[bN h0]at this;rw[this]
end
theorem aH6:∀ns:List Int,ns.length<=63->(∀n∈ns,Builtin.Int.intBits n<=2^20)->aEj [.lst (ns.map T.int)]=some (.bl true):=by
 intro ns hl hb;obtain⟨ws,ps,nd,bs,fs,z,y,e1,L,h7,h60,cc⟩:=lot93 hl;have hz0:=L.z0;have hzy:=L.zy;have hyb:=L.yb;have hw1:∀{C Q},wpO (gY 3 sO [.lst (ns.map T.int),.int 7,.int (10^eN 18)] C) Q↔Q (.tup [.lst (ws.map w3),.lst (ps.map pT)]) C:=by rw[aF1];exact fN e1 rfl (by walk_at "c")
 have hw2:∀{C Q},wpO (gY 3 pR [.lst (ws.map w3),.lst (ps.map pT),.lst (ns.map T.int)] C) Q↔Q (.bl true) C:=fN (aIT L h7 h60) rfl (by rw[fH,fH,fH,f7,fW,fW,fW,lY,j6,gZ];rfl);apply hJ;unfold aKS;walk_at "b";generalize hc:lS ns 2=c
 refine g8 (fun τ C=>C=[]/\τ=[some (.lst (ns.map T.int)),some (.lst (ws.map w3)),some (.lst (ps.map pT)),none,none,none,none,none,none,none,none,none,none]) ?_ ?_
 ·simp_arith[↓eZ,↓eY,↓hw1];decide
 rintro _ _ ⟨rfl,rfl⟩
 refine g8 (fun τ C=>C=[]/\τ=[some (.lst (ns.map T.int)),some (.lst (ws.map w3)),some (.lst (ps.map pT)),some (.int c),none,none,none,none,none,none,none,none,none]) ?_ ?_
 ·simp_arith[↓eZ,↓eY,↓lV,hc]
 rintro _ _ ⟨rfl,rfl⟩
 refine g8 (fun τ C=>C=[]/\τ=[some (.lst (ns.map T.int)),some (.lst (ws.map w3)),some (.lst (ps.map pT)),some (.int c),some (.int ws.length),none,none,none,none,none,none,none,none]) ?_ ?_
 ·simp_arith[↓eZ,↓eY,aP]
 rintro _ _ ⟨rfl,rfl⟩
 refine g8 (fun τ C=>C=[]/\τ=[some (.lst (ns.map T.int)),some (.lst (ws.map w3)),some (.lst (ps.map pT)),some (.int c),some (.int ws.length),none,none,none,none,none,none,none,none]) (nX (by simp_arith[↓eZ,↓eY,↓hw2];exact⟨true,rfl,rfl⟩) (iL.mpr ⟨rfl,rfl,rfl⟩)) ?_
 rintro _ _ ⟨rfl,rfl⟩;obtain⟨e,ea,he1,he2⟩:=aDA L (c:=c/3);have gu:0<=e:=by lia
 have uf:e<2^260:=by lia
 have gr:e<2^300:=by lia
 obtain⟨q,eq',A⟩:=(k6 L gr).2 he1;have bq:Bt 600 q:=by
  obtain⟨b,h,p,rfl⟩:=A.plan L.g
  exact aLo cc h7 p
 have hw3:∀{C Q},wpO (gY 3 lW [.lst (ws.map w3),.lst (ps.map pT),.int (c/3)] C) Q↔Q (.int e) C:=fN ea rfl K42.o0;have hw4:∀{C Q},wpO (gY 3 gD [.lst (ws.map w3),.lst (ps.map pT),.int e] C) Q↔Q (.int q) C:=fN eq' rfl K42.o0;have m1:Bt 20 (74:Int):=.sml (by lia) (by lia) (by decide);obtain⟨_,en,rs,rfl,R⟩:=z7 (c:=kH c 74) (m:=ws.length) (by lia);have hw5:∀{C Q},wpO (gY 2 lU [.int (kH c 74),.int ws.length] C) Q↔Q (.lst (rs.map T.int)) C:=fN en rfl (by walk_at "c")
 refine g8 (fun τ C=>C=[]/\τ=[some (.lst (ns.map T.int)),some (.lst (ws.map w3)),some (.lst (ps.map pT)),some (.int c),some (.int ws.length),some (.int e),none,none,none,none,none,none,none]) ?_ ?_
 ·simp_arith[↓eZ,↓eY,↓hw3];decide
 rintro _ _ ⟨rfl,rfl⟩
 refine g8 (fun τ C=>C=[]/\τ=[some (.lst (ns.map T.int)),some (.lst (ws.map w3)),some (.lst (ps.map pT)),some (.int c),some (.int ws.length),some (.int e),some (.int q),none,none,none,none,none,none]) ?_ ?_
 ·simp_arith[↓eZ,↓eY,↓hw4]
 rintro _ _ ⟨rfl,rfl⟩
 refine g8 (fun τ C=>C=[]/\τ=[some (.lst (ns.map T.int)),some (.lst (ws.map w3)),some (.lst (ps.map pT)),some (.int c),some (.int ws.length),some (.int e),some (.int q),some (.lst (rs.map T.int)),none,none,none,none,none]) ?_ ?_
 ·simp_arith[↓eZ,↓eY,↓nQ,↓hw5]
 rintro _ _ ⟨rfl,rfl⟩
 refine g8 (fun τ C=>C=[(.l,trn rs ws 0)]/\τ=[some (.lst (ns.map T.int)),some (.lst (ws.map w3)),some (.lst (ps.map pT)),some (.int c),some (.int ws.length),some (.int e),some (.int q),some (.lst (rs.map T.int)),some (.cell 0),none,none,none,none]) ?_ ?_
 ·refine gF.mpr (kK.mpr (n4.mpr (e9.mpr ⟨_,rfl,_,rfl,by lia,?_⟩)))
  rw[nP]
  refine gG (fun _=>T.lst []) (fun i _=>gQ.mpr (hZ.mpr (kE.mpr (fS.mpr ⟨by decide,rfl,rfl⟩)))) (gQ.mpr ⟨rfl,?_,rfl⟩)
  rw[aN6,cE];rfl
 rintro _ _ ⟨rfl,rfl⟩
 refine g8 (fun τ C=>C=[(.l,trn rs ws ws.length)]/\∃a,τ=[some (.lst (ns.map T.int)),some (.lst (ws.map w3)),some (.lst (ps.map pT)),some (.int c),some (.int ws.length),some (.int e),some (.int q),some (.lst (rs.map T.int)),some (.cell 0),a,none,none,none]) ?_ ?_
 ·refine nT.mpr (e9.mpr ⟨_,rfl,_,rfl,by lia,?_⟩)
  rw[cE]
  refine lO (fun i τ C=>C=[(.l,trn rs ws i)]/\∃a,τ=[some (.lst (ns.map T.int)),some (.lst (ws.map w3)),some (.lst (ps.map pT)),some (.int c),some (.int ws.length),some (.int e),some (.int q),some (.lst (rs.map T.int)),some (.cell 0),a,none,none,none]) ⟨rfl,_,rfl⟩ ?_ ?_
  ·rintro i τ C hi ⟨rfl,a,rfl⟩;have hr:=aHW R (x:=(0+(i:Int))) (by lia) (by lia);have hw:=K42.aNF hi;unfold aDH
   refine gQ.mpr (rQ.mpr (hZ.mpr (yB.mpr (fF.mpr (iA (ixv (i:=0+(i:Int)) rfl rfl rfl (by rw[aOH];exact hw)) (fS.mpr (aBT.mpr ⟨_,rfl,e9.mpr ⟨_,rfl,iA (ixv (i:=0+(i:Int)) rfl rfl rfl hr) ⟨_,_,rfl,rfl,_,rfl,?_⟩⟩⟩)))))))
   have ha:=R.at hi;rw[aOH,u3]
   refine⟨_,v4 ha.1 (by lia),trivial,?_,_,rfl⟩
   show[(Kd.l,(trn rs ws i).set (at0 rs i).toNat (w3 ((ws[i]?).getD (0,0,0))))]=_;rw[aJU R hi]
  ·rintro τ C ⟨rfl,a,rfl⟩
   exact⟨rfl,rfl,_,rfl⟩
 rintro _ _ ⟨rfl,a,rfl⟩;have ya:=aJR R (ps:=ps);have q1:=aDj L h60 ya A gu gr (aMD R L.g.ok);rw[aJH R];have jz:(ps.map fun p=>pT (at0 rs p.1,at0 rs p.2))=(ps.map fun p=>(at0 rs p.1,at0 rs p.2)).map pT:=by rw[b7];rfl
 refine g8 (fun τ C=>C=[(.l,(ws2 rs ws).map w3)]/\τ=[some (.lst (ns.map T.int)),some (.lst (ws.map w3)),some (.lst (ps.map pT)),some (.int c),some (.int ws.length),some (.int e),some (.int q),some (.lst (rs.map T.int)),some (.cell 0),a,none,none,none]) (nX (j0.mpr (gO.mpr (jT.mpr (fF.mpr (e9.mpr ⟨_,rfl,fF.mpr (hZ.mpr (kO.mpr (e9.mpr ⟨_,rfl,_,rfl,by simp[lim];lia,gG (fun p=>pT (at0 rs p.1,at0 rs p.2)) (fun p hp=>?_) ?_⟩)))⟩))))) (iL.mpr ⟨rfl,rfl,rfl⟩)) ?_
 ·have h1:=L.g.inw p hp;have e1:=aHW R h1.1.1 h1.1.2;have e2:=aHW R h1.2.1 h1.2.2;simp only[scT,aS,aM,bB,aW,aT,aV,bP,bR,b8];simp_arith[↓eZ,↓eY,pT,↓fJ e1,↓fJ e2];decide
 ·rw[jz]
  refine fF.mpr (e9.mpr ⟨_,rfl,fS.mpr (sT rfl (jC (rG rfl lY) (jC (iH (by rw[fW,j6])) (jC (iH fY) aCb))) ⟨_,q1,rfl,e9.mpr ⟨_,rfl,aDW.mpr ?_⟩⟩)⟩)
  exact⟨_,rfl,by simp,rfl⟩
 rintro _ _ ⟨rfl,rfl⟩;have hc8:=iB (x:=c) (m:=8) (by decide)
 refine g8 (fun τ C=>C=[((Kd.l,(ws2 rs ws).map w3):Cl)]/\τ=[some (.lst (ns.map T.int)),some (.lst (ws.map w3)),some (.lst (ps.map pT)),some (.int c),some (.int ws.length),some (.int e),some (.int q),some (.lst (rs.map T.int)),some (.cell 0),a,some (.int (2+c%8)),none,none]) ?_ ?_
 ·simp_arith[↓eZ,↓eY];decide
 rintro _ _ ⟨rfl,rfl⟩;have ht:2<=2+c%8/\2+c%8<10:=by lia
 generalize 2+c%8=t at ht;have bt:Bt 20 t:=.sml (by lia) (by lia) (by decide);have be:Bt 300 e:=Bt.of_lt gu gr;have hlg:(ws.map (lgr t)).map w3=ws.map fun w=>w3 (lgr t w):=by rw[b7];rfl
 have yx:(ws.map (drr t)).map w3=ws.map fun w=>w3 (drr t w):=by rw[b7];rfl
 have q3:=aFa L cc ht A gu uf;have q4:=aFs L cc ht A gu gr;have bw:∀w∈ws,Bt 300 w.1/\Bt 300 w.2.1/\Bt 300 w.2.2:=fun w hw=>by
  obtain⟨h1,h2,h3,h4,h5⟩:=cc w hw
  exact⟨Bt.of_lt (dQ h1 h2) (dB h4 (by decide)),Bt.of_lt h1 (cT h2 (dB h4 (by decide))),Bt.of_lt h3 (dB h5 (by decide))⟩
 refine g8 (fun τ C=>C=[((Kd.l,(ws2 rs ws).map w3):Cl)]/\τ=[some (.lst (ns.map T.int)),some (.lst (ws.map w3)),some (.lst (ps.map pT)),some (.int c),some (.int ws.length),some (.int e),some (.int q),some (.lst (rs.map T.int)),some (.cell 0),a,some (.int t),some (.lst ((ws.map (lgr t)).map w3)),none]) ?_ ?_
 ·refine gF.mpr (hZ.mpr (kO.mpr (e9.mpr ⟨_,rfl,_,rfl,by simp[lim];lia,gG (fun w=>w3 (lgr t w)) (fun w hw=>?_) (gQ.mpr ⟨rfl,rfl,by rw[hlg];rfl⟩)⟩)))
  obtain⟨b1,b2,b3⟩:=bw w hw;simp only[scT,aS,aM,bB,aW,aT,aV,bP,bR,b8];simp_arith[↓eZ,↓eY,w3]
  exact⟨mP bt b1 (by decide),mP bt b2 (by decide),by decide,rfl⟩
 rintro _ _ ⟨rfl,rfl⟩
 refine g8 (fun τ C=>C=[((Kd.l,(ws2 rs ws).map w3):Cl)]/\τ=[some (.lst (ns.map T.int)),some (.lst (ws.map w3)),some (.lst (ps.map pT)),some (.int c),some (.int ws.length),some (.int e),some (.int q),some (.lst (rs.map T.int)),some (.cell 0),a,some (.int t),some (.lst ((ws.map (lgr t)).map w3)),none]) (nX ?_ (iL.mpr ⟨rfl,rfl,rfl⟩)) ?_
 ·have w6:∀{C Q},wpO (gY 3 gD [.lst ((ws.map (lgr t)).map w3),.lst (ps.map pT),.int (t*e)] C) Q↔Q (.int (t*q)) C:=fN q3 rfl K42.o0;generalize (ws.map (lgr t)).map w3=W3 at w6;simp_arith[↓eZ,↓eY,↓w6]
  exact⟨mP bt be (by decide),mP bt bq (by decide),by decide⟩
 rintro _ _ ⟨rfl,rfl⟩
 refine g8 (fun τ C=>C=[((Kd.l,(ws2 rs ws).map w3):Cl)]/\τ=[some (.lst (ns.map T.int)),some (.lst (ws.map w3)),some (.lst (ps.map pT)),some (.int c),some (.int ws.length),some (.int e),some (.int q),some (.lst (rs.map T.int)),some (.cell 0),a,some (.int t),some (.lst ((ws.map (lgr t)).map w3)),some (.lst ((ws.map (drr t)).map w3))]) ?_ ?_
 ·refine gF.mpr (hZ.mpr (kO.mpr (e9.mpr ⟨_,rfl,_,rfl,by simp[lim];lia,gG (fun w=>w3 (drr t w)) (fun w hw=>?_) (gQ.mpr ⟨rfl,rfl,by rw[yx];rfl⟩)⟩)))
  obtain⟨b1,b2,b3⟩:=bw w hw;simp only[scT,aS,aM,bB,aW,aT,aV,bP,bR,b8];simp_arith[↓eZ,↓eY,w3]
  exact⟨mP bt b3 (by decide),by decide,rfl⟩
 rintro _ _ ⟨rfl,rfl⟩;have w7:∀{C Q},wpO (gY 3 gD [.lst ((ws.map (drr t)).map w3),.lst (ps.map pT),.int e] C) Q↔Q (.int (t*q)) C:=fN q4 rfl K42.o0;generalize (ws.map (drr t)).map w3=W4 at w7;simp_arith[↓eZ,↓eY,↓w7]
 exact⟨mP bt bq (by decide),iH kY⟩
end K93
end
namespace K93
open PySem L2 TL Lib
open HT (top)
local macro_rules| `(tactic|walk_at "bq")=>`(tactic|first|exact fun _ _ _ _ _ _=>len1 fun _=>rfl|exact fun _ _ _ _ _ _=>yU fun _=>len1 fun _=>rfl|exact fun _ _ _ _ _ _=>yU fun _=>yU fun _=>len1 fun _=>rfl|exact fun _ _ _ _ _ _=>yU fun _=>yU fun _=>yU fun _=>len1 fun _=>rfl|exact fun _ _ _ _ _ _=>yU fun _=>yU fun _=>yU fun _=>yU fun _=>len1 fun _=>rfl)
section
variable {P:Program}{w:World}{K:aO}{mg:Str->Option Value}{base:Heap}{f:Addr}{fd:FuncData}
set_option maxHeartbeats 0
theorem aFp:Ky P w K mg base "_law_mixed" "_law_mixed" (top 44) ["_law_cell","_law_k"] 1 (spT K 2 iX):=fun F=>okB (N:=["_law_cell","_law_k","_law_number"]) F gE (hW gC) fun nd hr=>
 (eV (fG nd 2 (gL (hX (hX (jU (eS 0) fA) (jU (jU (eS 1) (eS 1)) fA)) fA) fA))
  (eV (fG nd 2 (gL (jU (eS 2) (eS 2)) fA))
  (fD (fV (gL (jU (eS 2) (eS 2)) fA)))))
theorem aC2(bi:mg "len"=none):Ky P w K mg base "_law_cell_at" "_law_cell_at" (top 43) ["_law_script","_law_k"] 1 (spT K 2 gK):=fun F=>okB (N:=["_law_script","_law_k"]) F gE (hW gC) fun nd hr=>
 (eV (kG (aKB (eS 1) (mS bi (eT (eS 0) eX))) (fD (fV (gW (eS 0) (eS 1)))) iK)
  (fD (fV fA)))
theorem aBx(dw:jA P w K mg base 1 "_law_mixed" 2 iX)(da:jA P w K mg base 1 "_law_cell_at" 2 gK)(bf:mg "range"=none)(ef:mg "min"=none)(bi:mg "len"=none):Ky P w K mg base "_law_numbers" "_law_numbers" (top 46) ["_law_cells"] 2 (spT K 1 lK):=fun F=>okB (N:=["_law_cells","_law_numbers_here","_law_k","_law_at"]) F gE (hW gC) fun nd hr=>
 (eV (nM nd 1 bf rfl (cok ["_law_k"] ["_law_cells"] [0]) fA (jB (by decide)) (fun _ _ _ _=>(jL (show List.Nodup (["_law_k","_law_cells"]:List Str)by decide) 0)) (fun _ _ _ _=>hV) (fun _ _ _ _=>(fR dw (rdn hr) (eT (fR da (rdn hr) (eT (eS 1) (eT fA eX))) (eT (hX fA (eS 0)) eX)))))
  (eV (aCo bf rfl fA (tP ef rfl (eT fA (eT (mS bi (eT (eS 0) eX)) eX))) (jL nd 2) (eV (fG nd 3 (gL (eS 2) fA))
  (fD (pY (fR dw (rdn hr) (eT (hX (gW (eS 1) (eS 3)) (gW (eS 0) (eS 2))) (eT (eS 2) eX))) (eS 1) (eS 3)))))
  (fD (fV (eS 1)))))
theorem aFP(dw:jA P w K mg base 1 "_law_mixed" 2 iX)(bf:mg "range"=none):Ky P w K mg base "_law_names" "_law_names" (top 45) ["_law_cell","_law_many"] 2 (spT K 2 lU):=fun F=>okB (N:=["_law_cell","_law_many","_law_points","_law_k"]) F gE (hW gC) fun nd hr=>
 (eV (fG nd 2 (lM (f6 eX)))
  (eV (lT bf rfl (eS 1) (jL nd 3) (fD (aDd (eS 2) (eT (gL (fR dw (rdn hr) (eT (eS 0) (eT (eS 3) eX))) (hX (eS 3) fA)) (eT (eS 3) eX)))))
  (fD (fV (eS 2)))))
theorem yQ(da:jA P w K mg base 1 "_law_cell_at" 2 gK)(bf:mg "range"=none)(cw:mg "int"=none):Ky P w K mg base "_law_lot_free" "_law_lot_free" (top 48) ["_law_cells","_law_many","_law_unit"] 2 (spT K 3 nW):=fun F=>okB (N:=["_law_cells","_law_many","_law_unit","_law_base","_law_works","_law_k","_law_left","_law_least","_law_more_here","_law_order","_law_needs","_law_a"]) F gE (hW gC) fun nd hr=>
 (eV (fG nd 3 (gW (fP (f6 (eT fA (eT (jU (eS 2) (aHH fA fA)) eX)))) (gL (iQ (fR da (rdn hr) (eT (eS 0) (eT fA eX))) fA) fA)))
  (eV (fG nd 4 (lM (f6 eX)))
  (eV (lT bf rfl (eS 1) (jL nd 5) (eV (fG nd 6 (fR da (rdn hr) (eT (eS 0) (eT (hX fA (eS 5)) eX))))
  (eV (fG nd 7 (gL (eS 6) (gW (fP (f6 (eT fA (eT (eS 3) eX)))) (oZ cw (eT (aE5 (eS 3) fA) eX)))))
  (eV (fG nd 6 (vG (eS 6) (gW (fP (f6 (eT fA (eT (eS 3) eX)))) (oZ cw (eT (aE5 (eS 3) fA) eX)))))
  (eV (fG nd 8 (gL (eS 6) (gW (fP (f6 (eT fA (eT (eS 3) eX)))) (oZ cw (eT (aE5 (eS 3) fA) eX)))))
  (eV (fG nd 6 (vG (eS 6) (gW (fP (f6 (eT fA (eT (eS 3) eX)))) (oZ cw (eT (aE5 (eS 3) fA) eX)))))
  (fD (qX (eS 4) (eT (fP (f6 (eT (hX (eS 7) (eS 8)) (eT (eS 7) (eT (gL (eS 6) (gW (fP (f6 (eT fA (eT (eS 3) eX)))) (oZ cw (eT (aE5 (eS 3) fA) eX)))) eX))))) eX)))))))))
  (eV (fG nd 6 (fR da (rdn hr) (eT (eS 0) (eT fA eX))))
  (eV (fG nd 9 (lM (f6 eX)))
  (eV (lT bf rfl (eS 1) (jL nd 5) (eV (aDd (eS 9) (eT (gL (eS 6) (hX (eS 5) fA)) (eT (eS 5) eX)))
  (fD (fG nd 6 (vG (eS 6) (hX (eS 5) fA))))))
  (eV (fG nd 10 (lM (f6 eX)))
  (eV (lT bf rfl (eS 1) (jL nd 5) (fD (l4 rfl (fP (sF (eS 9) o6 (yG (eS 5)))) (jL nd 11) (eV (kG (aBQ (hu20 hr) (gL (eS 6) fA) fA) (fD (qX (eS 10) (eT (fP (f6 (eT (eS 11) (eT (gW (eS 9) (eS 5)) eX)))) eX))) iK)
  (fD (fG nd 6 (iQ (eS 6) fA)))))))
  (fD (fV (aAy (eT (eS 4) (eT (eS 10) eX)))))))))))))
theorem aE8(cw:mg "int"=none):Ky P w K mg base "_law_work" "_law_work" (top 47) ["_law_one","_law_two","_law_three","_law_mode","_law_unit"] 1 (spT K 5 wB):=fun F=>okB (N:=["_law_one","_law_two","_law_three","_law_mode","_law_unit","_law_least","_law_more_here","_law_price"]) F gE (hW gC) fun nd hr=>
 (eV (fG nd 5 (gL (eS 0) fA))
  (eV (fG nd 6 (gL (eS 1) fA))
  (eV (fG nd 7 (gL (eS 2) fA))
  (eV (kG (aBQ (hu20 hr) (eS 3) fA) (eV (fG nd 5 (hX (jU (eS 0) (eS 4)) (gL (eS 1) fA)))
  (eV (fG nd 6 (jU (jU (eS 1) (eS 4)) (oZ cw (eT (aE5 (gL (eS 1) fA) fA) eX))))
  (fD (fG nd 7 (hX (jU (eS 2) (eS 4)) (gL (eS 0) fA)))))) iK)
  (eV (kG (aBQ (hu20 hr) (eS 3) fA) (eV (fG nd 6 (jU (gL (eS 1) fA) (gL (iQ (eS 1) fA) fA)))
  (fD (fG nd 7 (gW (fP (f6 (eT fA (eT fA (eT fA (eT (hX fA (gL (eS 2) fA)) eX)))))) (gL (iQ (eS 2) fA) fA))))) iK)
  (eV (kG (t_w (y3 (aBQ (hu20 hr) (eS 3) fA) (sQ (aBQ (hu20 hr) (gL (eS 0) fA) fA)))) (fD (fG nd 5 fA)) iK)
  (fD (fV (fP (f6 (eT (hX (eS 5) (eS 6)) (eT (eS 5) (eT (eS 7) eX)))))))))))))
theorem aHU(d62:jA P w K mg base 2 "_law_numbers" 1 lK)(da:jA P w K mg base 1 "_law_cell_at" 2 gK)(qd:jA P w K mg base 2 "_law_names" 2 lU)(d64:jA P w K mg base 2 "_law_lot_free" 3 nW)(d65:jA P w K mg base 1 "_law_work" 5 wB)(bf:mg "range"=none)(ef:mg "min"=none)(cw:mg "int"=none)(bi:mg "len"=none):Ky P w K mg base "_law_lot" "_law_lot" (top 49) ["_law_cells","_law_most","_law_unit"] 3 (spT K 3 sO):=fun F=>okB (N:=["_law_cells","_law_most","_law_unit","_law_numbers_here","_law_first","_law_few","_law_many","_law_cell","_law_works","_law_names_here","_law_needs","_law_k","_law_b","_law_back","_law_a"]) F gE (hW gC) fun nd hr=>
 (eV (fG nd 3 (fR d62 (rdn hr) (eT (eS 0) eX)))
  (eV (fG nd 4 (fR da (rdn hr) (eT (eS 0) (eT fA eX))))
  (eV (fG nd 5 (gL (iQ (eS 4) fA) (tP ef rfl (eT fA (eT (hX (eS 1) fA) eX)))))
  (eV (fG nd 6 (gW (fP (f6 (eT (eS 5) (eT (qI (eS 1) (gW (fP (f6 (eT fA (eT fA (eT fA (eT fA eX)))))) (gL (iQ (eS 4) fA) fA))) (eT (eS 5) (eT (tP ef rfl (eT (eS 1) (eT (hX fA (gL (iQ (eS 4) fA) fA)) eX))) eX)))))) (gL (eS 4) fA)))
  (eV (fG nd 7 (fR da (rdn hr) (eT (eS 0) (eT fA eX))))
  (eV (kG (aBQ (hu20 hr) (gL (iQ (eS 7) fA) fA) fA) (fD (fV (fR d64 (rdn hr) (eT (eS 0) (eT (tP ef rfl (eT (eS 6) (eT (gW (fP (f6 (eT fA (eT fA eX)))) (oZ cw (eT (aOq (eS 1) fA) eX))) eX))) (eT (eS 2) eX)))))) iK)
  (eV (aFr nd 8 bf rfl (cok ["_law_k"] ["_law_numbers_here","_law_cell","_law_unit"] [3,7,2]) (eS 6) (jB (by decide)) (fun _ _ _ _=>(jL (show List.Nodup (["_law_k","_law_numbers_here","_law_cell","_law_unit"]:List Str)by decide) 0)) (fun _ _ _ _=>hV) (fun _ _ _ _=>(fR d65 (rdn hr) (eT (gW (eS 1) (eS 0)) (eT (gW (eS 1) (hX fA (eS 0))) (eT (gW (eS 1) (hX fA (eS 0))) (eT (gL (eS 2) fA) (eT (eS 3) eX))))))))
  (eV (fG nd 9 (fR qd (rdn hr) (eT (gW (eS 3) fA) (eT (eS 6) eX))))
  (eV (fG nd 10 (lM (f6 eX)))
  (eV (aCo bf rfl fA (hX fA (tP ef rfl (eT fA (eT (hX (eS 6) (gL (iQ (eS 7) fA) fA)) eX)))) (jL nd 11) (fD (kG (aBM (eS 6) fA) (eV (fG nd 12 (hX fA (gL (gW (eS 3) (eS 11)) (qI (eS 6) fA))))
  (eV (fG nd 13 (gL (iQ (gW (eS 3) (eS 11)) fA) (tP ef rfl (eT (eS 12) (eT (gW (fP (f6 (eT fA (eT fA (eT fA eX))))) (gL (iQ (eS 7) fA) fA)) eX)))))
  (eV (fG nd 14 (gW (fP (f6 (eT (qI (qI (eS 12) fA) (eS 13)) (eT (eS 13) eX)))) (gL (iQ (eS 7) fA) fA)))
  (fD (aDd (eS 10) (eT (gL (iQ (gW (eS 3) (eS 11)) fA) (hX (mS bi (eT (eS 10) eX)) fA)) (eT (fP (f6 (eT (gW (eS 9) (eS 14)) (eT (gW (eS 9) (eS 12)) eX)))) eX))))))) iK)))
  (fD (fV (aAy (eT (eS 8) (eT (fP (sF (eS 10) (yG (gL (iQ (eS 7) fA) fA)) o6)) eX)))))))))))))))
theorem aCy(bf:mg "range"=none)(jh:mg "max"=none)(bi:mg "len"=none):Ky P w K mg base "_law_length" "_law_length" (top 50) ["_law_hours","_law_needs"] 1 (spT K 2 jW):=fun F=>okB (N:=["_law_hours","_law_needs","_law_begins","_law_k","_law_a","_law_b"]) F gE (hW gC) fun nd hr=>
 (eV (fG nd 2 (lM (kJ rfl (cok ["_law_one"] [] []) (eS 0) (jB (by decide)) (fun _ _ _ _=>(jL (show List.Nodup (["_law_one"]:List Str)by decide) 0)) (fun _ _ _ _=>hV) (fun _ _ _ _=>fA))))
  (eV (lT bf rfl (mS bi (eT (eS 0) eX)) (jL nd 3) (fD (l4 rfl (eS 1) (nK rfl (iI nd 4 (iI nd 5 nN))) (fD (pY (aLS jh rfl (eT (gW (eS 2) (eS 5)) (eT (hX (gW (eS 2) (eS 4)) (gW (eS 0) (eS 4))) eX))) (eS 2) (eS 5))))))
  (fD (fV (aLr jh rfl (eT (fP (rL (fP (aGf bf rfl (cok ["_law_k"] ["_law_begins","_law_hours"] [2,0]) (mS bi (eT (eS 0) eX)) (jB (by decide)) (fun _ _ _ _=>(jL (show List.Nodup (["_law_k","_law_begins","_law_hours"]:List Str)by decide) 0)) (fun _ _ _ _=>hV) (fun _ _ _ _=>(hX (gW (eS 1) (eS 0)) (gW (eS 2) (eS 0)))))) (fP (f6 (eT fA eX))))) eX))))))
theorem aH5(wt:jA P w K mg base 1 "_law_length" 2 jW)(cw:mg "int"=none):Ky P w K mg base "_law_ends" "_law_ends" (top 51) ["_law_works","_law_needs"] 2 (spT K 2 p8):=fun F=>okB (N:=["_law_works","_law_needs","_law_least"]) F gE (hW gC) fun nd hr=>
 (eV (fG nd 2 (fR wt (rdn hr) (eT (fP (kJ rfl (cok ["_law_work_here"] [] []) (eS 0) (jB (by decide)) (fun _ _ _ _=>(jL (show List.Nodup (["_law_work_here"]:List Str)by decide) 0)) (fun _ _ _ _=>hV) (fun _ _ _ _=>(gW (eS 0) fA)))) (eT (eS 1) eX))))
  (fD (fV (aAy (eT (eS 2) (eT (fR wt (rdn hr) (eT (fP (kJ rfl (cok ["_law_work_here"] [] []) (eS 0) (jB (by decide)) (fun _ _ _ _=>(jL (show List.Nodup (["_law_work_here"]:List Str)by decide) 0)) (fun _ _ _ _=>hV) (fun _ _ _ _=>(gW (eS 0) (oZ cw (eT (aN3 (hu20 hr) (gW (eS 0) fA) fA) eX)))))) (eT (eS 1) eX))) eX))))))
theorem aFz(d67:jA P w K mg base 2 "_law_ends" 2 p8)(dw:jA P w K mg base 1 "_law_mixed" 2 iX):Ky P w K mg base "_law_amid" "_law_amid" (top 53) ["_law_works","_law_needs","_law_cell"] 3 (spT K 3 lW):=fun F=>okB (N:=["_law_works","_law_needs","_law_cell","_law_least","_law_free"]) F gE (hW gC) fun nd hr=>
 (eV (aGT (fR d67 (rdn hr) (eT (eS 0) (eT (eS 1) eX))) (nK rfl (iI nd 3 (iI nd 4 nN))))
  (fD (fV (hX (eS 3) (gL (jU (fR dw (rdn hr) (eT (eS 2) (eT fA eX))) (aHH (fR dw (rdn hr) (eT (eS 2) (eT fA eX))) fA)) (hX (qI (eS 4) (eS 3)) fA))))))
theorem aDn(bf:mg "range"=none):Ky P w K mg base "through" "through" (top 36) ["many","rows"] 1 (spT K 2 mI):=fun F=>okB (N:=["many","rows","amounts","row","work"]) F gE (hW gC) fun nd hr=>
 (eV (nM nd 2 bf rfl (cok ["work"] [] []) (eS 0) (jB (by decide)) (fun _ _ _ _=>(jL (show List.Nodup (["work"]:List Str)by decide) 0)) (fun _ _ _ _=>hV) (fun _ _ _ _=>fA))
  (eV (l4 rfl (eS 1) (jL nd 3) (fD (l4 rfl (fP (sF (eS 3) (yG fA) o6)) (jL nd 4) (fD (aI0 (eS 2) (eS 4) (gW (eS 3) fA))))))
  (fD (fV (eS 2)))))
theorem yH:Ky P w K mg base "work_worth" "work_worth" (top 38) ["work","amount"] 1 (spT K 2 lA):=fun F=>okB (N:=["work","amount"]) F gE (hW gC) fun nd hr=>
 (eV (kG (aOk (eS 1) (gW (eS 0) fA)) (fD (fV (jU (eS 1) (gW (eS 0) fA)))) iK)
  (fD (fV (hX (jU (gW (eS 0) fA) (qI (gW (eS 0) fA) (gW (eS 0) fA))) (jU (eS 1) (gW (eS 0) fA))))))
theorem aGI(d68:jA P w K mg base 1 "through" 2 mI)(d69:jA P w K mg base 1 "work_worth" 2 lA)(mf:mg "sum"=none)(bi:mg "len"=none)(oh:mg "zip"=none):Ky P w K mg base "worth" "worth" (top 37) ["works","rows","end"] 2 (spT K 3 u6):=fun F=>okB (N:=["works","rows","end","amounts","gained"]) F gE (hW gC) fun nd hr=>
 (eV (fG nd 3 (fR d68 (rdn hr) (eT (mS bi (eT (eS 0) eX)) (eT (eS 1) eX))))
  (eV (fG nd 4 (aGU mf rfl (eT (fP (aDY oh rfl (cok ["work","amount"] [] []) (eS 0) (eS 3) (qR (by decide)) (fun _ _ _ _=>(nK rfl (iI (show List.Nodup (["work","amount"]:List Str)by decide) 0 (iI (show List.Nodup (["work","amount"]:List Str)by decide) 1 nN)))) (fun _ _ _ _=>hV) (fun _ _ _ _=>(fR d69 (rdn hr) (eT (eS 0) (eT (eS 1) eX)))))) eX)))
  (fD (fV (qI (eS 4) (jU (eS 2) (aGU mf rfl (eT (fP (kJ rfl (cok ["row"] [] []) (eS 1) (jB (by decide)) (fun _ _ _ _=>(jL (show List.Nodup (["row"]:List Str)by decide) 0)) (fun _ _ _ _=>hV) (fun _ _ _ _=>(gW (eS 0) fA)))) eX))))))))
theorem uV(oh:mg "zip"=none):Ky P w K mg base "done_moments" "done_moments" (top 12) ["begins","hours"] 1 (spT K 2 j7):=fun F=>okB (N:=["begins","hours"]) F gE (hW gC) fun nd hr=>
 (fD (fV (fP (aDY oh rfl (cok ["begin","took"] [] []) (eS 0) (eS 1) (qR (by decide)) (fun _ _ _ _=>(nK rfl (iI (show List.Nodup (["begin","took"]:List Str)by decide) 0 (iI (show List.Nodup (["begin","took"]:List Str)by decide) 1 nN)))) (fun _ _ _ _=>hV) (fun _ _ _ _=>(hX (eS 0) (eS 1)))))))
theorem aDv:Ky P w K mg base "is_work" "is_work" (top 6) ["many","number"] 1 (spT K 2 k7):=fun F=>okB (N:=["many","number"]) F gE (hW gC) fun nd hr=>
 (fD (fV (yT fA (eS 1) (eS 0))))
theorem uW(wn:jA P w K mg base 1 "is_work" 2 k7)(bf:mg "range"=none):Ky P w K mg base "needed_works" "needed_works" (top 7) ["many","needs"] 2 (spT K 2 gH):=fun F=>okB (N:=["many","needs","needed","first","second"]) F gE (hW gC) fun nd hr=>
 (eV (nM nd 2 bf rfl (cok ["work"] [] []) (eS 0) (jB (by decide)) (fun _ _ _ _=>(jL (show List.Nodup (["work"]:List Str)by decide) 0)) (fun _ _ _ _=>hV) (fun _ _ _ _=>(lM (f6 eX))))
  (eV (l4 rfl (eS 1) (nK rfl (iI nd 3 (iI nd 4 nN))) (eV (kG (t_w (aOp (aD7 (rY (fR wn (rdn hr) (eT (eS 0) (eT (eS 3) eX))))) (aNM (aD7 (rY (fR wn (rdn hr) (eT (eS 0) (eT (eS 4) eX)))))))) (fD aBL) iK)
  (fD (kG (aGx (hu20 hr) (eS 3) (gW (eS 2) (eS 4))) (fD (qX (gW (eS 2) (eS 4)) (eT (eS 3) eX))) iK))))
  (fD (fV (eS 2)))))
theorem wF(bf:mg "range"=none)(bi:mg "len"=none)(xm:mg "all"=none):Ky P w K mg base "least_ready" "least_ready" (top 8) ["needed","told"] 1 (spT K 2 lP):=fun F=>okB (N:=["needed","told","work"]) F gE (hW gC) fun nd hr=>
 (eV (lT bf rfl (mS bi (eT (eS 0) eX)) (jL nd 2) (fD (kG (t_w (y3 (aGx (hu20 hr) (eS 2) (eS 1)) (sQ (rY (aNQ xm rfl (eT (fP (kJ rfl (cok ["first"] ["told"] [1]) (gW (eS 0) (eS 2)) (jB (by decide)) (fun _ _ _ _=>(jL (show List.Nodup (["first","told"]:List Str)by decide) 0)) (fun _ _ _ _=>hV) (fun _ _ _ _=>(aNP (hu20 hr) (eS 0) (eS 1))))) eX)))))) (fD (fV (eS 2))) iK)))
  (fD aBL))
theorem aBk(km:jA P w K mg base 2 "needed_works" 2 gH)(d72:jA P w K mg base 1 "least_ready" 2 lP)(bi:mg "len"=none):Ky P w K mg base "order_of" "order_of" (top 5) ["many","needs"] 3 (spT K 2 mL):=fun F=>okB (N:=["many","needs","needed","order"]) F gE (hW gC) fun nd hr=>
 (eV (fG nd 2 (fR km (rdn hr) (eT (eS 0) (eT (eS 1) eX))))
  (eV (fG nd 3 (lM (f6 eX)))
  (eV (nO 10 (aKB (mS bi (eT (eS 3) eX)) (eS 0)) (fD (qX (eS 3) (eT (fR d72 (rdn hr) (eT (eS 2) (eT (eS 3) eX))) eX))))
  (fD (fV (eS 3))))))
theorem aB7(d73:jA P w K mg base 3 "order_of" 2 mL)(km:jA P w K mg base 2 "needed_works" 2 gH)(bi:mg "len"=none)(jh:mg "max"=none):Ky P w K mg base "earliest" "earliest" (top 10) ["hours","needs"] 4 (spT K 2 lJ):=fun F=>okB (N:=["hours","needs","order","needed","begins","work"]) F gE (hW gC) fun nd hr=>
 (eV (fG nd 2 (fR d73 (rdn hr) (eT (mS bi (eT (eS 0) eX)) (eT (eS 1) eX))))
  (eV (fG nd 3 (fR km (rdn hr) (eT (mS bi (eT (eS 0) eX)) (eT (eS 1) eX))))
  (eV (fG nd 4 (lM (kJ rfl (cok ["work"] [] []) (eS 2) (jB (by decide)) (fun _ _ _ _=>(jL (show List.Nodup (["work"]:List Str)by decide) 0)) (fun _ _ _ _=>hV) (fun _ _ _ _=>fA))))
  (eV (l4 rfl (eS 2) (jL nd 5) (fD (pY (aIn jh rfl (fP (kJ rfl (cok ["first"] ["begins","hours"] [4,0]) (gW (eS 3) (eS 5)) (jB (by decide)) (fun _ _ _ _=>(jL (show List.Nodup (["first","begins","hours"]:List Str)by decide) 0)) (fun _ _ _ _=>hV) (fun _ _ _ _=>(hX (gW (eS 1) (eS 0)) (gW (eS 2) (eS 0)))))) fA) (eS 4) (eS 5))))
  (fD (fV (eS 4)))))))
theorem aFA(d74:jA P w K mg base 1 "done_moments" 2 j7)(d75:jA P w K mg base 4 "earliest" 2 lJ)(jh:mg "max"=none):Ky P w K mg base "length" "length" (top 11) ["hours","needs"] 5 (spT K 2 kP):=fun F=>okB (N:=["hours","needs"]) F gE (hW gC) fun nd hr=>
 (fD (fV (aIn jh rfl (fR d74 (rdn hr) (eT (fR d75 (rdn hr) (eT (eS 0) (eT (eS 1) eX))) (eT (eS 0) eX))) fA)))
theorem v6:Ky P w K mg base "least_hours" "least_hours" (top 33) ["works"] 1 (spT K 1 kL):=fun F=>okB (N:=["works"]) F gE (hW gC) fun nd hr=>
 (fD (fV (fP (kJ rfl (cok ["work"] [] []) (eS 0) (jB (by decide)) (fun _ _ _ _=>(jL (show List.Nodup (["work"]:List Str)by decide) 0)) (fun _ _ _ _=>hV) (fun _ _ _ _=>(gW (eS 0) fA))))))
theorem aAx(d76:jA P w K mg base 5 "length" 2 kP)(d77:jA P w K mg base 1 "least_hours" 1 kL):Ky P w K mg base "least_end" "least_end" (top 31) ["works","needs"] 6 (spT K 2 i6):=fun F=>okB (N:=["works","needs"]) F gE (hW gC) fun nd hr=>
 (fD (fV (fR d76 (rdn hr) (eT (fR d77 (rdn hr) (eT (eS 0) eX)) (eT (eS 1) eX)))))
theorem yW:Ky P w K mg base "steps_from" "steps_from" (top 27) ["place","flows"] 1 (spS K 2 lG):=fun F=>okB (N:=["place","flows"]) F jG kB fun nd hr=>
 (fD (fV (fP (aKt rfl (cok ["step"] ["place","flows"] [0,1]) (eS 1) (jB (by decide)) (fun _ _ _ _=>(jL (show List.Nodup (["step","place","flows"]:List Str)by decide) 0)) (fun _ _ _ _=>(vF (t_w (y3 (aBQ (hu20 hr) (gW (eS 0) fA) (eS 1)) (sQ (aBM (aA9 (hu20 hr) (eS 2) (eS 0)) fA)))))) (fun _ _ _ _=>(eS 0))))))
theorem tT(wm:uM P w K mg base 1 "steps_from" 2 lG)(kq:∃t,mg "SOURCE"=some (.int 0 t)):Ky P w K mg base "flowing_route" "flowing_route" (top 26) ["flows"] 2 (spS K 1 jV):=fun F=>okB (N:=["flows","route","steps"]) F jG kB fun nd hr=>
 (eV (fG nd 1 (lM (f6 eX)))
  (eV (fG nd 2 (kR wm (rdn hr) (eT (nA kq) (eT (eS 0) eX))))
  (eV (nO 40 (rY (eS 2)) (eV (qX (eS 1) (eT (gW (eS 2) fA) eX))
  (fD (fG nd 2 (kR wm (rdn hr) (eT (gW (gW (eS 2) fA) fA) (eT (eS 0) eX)))))))
  (fD (fV (eS 1))))))
theorem aDu:Ky P w K mg base "work_at" "work_at" (top 20) ["place"] 1 (spT K 1 pS):=fun F=>okB (N:=["place"]) F gE (hW gC) fun nd hr=>
 (fD (fV (qI (iQ (eS 0) fA) fA)))
theorem aBd(d79:jA P w K mg base 1 "work_at" 1 pS):Ky P w K mg base "works_on" "works_on" (top 29) ["route"] 2 (spS K 1 oA):=fun F=>okB (N:=["route"]) F jG kB fun nd hr=>
 (fD (fV (fP (kJ rfl (cok ["tail","head"] [] []) (fP (aNo (eS 0))) (qR (by decide)) (fun _ _ _ _=>(nK rfl (iI (show List.Nodup (["tail","head"]:List Str)by decide) 0 (iI (show List.Nodup (["tail","head"]:List Str)by decide) 1 nN)))) (fun _ _ _ _=>hV) (fun _ _ _ _=>(fR d79 (rdn hr) (eT (eS 0) eX)))))))
theorem aBz(ef:mg "min"=none):Ky P w K mg base "take_out" "take_out" (top 28) ["flows","route"] 1 (spS K 2 oK):=fun F=>okB (N:=["flows","route","amount","step"]) F jG kB fun nd hr=>
 (eV (fG nd 2 (aG7 ef rfl (eT (fP (kJ rfl (cok ["step"] ["flows"] [0]) (eS 1) (jB (by decide)) (fun _ _ _ _=>(jL (show List.Nodup (["step","flows"]:List Str)by decide) 0)) (fun _ _ _ _=>hV) (fun _ _ _ _=>(aA9 (hu20 hr) (eS 1) (eS 0))))) eX)))
  (eV (l4 rfl (eS 1) (jL nd 3) (fD (aDl (hu20 hr) (eS 0) (eS 3) (eS 2))))
  (fD (fV (eS 2)))))
theorem yV(wl:uM P w K mg base 2 "flowing_route" 1 jV)(d81:uM P w K mg base 2 "works_on" 1 oA)(d82:uM P w K mg base 1 "take_out" 2 oK)(ik:iR K "Net" "pipes")(fj:iR K "Pipe" "tail")(dy:iR K "Pipe" "head")(fg:iR K "Pipe" "room")(ff:iR K "Pipe" "back"):Ky P w K mg base "stream" "Net.stream" (inClass (top 17) 8) ["self"] 3 (spS K 1 mH):=fun F=>okB (N:=["self","flows","pipe","step","rows","route"]) F jG kB fun nd hr=>
 (eV (fG nd 1 aI5)
  (eV (l4 rfl (j3 ik (eS 0)) (jL nd 2) (eV (fG nd 3 (aAy (eT (j3 fj (eS 2)) (eT (j3 dy (eS 2)) eX))))
  (fD (aEs (hu20 hr) (eS 1) (eS 3) (hX (aIA (hu20 hr) (eS 1) (eS 3) fA) (j3 fg (j3 ff (eS 2))))))))
  (eV (fG nd 4 (lM (f6 eX)))
  (eV (fG nd 5 (kR wl (rdn hr) (eT (eS 1) eX)))
  (eV (nO (10^200) (rY (eS 5)) (eV (qX (eS 4) (eT (lM (rL (fP (f6 (eT (kR d82 (rdn hr) (eT (eS 1) (eT (eS 5) eX))) eX))) (kR d81 (rdn hr) (eT (eS 5) eX)))) eX))
  (fD (fG nd 5 (kR wl (rdn hr) (eT (eS 1) eX))))))
  (fD (fV (eS 4))))))))
theorem aBI(fj:iR K "Pipe" "tail")(dy:iR K "Pipe" "head")(kr:iR K "Pipe" "hours")(fg:iR K "Pipe" "room")(ff:iR K "Pipe" "back"):Ky P w K mg base "__init__" "Pipe.__init__" (inClass (top 16) 0) ["self","tail","head","hours","room"] 1 (spS K 5 lN):=fun F=>okB (N:=["self","tail","head","hours","room"]) F jG kB fun nd hr=>
 (eV (oG fj (eS 0) (eS 1))
  (eV (oG dy (eS 0) (eS 2))
  (eV (oG kr (eS 0) (eS 3))
  (eV (oG fg (eS 0) (eS 4))
  (fD (oG ff (eS 0) aGA))))))
theorem aDa(wj:aHp P w K mg base 1 "Pipe" 5 lN [] [])(ff:iR K "Pipe" "back")(ik:iR K "Net" "pipes"):Ky P w K mg base "lay" "Net.lay" (inClass (top 17) 1) ["self","tail","head","hours","room"] 3 (spS K 5 jD):=fun F=>okB (N:=["self","tail","head","hours","room","pipe","back"]) F jG kB fun nd hr=>
 (eV (fG nd 5 (aDr wj (rdn hr) (eT (eS 1) (eT (eS 2) (eT (eS 3) (eT (eS 4) eX))))))
  (eV (fG nd 6 (aDr wj (rdn hr) (eT (eS 2) (eT (eS 1) (eT (aNw (eS 3)) (eT fA eX))))))
  (eV (oG ff (eS 5) (eS 6))
  (eV (oG ff (eS 6) (eS 5))
  (fD (qX (j3 ik (eS 0)) (eT (eS 5) eX)))))))
theorem xM:Ky P w K mg base "begin_place" "begin_place" (top 18) ["work"] 1 (spT K 1 iN):=fun F=>okB (N:=["work"]) F gE (hW gC) fun nd hr=>
 (fD (fV (hX (jU fA (eS 0)) fA)))
theorem yO:Ky P w K mg base "done_place" "done_place" (top 19) ["work"] 1 (spT K 1 i0):=fun F=>okB (N:=["work"]) F gE (hW gC) fun nd hr=>
 (fD (fV (hX (jU fA (eS 0)) fA)))
theorem aCT{dV:Value}(ng:rW P w K mg base 3 "Net" "lay" 5 jD)(km:jA P w K mg base 2 "needed_works" 2 gH)(qc:jA P w K mg base 1 "begin_place" 1 iN)(pz:jA P w K mg base 1 "done_place" 1 i0)(ik:iR K "Net" "pipes")(qe:iR K "Net" "places")(vj:mg "enumerate"=none)(bi:mg "len"=none)(mf:mg "sum"=none)(kq:∃t,mg "SOURCE"=some (.int 0 t))(ij:∃t,mg "SINK"=some (.int 1 t))(F:aHC K "__init__" "Net.__init__" (inClass (top 17) 0) f fd dV):mW P w K mg base CX0 4 f fd ["self","works","needs","bonus"] (spS K 4 nL):=okD (N:=["self","works","needs","bonus","plenty","number","work","second","firsts","first"]) F jG kB fun nd hr=>
 (eV (oG ik (eS 0) (lM (f6 eX)))
  (eV (oG qe (eS 0) (hX (jU fA (mS bi (eT (eS 1) eX))) fA))
  (eV (fG nd 4 (hX (hX (aGU mf rfl (eT (fP (kJ rfl (cok ["work"] [] []) (eS 1) (jB (by decide)) (fun _ _ _ _=>(jL (show List.Nodup (["work"]:List Str)by decide) 0)) (fun _ _ _ _=>hV) (fun _ _ _ _=>(gW (eS 0) fA)))) eX)) (eS 3)) fA))
  (eV (aDR vj rfl (eS 1) (nK rfl (iI nd 5 (iI nd 6 nN))) (eV (m9 (aB0 ng (rdn hr) (eS 0) (eT (nA kq) (eT (fR qc (rdn hr) (eT (eS 5) eX)) (eT fA (eT (eS 4) eX))))))
  (eV (m9 (aB0 ng (rdn hr) (eS 0) (eT (fR qc (rdn hr) (eT (eS 5) eX)) (eT (fR pz (rdn hr) (eT (eS 5) eX)) (eT (gW (eS 6) fA) (eT (gW (eS 6) fA) eX))))))
  (eV (m9 (aB0 ng (rdn hr) (eS 0) (eT (fR qc (rdn hr) (eT (eS 5) eX)) (eT (fR pz (rdn hr) (eT (eS 5) eX)) (eT (gW (eS 6) fA) (eT (eS 4) eX))))))
  (fD (m9 (aB0 ng (rdn hr) (eS 0) (eT (fR pz (rdn hr) (eT (eS 5) eX)) (eT (nA ij) (eT fA (eT (eS 4) eX)))))))))))
  (fD (aDR vj rfl (fR km (rdn hr) (eT (mS bi (eT (eS 1) eX)) (eT (eS 2) eX))) (nK rfl (iI nd 7 (iI nd 8 nN))) (fD (l4 rfl (eS 8) (jL nd 9) (fD (m9 (aB0 ng (rdn hr) (eS 0) (eT (fR pz (rdn hr) (eT (eS 9) eX)) (eT (fR qc (rdn hr) (eT (eS 7) eX)) (eT fA (eT (eS 4) eX)))))))))))))))
theorem rF(ik:iR K "Net" "pipes")(ff:iR K "Pipe" "back")(fg:iR K "Pipe" "room"):Ky P w K mg base "open_pipes" "Net.open_pipes" (inClass (top 17) 6) ["self"] 1 (spS K 1 i8):=fun F=>okB (N:=["self","both"]) F jG kB fun nd hr=>
 (eV (fG nd 1 (fP (rL (j3 ik (eS 0)) (fP (kJ rfl (cok ["pipe"] [] []) (j3 ik (eS 0)) (jB (by decide)) (fun _ _ _ _=>(jL (show List.Nodup (["pipe"]:List Str)by decide) 0)) (fun _ _ _ _=>hV) (fun _ _ _ _=>(j3 ff (eS 0))))))))
  (fD (fV (fP (kJ rfl (cok ["pipe"] [] []) (eS 1) (jB (by decide)) (fun _ _ _ _=>(jL (show List.Nodup (["pipe"]:List Str)by decide) 0)) (fun _ _ _ _=>(vF (aBM (j3 fg (eS 0)) fA))) (fun _ _ _ _=>(eS 0)))))))
theorem tL(kr:iR K "Pipe" "hours")(fj:iR K "Pipe" "tail")(dy:iR K "Pipe" "head"):Ky P w K mg base "raise_moments" "raise_moments" (top 21) ["moments","pipes"] 1 (spS K 2 kS):=fun F=>okB (N:=["moments","pipes","raised","pipe","reached"]) F jG kB fun nd hr=>
 (eV (fG nd 2 aFv)
  (eV (l4 rfl (eS 1) (jL nd 3) (eV (fG nd 4 (hX (gW (eS 0) (j3 fj (eS 3))) (j3 kr (eS 3))))
  (fD (kG (aBM (eS 4) (gW (eS 0) (j3 dy (eS 3)))) (eV (pY (eS 4) (eS 0) (j3 dy (eS 3)))
  (fD (fG nd 2 aFv))) iK))))
  (fD (fV (eS 2)))))
theorem wL(pw:rW P w K mg base 1 "Net" "open_pipes" 1 i8)(zx:uM P w K mg base 1 "raise_moments" 2 kS)(qe:iR K "Net" "places")(bf:mg "range"=none)(ij:∃t,mg "SINK"=some (.int 1 t)):Ky P w K mg base "moments" "Net.moments" (inClass (top 17) 4) ["self","end"] 2 (spS K 2 jX):=fun F=>okB (N:=["self","end","found","pipes"]) F jG kB fun nd hr=>
 (eV (nM nd 2 bf rfl (cok ["place"] [] []) (j3 qe (eS 0)) (jB (by decide)) (fun _ _ _ _=>(jL (show List.Nodup (["place"]:List Str)by decide) 0)) (fun _ _ _ _=>hV) (fun _ _ _ _=>fA))
  (eV (pY (eS 1) (eS 2) (nA ij))
  (eV (fG nd 3 (aIc pw (rdn hr) (eS 0)))
  (eV (nO (10^200) (rY (kR zx (rdn hr) (eT (eS 2) (eT (eS 3) eX)))) (fD aKE))
  (fD (fV (eS 2)))))))
theorem vZ(fj:iR K "Pipe" "tail")(dy:iR K "Pipe" "head"):Ky P w K mg base "next_routes" "next_routes" (top 23) ["routes","pipes"] 1 (spS K 2 lR):=fun F=>okB (N:=["routes","pipes","fresh","pipe"]) F jG kB fun nd hr=>
 (eV (fG nd 2 aKo)
  (eV (l4 rfl (eS 1) (jL nd 3) (fD (kG (t_w (y3 (aNu (hu20 hr) (j3 fj (eS 3)) (eS 0)) (sQ (aGd (hu20 hr) (j3 dy (eS 3)) (eS 0))))) (fD (aEs (hu20 hr) (eS 2) (j3 dy (eS 3)) (fP (rL (aA9 (hu20 hr) (eS 0) (j3 fj (eS 3))) (fP (f6 (eT (eS 3) eX))))))) iK)))
  (fD (fV (eS 2)))))
theorem wV(zw:uM P w K mg base 1 "next_routes" 2 lR)(kr:iR K "Pipe" "hours")(dy:iR K "Pipe" "head")(fj:iR K "Pipe" "tail")(kq:∃t,mg "SOURCE"=some (.int 0 t))(ij:∃t,mg "SINK"=some (.int 1 t)):Ky P w K mg base "tight_route" "tight_route" (top 22) ["pipes","moments"] 2 (spS K 2 lQ):=fun F=>okB (N:=["pipes","moments","tight","routes"]) F jG kB fun nd hr=>
 (eV (aAX nd 2 rfl (cok ["pipe"] ["moments"] [1]) (eS 0) (jB (by decide)) (fun _ _ _ _=>(jL (show List.Nodup (["pipe","moments"]:List Str)by decide) 0)) (fun _ _ _ _=>(vF (aBQ (hu20 hr) (hX (gW (eS 1) (j3 fj (eS 0))) (j3 kr (eS 0))) (gW (eS 1) (j3 dy (eS 0)))))) (fun _ _ _ _=>(eS 0)))
  (eV (fG nd 3 (aKA (nA kq) (fP (f6 eX))))
  (eV (nO 40 (aGd (hu20 hr) (nA ij) (eS 3)) (fD (m9 (aMt (eS 3) (kR zw (rdn hr) (eT (eS 3) (eT (eS 2) eX)))))))
  (fD (fV (aA9 (hu20 hr) (eS 3) (nA ij)))))))
theorem aIC(fg:iR K "Pipe" "room")(ff:iR K "Pipe" "back"):Ky P w K mg base "pour" "pour" (top 25) ["route","amount"] 1 (spS K 2 aAl):=fun F=>okB (N:=["route","amount","pipe"]) F jG kB fun nd hr=>
 (fD (l4 rfl (eS 0) (jL nd 2) (eV (aEB fg (eS 2) (eS 1))
  (fD (aEH fg (j3 ff (eS 2)) (eS 1))))))
theorem aC9(fg:iR K "Pipe" "room")(ef:mg "min"=none):Ky P w K mg base "room_on" "room_on" (top 24) ["route"] 1 (spS K 1 qC):=fun F=>okB (N:=["route"]) F jG kB fun nd hr=>
 (fD (fV (aG7 ef rfl (eT (fP (kJ rfl (cok ["pipe"] [] []) (eS 0) (jB (by decide)) (fun _ _ _ _=>(jL (show List.Nodup (["pipe"]:List Str)by decide) 0)) (fun _ _ _ _=>hV) (fun _ _ _ _=>(j3 fg (eS 0))))) eX))))
theorem aCq(wg:rW P w K mg base 2 "Net" "moments" 2 jX)(zv:uM P w K mg base 2 "tight_route" 2 lQ)(zu:uM P w K mg base 1 "pour" 2 aAl)(pw:rW P w K mg base 1 "Net" "open_pipes" 1 i8)(zt:uM P w K mg base 1 "room_on" 1 qC)(ij:∃t,mg "SINK"=some (.int 1 t)):Ky P w K mg base "fill" "Net.fill" (inClass (top 17) 2) ["self","end"] 3 (spS K 2 oB):=fun F=>okB (N:=["self","end","moments","route"]) F jG kB fun nd hr=>
 (eV (fG nd 2 (aB0 wg (rdn hr) (eS 0) (eT fA eX)))
  (fD (nO (10^200) (aBM (gW (eS 2) (nA ij)) (eS 1)) (eV (fG nd 3 (kR zv (rdn hr) (eT (aIc pw (rdn hr) (eS 0)) (eT (eS 2) eX))))
  (eV (m9 (kR zu (rdn hr) (eT (eS 3) (eT (kR zt (rdn hr) (eT (eS 3) eX)) eX))))
  (fD (fG nd 2 (aB0 wg (rdn hr) (eS 0) (eT fA eX)))))))))
theorem yM(zr:aHp P w K mg base 4 "Net" 4 nL [.int 0] [.int 0])(zq:rW P w K mg base 3 "Net" "fill" 2 oB):Ky P w K mg base "filled_net" "filled_net" (top 34) ["works","needs","end"] 6 (spS K 3 mC):=fun F=>okB (N:=["works","needs","end","net"]) F jG kB fun nd hr=>
 (eV (fG nd 3 (aDr zr (rdn hr) (eT (eS 0) (eT (eS 1) eX))))
  (eV (m9 (aB0 zq (rdn hr) (eS 3) (eT (eS 2) eX)))
  (fD (fV (eS 3)))))
theorem aAt(zp:rW P w K mg base 3 "Net" "stream" 1 mH)(pq:jA P w K mg base 6 "least_end" 2 i6)(zo:uM P w K mg base 6 "filled_net" 3 mC):Ky P w K mg base "stream_at" "stream_at" (top 32) ["works","needs","end"] 7 (aCI K 3 kD):=fun F=>okB (N:=["works","needs","end"]) F aGj (aKm aIg) fun nd hr=>
 (eV (kG (aKB (eS 2) (fR pq (rdn hr) (eT (eS 0) (eT (eS 1) eX)))) (fD (fV aGA)) iK)
  (fD (fV (aIc zp (rdn hr) (kR zo (rdn hr) (eT (eS 0) (eT (eS 1) (eT (eS 2) eX))))))))
theorem aBe(zn:jA P w K mg base 2 "worth" 3 u6)(pq:jA P w K mg base 6 "least_end" 2 i6)(nk:aHn P w K mg base 7 "stream_at" 3 kD):Ky P w K mg base "price_at" "price_at" (top 40) ["works","needs","end"] 8 (spT K 3 gD):=fun F=>okB (N:=["works","needs","end"]) F gE (hW gC) fun nd hr=>
 (eV (kG (aKB (eS 2) (fR pq (rdn hr) (eT (eS 0) (eT (eS 1) eX)))) (fD (fV aGA)) iK)
  (fD (fV (fR zn (rdn hr) (eT (eS 0) (eT (aJI nk (rdn hr) (eT (eS 0) (eT (eS 1) (eT (eS 2) eX)))) (eT (eS 2) eX)))))))
theorem aIq(vh:mg "isinstance"=none)(cw:mg "int"=none)(xl:mg "bool"=none):Ky P w K mg base "_law_whole" "_law_whole" (top 42) ["_law_found"] 1 (spT K 1 p5):=fun F=>okB (N:=["_law_found"]) F gE (hW gC) fun nd hr=>
 (fD (fV (aHF (aE7 vh cw (eS 0)) (aK4 (aNT (aC6 vh xl (eS 0)))))))
theorem aBn(ii:jA P w K mg base 3 "_law_amid" 3 lW)(cn:jA P w K mg base 8 "price_at" 3 gD)(ko:jA P w K mg base 1 "_law_whole" 1 p5):Ky P w K mg base "_law_dearer" "_law_dearer" (top 54) ["_law_works","_law_needs","_law_more_here","_law_others","_law_cell"] 9 (spT K 5 jJ):=fun F=>okB (N:=["_law_works","_law_needs","_law_more_here","_law_others","_law_cell","_law_end","_law_price","_law_found"]) F gE (hW gC) fun nd hr=>
 (eV (fG nd 5 (fR ii (rdn hr) (eT (eS 2) (eT (eS 3) (eT (eS 4) eX)))))
  (eV (fG nd 6 (fR cn (rdn hr) (eT (eS 0) (eT (eS 1) (eT (eS 5) eX)))))
  (eV (fG nd 7 (fR cn (rdn hr) (eT (eS 2) (eT (eS 3) (eT (eS 5) eX)))))
  (fD (fV (aHF (fR ko (rdn hr) (eT (eS 6) eX)) (aHF (fR ko (rdn hr) (eT (eS 7) eX)) (aK4 (aOo (eS 7) (eS 6))))))))))
theorem aC7(bf:mg "range"=none):Ky P w K mg base "_law_leads" "_law_leads" (top 52) ["_law_many","_law_needs","_law_one","_law_other"] 1 (spT K 4 mK):=fun F=>okB (N:=["_law_many","_law_needs","_law_one","_law_other","_law_behind","_law_k"]) F gE (hW gC) fun nd hr=>
 (eV (fG nd 4 (fP (f6 (eT (eS 2) eX))))
  (eV (lT bf rfl (eS 0) (jL nd 5) (fD (fG nd 4 (fP (rL (eS 4) (fP (kJ rfl (cok ["_law_a","_law_b"] ["_law_behind"] [4]) (eS 1) (qR (by decide)) (fun _ _ _ _=>(nK rfl (iI (show List.Nodup (["_law_a","_law_b","_law_behind"]:List Str)by decide) 0 (iI (show List.Nodup (["_law_a","_law_b","_law_behind"]:List Str)by decide) 1 nN)))) (fun _ _ _ _=>(vF (t_w (y3 (aOs (hu20 hr) (eS 0) (eS 2)) (sQ (aGx (hu20 hr) (eS 1) (eS 2))))))) (fun _ _ _ _=>(eS 1)))))))))
  (fD (fV (aNP (hu20 hr) (eS 3) (eS 4))))))
theorem aE9(da:jA P w K mg base 1 "_law_cell_at" 2 gK)(dw:jA P w K mg base 1 "_law_mixed" 2 iX)(kn:jA P w K mg base 9 "_law_dearer" 5 jJ)(nj:jA P w K mg base 1 "_law_leads" 4 mK)(bi:mg "len"=none)(og:mg "list"=none):Ky P w K mg base "_law_more" "_law_more" (top 55) ["_law_works","_law_needs","_law_script"] 10 (spT K 3 pR):=fun F=>okB (N:=["_law_works","_law_needs","_law_script","_law_cell","_law_many","_law_a","_law_b","_law_at","_law_number","_law_more_here","_law_others"]) F gE (hW gC) fun nd hr=>
 (eV (fG nd 3 (fR da (rdn hr) (eT (eS 2) (eT fA eX))))
  (eV (fG nd 4 (mS bi (eT (eS 0) eX)))
  (eV (kG (aBM (eS 4) fA) (eV (fG nd 5 (gL (iQ (eS 3) fA) (eS 4)))
  (eV (fG nd 6 (gL (hX (hX (eS 5) fA) (gL (iQ (eS 3) fA) (qI (eS 4) fA))) (eS 4)))
  (eV (kG (rY (fR nj (rdn hr) (eT (eS 4) (eT (eS 1) (eT (eS 6) (eT (eS 5) eX)))))) (fD (aM7 rfl nd 5 6 (eT (eS 6) (eT (eS 5) eX)))) iK)
  (eV (fG nd 7 (gL (iQ (eS 3) fA) (hX (mS bi (eT (eS 1) eX)) fA)))
  (fD (kG (aD7 (rY (fR kn (rdn hr) (eT (eS 0) (eT (eS 1) (eT (eS 0) (eT (fP (rL (fP (rL (fP (sF (eS 1) o6 (yG (eS 7)))) (fP (f6 (eT (fP (f6 (eT (eS 5) (eT (eS 6) eX)))) eX))))) (fP (sF (eS 1) (yG (eS 7)) o6)))) (eT (eS 3) eX)))))))) (fD (fV aFv)) iK)))))) iK)
  (eV (fG nd 8 (fR dw (rdn hr) (eT (eS 3) (eT fA eX))))
  (eV (fG nd 9 (fP (rL (eS 0) (fP (f6 (eT (fP (f6 (eT (gL (eS 8) fA) (eT (vG (gL (eS 8) fA) (hX fA (gL (iQ (eS 8) fA) fA))) (eT (gL (iQ (eS 8) fA) fA) eX))))) eX))))))
  (eV (fG nd 10 (fP (aHs og (eT (eS 1) eX))))
  (eV (kG (t_w (y3 (aBM (eS 4) fA) (sQ (aBM (gL (iQ (eS 8) fA) fA) fA)))) (fD (fG nd 10 (fP (rL (eS 10) (fP (f6 (eT (gW (fP (f6 (eT (fP (f6 (eT (gL (iQ (eS 8) fA) (eS 4)) (eT (eS 4) eX)))) (eT (fP (f6 (eT (eS 4) (eT (gL (iQ (eS 8) fA) (eS 4)) eX)))) eX)))) (qI (gL (iQ (eS 8) fA) fA) fA)) eX))))))) iK)
  (fD (fV (fR kn (rdn hr) (eT (eS 0) (eT (eS 1) (eT (eS 9) (eT (eS 10) (eT (iQ (eS 3) fA) eX)))))))))))))))
theorem aMm(ni:jA P w K mg base 3 "_law_lot" 3 sO)(da:jA P w K mg base 1 "_law_cell_at" 2 gK)(ii:jA P w K mg base 3 "_law_amid" 3 lW)(cn:jA P w K mg base 8 "price_at" 3 gD)(qd:jA P w K mg base 2 "_law_names" 2 lU)(nh:jA P w K mg base 10 "_law_more" 3 pR)(dw:jA P w K mg base 1 "_law_mixed" 2 iX)(bi:mg "len"=none)(bf:mg "range"=none)(og:mg "list"=none):Ky P w K mg base "law" "law" (top 56) ["_law_script"] 11 (spT K 1 aEj):=fun F=>okB (N:=["_law_script","_law_works","_law_needs","_law_cell","_law_many","_law_end","_law_price","_law_names_here","_law_turned","_law_k","_law_times","_law_larger","_law_dearer_here"]) F gE (hW gC) fun nd hr=>
 (eV (aGT (fR ni (rdn hr) (eT (eS 0) (eT fA (eT (aHH fA fA) eX)))) (nK rfl (iI nd 1 (iI nd 2 nN))))
  (eV (fG nd 3 (fR da (rdn hr) (eT (eS 0) (eT fA eX))))
  (eV (fG nd 4 (mS bi (eT (eS 1) eX)))
  (eV (kG (aD7 (rY (fR nh (rdn hr) (eT (eS 1) (eT (eS 2) (eT (eS 0) eX)))))) (fD (fV aFv)) iK)
  (eV (fG nd 5 (fR ii (rdn hr) (eT (eS 1) (eT (eS 2) (eT (iQ (eS 3) fA) eX)))))
  (eV (fG nd 6 (fR cn (rdn hr) (eT (eS 1) (eT (eS 2) (eT (eS 5) eX)))))
  (eV (fG nd 7 (fR qd (rdn hr) (eT (fR dw (rdn hr) (eT (eS 3) (eT fA eX))) (eT (eS 4) eX))))
  (eV (nM nd 8 bf rfl (cok ["_law_k"] [] []) (eS 4) (jB (by decide)) (fun _ _ _ _=>(jL (show List.Nodup (["_law_k"]:List Str)by decide) 0)) (fun _ _ _ _=>hV) (fun _ _ _ _=>(fP (f6 eX))))
  (eV (lT bf rfl (eS 4) (jL nd 9) (fD (pY (fP (aHs og (eT (gW (eS 1) (eS 9)) eX))) (eS 8) (gW (eS 7) (eS 9)))))
  (eV (kG (aND (hu20 hr) (fR cn (rdn hr) (eT (eS 8) (eT (fP (kJ rfl (cok ["_law_a","_law_b"] ["_law_names_here"] [7]) (eS 2) (qR (by decide)) (fun _ _ _ _=>(nK rfl (iI (show List.Nodup (["_law_a","_law_b","_law_names_here"]:List Str)by decide) 0 (iI (show List.Nodup (["_law_a","_law_b","_law_names_here"]:List Str)by decide) 1 nN)))) (fun _ _ _ _=>hV) (fun _ _ _ _=>(fP (f6 (eT (gW (eS 2) (eS 0)) (eT (gW (eS 2) (eS 1)) eX))))))) (eT (eS 5) eX)))) (eS 6)) (fD (fV aFv)) iK)
  (eV (fG nd 10 (hX fA (gL (eS 3) fA)))
  (eV (aAX nd 11 rfl (cok ["_law_usual","_law_least","_law_one"] ["_law_times"] [10]) (eS 1) (qR (by decide)) (fun _ _ _ _=>(nK rfl (iI (show List.Nodup (["_law_usual","_law_least","_law_one","_law_times"]:List Str)by decide) 0 (iI (show List.Nodup (["_law_usual","_law_least","_law_one","_law_times"]:List Str)by decide) 1 (iI (show List.Nodup (["_law_usual","_law_least","_law_one","_law_times"]:List Str)by decide) 2 nN))))) (fun _ _ _ _=>hV) (fun _ _ _ _=>(fP (f6 (eT (jU (eS 3) (eS 0)) (eT (jU (eS 3) (eS 1)) (eT (eS 2) eX)))))))
  (eV (kG (aND (hu20 hr) (fR cn (rdn hr) (eT (eS 11) (eT (eS 2) (eT (jU (eS 10) (eS 5)) eX)))) (jU (eS 10) (eS 6))) (fD (fV aFv)) iK)
  (eV (aAX nd 12 rfl (cok ["_law_usual","_law_least","_law_one"] ["_law_times"] [10]) (eS 1) (qR (by decide)) (fun _ _ _ _=>(nK rfl (iI (show List.Nodup (["_law_usual","_law_least","_law_one","_law_times"]:List Str)by decide) 0 (iI (show List.Nodup (["_law_usual","_law_least","_law_one","_law_times"]:List Str)by decide) 1 (iI (show List.Nodup (["_law_usual","_law_least","_law_one","_law_times"]:List Str)by decide) 2 nN))))) (fun _ _ _ _=>hV) (fun _ _ _ _=>(fP (f6 (eT (eS 0) (eT (eS 1) (eT (jU (eS 3) (eS 2)) eX)))))))
  (fD (fV (aN3 (hu20 hr) (fR cn (rdn hr) (eT (eS 12) (eT (eS 2) (eT (eS 5) eX)))) (jU (eS 10) (eS 6)))))))))))))))))))
end
set_option maxHeartbeats 0 in
theorem aMz{l:aP4}{w:World}{K:aO}{h:Heap}{mg:Str->Option Value}{fa:Addr}(X:K.In h)(G:h.Ns mainGlobals mg)(hfa:mg "law"=some (.ref fa))
 {nq:Addr}(h60:Cm K "Pipe" nq)
 {jr:Addr}(h61:Cm K "Net" jr)
 (v60:bU K (.ref jr) "pipes"=some none)
 (v61:bU K (.ref nq) "tail"=some none)
 (v62:bU K (.ref nq) "head"=some none)
 (v63:bU K (.ref nq) "room"=some none)
 (v64:bU K (.ref nq) "back"=some none)
 (v65:bU K (.ref nq) "hours"=some none)
 (v66:bU K (.ref jr) "places"=some none)
 (a1:Nm K "_law_mixed" (top 44))
 (a2:Nm K "_law_cell_at" (top 43))
 (a3:Nm K "_law_numbers" (top 46))
 (a4:Nm K "_law_names" (top 45))
 (a5:Nm K "_law_lot_free" (top 48))
 (a6:Nm K "_law_work" (top 47))
 (a7:Nm K "_law_lot" (top 49))
 (a8:Nm K "_law_length" (top 50))
 (a9:Nm K "_law_ends" (top 51))
 (a10:Nm K "_law_amid" (top 53))
 (a11:Nm K "through" (top 36))
 (a12:Nm K "work_worth" (top 38))
 (a13:Nm K "worth" (top 37))
 (a14:Nm K "done_moments" (top 12))
 (a15:Nm K "is_work" (top 6))
 (a16:Nm K "needed_works" (top 7))
 (a17:Nm K "least_ready" (top 8))
 (a18:Nm K "order_of" (top 5))
 (a19:Nm K "earliest" (top 10))
 (a20:Nm K "length" (top 11))
 (a21:Nm K "least_hours" (top 33))
 (a22:Nm K "least_end" (top 31))
 (a23:Nm K "steps_from" (top 27))
 (a24:Nm K "flowing_route" (top 26))
 (a25:Nm K "work_at" (top 20))
 (a26:Nm K "works_on" (top 29))
 (a27:Nm K "take_out" (top 28))
 (a28:Mm K jr "stream" "Net.stream" (inClass (top 17) 8))
 (a29:Mm K nq "__init__" "Pipe.__init__" (inClass (top 16) 0))
 (a30:Mm K jr "lay" "Net.lay" (inClass (top 17) 1))
 (a31:Nm K "begin_place" (top 18))
 (a32:Nm K "done_place" (top 19))
 {uq:Addr}{xf an33:Option Addr}{wx:Array (Option Value)}{xh xp zm xa uv ct33:Value}
 {T33:Addr}
 (a33:bU K (.ref jr) "__init__"=some (some (.ref uq)))(l33:K.lookup uq=some ⟨xh,xf,.func (cP "__init__" "Net.__init__" (jM (inClass (top 17) 0)) (iZ (inClass (top 17) 0)) (f9 (inClass (top 17) 0)) (.ref T33) xp zm xa an33 uv ct33),wx⟩)(c33:dU K uv "Net.__init__"=true)(k33:cR K (.ref uq)=true)
 (n33:aOR K (.ref uq)=true)
 {qo:Value}{qm:Option Addr}{wv:Nat}{qk:Array (Option Value)}{qj:Tok}(d33:K.lookup T33=some ⟨qo,qm,.seq #[.int 0 qj] wv,qk⟩)
 (a34:Mm K jr "open_pipes" "Net.open_pipes" (inClass (top 17) 6))
 (a35:Nm K "raise_moments" (top 21))
 (a36:Mm K jr "moments" "Net.moments" (inClass (top 17) 4))
 (a37:Nm K "next_routes" (top 23))
 (a38:Nm K "tight_route" (top 22))
 (a39:Nm K "pour" (top 25))
 (a40:Nm K "room_on" (top 24))
 (a41:Mm K jr "fill" "Net.fill" (inClass (top 17) 2))
 (a42:Nm K "filled_net" (top 34))
 (a43:Nm K "stream_at" (top 32))
 (a44:Nm K "price_at" (top 40))
 (a45:Nm K "_law_whole" (top 42))
 (a46:Nm K "_law_dearer" (top 54))
 (a47:Nm K "_law_leads" (top 52))
 (a48:Nm K "_law_more" (top 55))
 {zg:Addr}{xc uw:Option Addr}{ww:Array (Option Value)}{xg rn ur qz nl ut:Value}
 (a49:bZ K mainGlobals "law"=some (some (.ref zg)))(l49:K.lookup zg=some ⟨xg,xc,.func (cP "law" "law" (jM (top 56)) (iZ (top 56)) (f9 (top 56)) .none rn ur qz uw nl ut),ww⟩)(c49:dU K nl "law"=true)(k49:cR K (.ref zg)=true)
 (z60:bZ K mainGlobals "len"=some none)
 (z61:bZ K mainGlobals "range"=some none)
 (z62:bZ K mainGlobals "min"=some none)
 (z63:bZ K mainGlobals "int"=some none)
 (z64:bZ K mainGlobals "max"=some none)
 (z65:bZ K mainGlobals "sum"=some none)
 (z66:bZ K mainGlobals "zip"=some none)
 (z67:bZ K mainGlobals "all"=some none)
 (z68:bZ K mainGlobals "enumerate"=some none)
 (z69:bZ K mainGlobals "isinstance"=some none)
 (z70:bZ K mainGlobals "bool"=some none)
 (z71:bZ K mainGlobals "list"=some none)
 {u60:Tok}(y60:bZ K mainGlobals "SOURCE"=some (some (.int 0 u60)))
 {u61:Tok}(y61:bZ K mainGlobals "SINK"=some (some (.int 1 u61))):
 ∃fd:FuncData,(∀(s:Shared)(v:Value),BindsTo s fd ⟨[v],[]⟩ [("_law_script",v)])/\∀base:Heap,K.In base->base.Ns mainGlobals mg->mW l.prog w K mg base CX0 11 fa fd ["_law_script"] (spT K 1 aEj):=by
 have e:=hfa.symm.trans (aOM X G a49);cases e;have ik:iR K "Net" "pipes":=iR.of h61.e h61.c v60;have fj:iR K "Pipe" "tail":=iR.of h60.e h60.c v61;have dy:iR K "Pipe" "head":=iR.of h60.e h60.c v62;have fg:iR K "Pipe" "room":=iR.of h60.e h60.c v63;have ff:iR K "Pipe" "back":=iR.of h60.e h60.c v64;have kr:iR K "Pipe" "hours":=iR.of h60.e h60.c v65;have qe:iR K "Net" "places":=iR.of h61.e h61.c v66;have bi:=cJ X G z60;have bf:=cJ X G z61;have ef:=cJ X G z62;have cw:=cJ X G z63;have jh:=cJ X G z64;have mf:=cJ X G z65;have oh:=cJ X G z66;have xm:=cJ X G z67;have vj:=cJ X G z68;have vh:=cJ X G z69;have xl:=cJ X G z70;have og:=cJ X G z71;have kq:∃t,mg "SOURCE"=some (.int 0 t):=⟨_,aOM X G y60⟩;have ij:∃t,mg "SINK"=some (.int 1 t):=⟨_,aOM X G y61⟩
 refine⟨cP "law" "law" (jM (top 56)) (iZ (top 56)) (f9 (top 56)) .none rn ur qz uw nl ut,fun s v=>.of_eq rfl,fun base _ _=>?_⟩
 have xT:= @mkT l.prog w K mg base h;have xS:= @mkS l.prog w K mg base h;have qh:= @mkMe l.prog w K mg base;have xI:= @mkI l.prog w K mg base h;have xRc:= @mkRc l.prog w K mg base h;have dw:=xT X G a1 aFp;have da:=xT X G a2 (aC2 bi);have d62:=xT X G a3 (aBx dw da bf ef bi);have qd:=xT X G a4 (aFP dw bf);have d64:=xT X G a5 (yQ da bf cw);have d65:=xT X G a6 (aE8 cw);have ni:=xT X G a7 (aHU d62 da qd d64 d65 bf ef cw bi);have wt:=xT X G a8 (aCy bf jh bi);have d67:=xT X G a9 (aH5 wt cw);have ii:=xT X G a10 (aFz d67 dw);have d68:=xT X G a11 (aDn bf);have d69:=xT X G a12 yH;have zn:=xT X G a13 (aGI d68 d69 mf bi oh);have d74:=xT X G a14 (uV oh);have wn:=xT X G a15 aDv;have km:=xT X G a16 (uW wn bf);have d72:=xT X G a17 (wF bf bi xm);have d73:=xT X G a18 (aBk km d72 bi);have d75:=xT X G a19 (aB7 d73 km bi jh);have d76:=xT X G a20 (aFA d74 d75 jh);have d77:=xT X G a21 v6;have pq:=xT X G a22 (aAx d76 d77);have wm:=xS X G a23 yW;have wl:=xS X G a24 (tT wm kq);have d79:=xT X G a25 aDu;have d81:=xS X G a26 (aBd d79);have d82:=xS X G a27 (aBz ef);have zp:=qh h61 a28 (yV wl d81 d82 ik fj dy fg ff);have wj:=xI X G h60 a29 (aBI fj dy kr fg ff);have ng:=qh h61 a30 (aDa wj ff ik);have qc:=xT X G a31 xM;have pz:=xT X G a32 yO;have F33:=aJn (st:=(inClass (top 17) 0)) l33 c33;have zr:aHp l.prog w K mg base 4 "Net" 4 nL [.int 0] [.int 0]:=⟨⟨jr,uq,_,["self","works","needs","bonus"],[.int 0 qj],h61.e,aOM X G h61.e,⟨h61.mi,a33,n33,h61.kp⟩,aCT ng km qc pz ik qe vj bi mf kq ij F33,aCE 3 rfl d33 rfl (fun us hl=>match us,hl with| [_,_,_],_=>⟨_,rfl,rfl⟩),(.cons ⟨_,rfl⟩ .nil)⟩,fun _ _=>(.cons .int .nil)⟩;have pw:=qh h61 a34 (rF ik ff fg);have zx:=xS X G a35 (tL kr fj dy);have wg:=qh h61 a36 (wL pw zx qe bf ij);have zw:=xS X G a37 (vZ fj dy);have zv:=xS X G a38 (wV zw kr dy fj kq ij);have zu:=xS X G a39 (aIC fg ff);have zt:=xS X G a40 (aC9 fg ef);have zq:=qh h61 a41 (aCq wg zv zu pw zt ij);have zo:=xS X G a42 (yM zr zq);have nk:=xRc X G a43 (aAt zp pq zo);have cn:=xT X G a44 (aBe zn pq nk);have ko:=xT X G a45 (aIq vh cw xl);have kn:=xT X G a46 (aBn ii cn ko);have nj:=xT X G a47 (aC7 bf);have nh:=xT X G a48 (aE9 da dw kn nj bi og)
 exact(aMm ni da ii cn qd nh dw bi bf og) (aDm l49 c49 k49)
end K93
open PySem PySem.W PyProof.Rows
local macro_rules| `(tactic|walk_at "kN")=>`(tactic| (refine' TL.Nm.of ?a ?l ?c ?k;(case a=>k_is);(case l=>k_is);(case c=>k_is);(case k=>k_is)))
local macro_rules| `(tactic|walk_at "kM")=>`(tactic| (refine' TL.Mm.of ?a ?l ?c ?k ?n;(case a=>k_is);(case l=>k_is);(case c=>k_is);(case k=>k_is);(case n=>k_is)))
local macro_rules| `(tactic|walk_at "kC")=>`(tactic| (refine'⟨?e,⟨?p,?h,?o,?s⟩,?m,?k⟩;(case e=>k_is);(case p=>k_is);(case h=>k_is);(case o=>k_is);(case s=>k_is);(case m=>k_is);(case k=>k_is)))
set_option maxRecDepth 100000 in
set_option maxHeartbeats 0 in
theorem PySem.Challenge.cw_hastebook_k93_whole_works_changed_holds : PySem.Challenge.rw_hastebook_k93_whole_works_changed.Holds := by
 refine holds_law (by decide+kernel) fun said=>?_;refine holds_open (q:=HT.vw) (YP:=Hook.says (kHook HT.KH HT.KA HT.ka)) (N:=4080) HT.left (Hook.of (kHook HT.KH HT.KA HT.ka)) (Hook.keeps _) HT.xs XL.keeps rfl rfl rfl HT.rs rfl (by first|assumption|decide+kernel) (by decide+kernel) ⟨rfl,rfl,rfl,rfl,rfl,by decide+kernel⟩ ?hw ?hc;(case hw=>w_witness2)
 k_fill
 refine TL.aEK (l:=PySem.Challenge.rw_hastebook_k93_whole_works_changed) (x:="_law_script") (R:=K93.aEj) (k:=11) rfl rfl ⟨rfl,by decide,by decide⟩ (fun w h Y=>PySem.W.kIn_of Y) K93.aH6 ?F
 case F=>
  intro w mg fa h KX G ym;refine' K93.aMz KX G ym ?h60 ?h61 ?v60 ?v61 ?v62 ?v63 ?v64 ?v65 ?v66 ?a1 ?a2 ?a3 ?a4 ?a5 ?a6 ?a7 ?a8 ?a9 ?a10 ?a11 ?a12 ?a13 ?a14 ?a15 ?a16 ?a17 ?a18 ?a19 ?a20 ?a21 ?a22 ?a23 ?a24 ?a25 ?a26 ?a27 ?a28 ?a29 ?a30 ?a31 ?a32 ?a33 ?l33 ?c33 ?k33 ?n33 ?d33 ?a34 ?a35 ?a36 ?a37 ?a38 ?a39 ?a40 ?a41 ?a42 ?a43 ?a44 ?a45 ?a46 ?a47 ?a48 ?a49 ?l49 ?c49 ?k49 ?z60 ?z61 ?z62 ?z63 ?z64 ?z65 ?z66 ?z67 ?z68 ?z69 ?z70 ?z71 ?y60 ?y61
  (case h60=>walk_at "kC")
  (case h61=>walk_at "kC")
  (case v60=>k_is)
  (case v61=>k_is)
  (case v62=>k_is)
  (case v63=>k_is)
  (case v64=>k_is)
  (case v65=>k_is)
  (case v66=>k_is)
  (case a1=>walk_at "kN")
  (case a2=>walk_at "kN")
  (case a3=>walk_at "kN")
  (case a4=>walk_at "kN")
  (case a5=>walk_at "kN")
  (case a6=>walk_at "kN")
  (case a7=>walk_at "kN")
  (case a8=>walk_at "kN")
  (case a9=>walk_at "kN")
  (case a10=>walk_at "kN")
  (case a11=>walk_at "kN")
  (case a12=>walk_at "kN")
  (case a13=>walk_at "kN")
  (case a14=>walk_at "kN")
  (case a15=>walk_at "kN")
  (case a16=>walk_at "kN")
  (case a17=>walk_at "kN")
  (case a18=>walk_at "kN")
  (case a19=>walk_at "kN")
  (case a20=>walk_at "kN")
  (case a21=>walk_at "kN")
  (case a22=>walk_at "kN")
  (case a23=>walk_at "kN")
  (case a24=>walk_at "kN")
  (case a25=>walk_at "kN")
  (case a26=>walk_at "kN")
  (case a27=>walk_at "kN")
  (case a28=>walk_at "kM")
  (case a29=>walk_at "kM")
  (case a30=>walk_at "kM")
  (case a31=>walk_at "kN")
  (case a32=>walk_at "kN")
  (case a33=>k_is)
  (case l33=>k_is)
  (case c33=>k_is)
  (case k33=>k_is)
  (case n33=>k_is)
  (case d33=>k_is)
  (case a34=>walk_at "kM")
  (case a35=>walk_at "kN")
  (case a36=>walk_at "kM")
  (case a37=>walk_at "kN")
  (case a38=>walk_at "kN")
  (case a39=>walk_at "kN")
  (case a40=>walk_at "kN")
  (case a41=>walk_at "kM")
  (case a42=>walk_at "kN")
  (case a43=>walk_at "kN")
  (case a44=>walk_at "kN")
  (case a45=>walk_at "kN")
  (case a46=>walk_at "kN")
  (case a47=>walk_at "kN")
  (case a48=>walk_at "kN")
  (case a49=>k_is)
  (case l49=>k_is)
  (case c49=>k_is)
  (case k49=>k_is)
  (case z60=>k_is)
  (case z61=>k_is)
  (case z62=>k_is)
  (case z63=>k_is)
  (case z64=>k_is)
  (case z65=>k_is)
  (case z66=>k_is)
  (case z67=>k_is)
  (case z68=>k_is)
  (case z69=>k_is)
  (case z70=>k_is)
  (case z71=>k_is)
  (case y60=>k_is)
  (case y61=>k_is)
