import PyProof.Rows.All
import Wide.All
import OpenK.AllK
import Wide.FinOn
import Lean
import PyProof.EqAt
import PyProof.EqKinds
import PyProof.TupleCall
import PyProof.ExcClass3
import PyProof.NeKinds
import PyProof.ZipIter
import PyProof.ExcArgsOwn
import PyProof.EnumFor
import PyProof.EnumMake
import PyProof.DictUpdate
import PyProof.DictWalks
import PySem.Challenge.RW_hastebook_k42_whole_plan_and_stream
open Option renaming bind_eq_some_iff->aK,map_eq_some_iff->aL,bind_some->aU,some->cN,isSome_iff_exists->cP,getD_some->cR,toList_some->eB,map_some->aOo,isSome_map->aOX,getD_none->aPI,none->aQb
open List renaming map_cons->aM,length_cons->aN,getElem?_eq_some_iff->aP,length_nil->aQ,length_map->aR,getElem?_set_ne->aS,replicate->aT,cons_append->aV,append_nil->aW,nil_append->aX,getElem?_append_left->aY,mem_cons_of_mem->aZ,getElem?_eq_getElem->bA,mem_of_getElem?->bB,length_append->bC,map_nil->bD,mem_cons->bE,mem_cons_self->bF,size_toArray->bG,getElem?_append_right->bH,getElem?_map->bJ,range->bK,mem_map->bL,mem_append->bM,mem_iff_getElem?->bN,getElem?_set_self->bO,mem_singleton->bR,map_append->bS,nodup_cons->bW,lookup_cons->bZ,getElem?_cons_zero->b5,getElem?_cons_succ->b7,set_append_right->b8,not_mem_nil->cA,zip_cons_cons->cB,map_map->cD,getD_eq_getElem?_getD->cG,mem_append_right->cI,append_assoc->cJ,length_set->cL,getElem?_replicate->cM,map_congr_left->cS,mem_map_of_mem->cT,set->cX,getElem?_take_of_lt->cZ,mem_filter->c7,find?_cons->c8,mem_range->dA,length_zip->dC,getElem?_eq_none->dE,getElem_mem->dG,take_length->dH,lookup->dI,take_of_length_le->dN,getElem?_zip_eq_some->dQ,nodup_append->dR,getElem?_zipIdx->dS,sum_cons->dX,length_pos_iff->dY,length_take->d4,range_succ_eq_map->d9,drop_eq_nil_of_le->eA,set_set->eE,length_replicate->eN,set_getElem_self->eO,getElem?_inj->eQ,all_eq_true->eT,drop_eq_getElem_cons->eU,filterMap_cons->eV,length_erase_of_mem->aOn,getElem_range->aOp,take_succ->aOv,length_filter_le->aOx,any_cons->aOB,mem_append_left->aOC,foldl_cons->aOF,count_cons->aOI,sum_append->aOJ,map_eq_nil_iff->aOL,idxOf_lt_length_of_mem->aON,prefix_append->aOR,mem_or_eq_of_mem_set->aOT,length_range->aOZ,take_add_one->aO0,getElem_inj->aO3,length_drop->aO4,filter_cons->aO6,getElem_map->aO7,of_mem_zip->aPd,mem_of_mem_take->aPl,set_append_left->aPm,map->aPn,nodup_iff_count->aPp,cons->aPq,getElem?_range->aPr,take_succ_cons->aPs,mem_filterMap->aPv,foldl->aPw,filterMap_map->aPx,map_replicate->aPy,length_zipIdx->aPz,count_eq_zero->aPA,prefix_refl->aPJ,any_eq_true->aPK,length->aPM,map_const'->aPO,range_succ->aPP,nodup_nil->aPQ,drop_zero->aPR,all_cons->aPT,map_drop->aPW,map_take->aPX,all_map->aP0,map_set->aP3,tail->aQh,sum->aQj
open PySem.W renaming Frag->aO,findIn->bQ,nsIn->bU,keepIn->cF,mg_none_of->cH,fnOf->cK,kitOne->cU,emptyDict->cY,codeIn->dL,instObj->dM,kia_one->eK,mroIn->eX,mg_of->eY,isFn->aOs,plainGet->aOy,plainGet_of->aOK,lookIn->aOP,callWith_K->aOQ,methodObj->aOU,hasDictIn->aOV,cellsFrom_some->aO8,takerIn->aPb,makesIn->aPc,methodCall_KW->aPf,typeIn->aPi,kl_ins->aPj,excIn->aPt,plainOver->aPC,handedIn->aPG,OpenLaw->aPN,subIn->aPV
open Nat renaming le_refl->bI,lt_of_lt_of_le->bP,ne_of_lt->bT,le_trans->cC,lt_irrefl->cQ,sub_self->dB,zero_le->dJ,zero_add->dU,lt_succ_self->dZ,le_add_right->d7,lt_of_le_of_lt->aOr,le_of_not_lt->aOz,pow_le_pow_right->aOD,lt_succ_of_lt->aOW,add_assoc->aO2,min_eq_right->aO5,min_eq_left->aPe,mul_le_mul_right->aPo,le_of_lt->aPB,lt_trans->aPD,add_zero->aPE,le_of_eq->aPZ,sub_zero->aP4,le_succ->aQa,log2_lt->aQc
open Int renaming le_refl->bV,toNat_of_nonneg->b4,toNat_natCast->cE,mul_sub->dD,mul_nonneg->dP,zero_add->dW,mul_le_mul_of_nonneg_right->d8,zero_mul->eC,lt_of_le_of_lt->eG,toNat->eL,emod_lt_of_pos->aOq,mul_zero->aOt,sub_zero->aOu,lt_trans->aOw,add_mul->aOE,le_antisymm->aOG,emod_nonneg->aOH,add_zero->aOM,fdiv_eq_ediv_of_nonneg->aOO,mul_le_mul->aOS,sub_mul->aO1,le_trans->aO9,le_of_lt->aPa,natAbs_of_nonneg->aPk,pow_succ->aPF,natCast_succ->aPL,ofNat_lt->aP2,sub_self->aP5,mul_one->aP9,mul_add->aQd,one_mul->aQe,not_le->aQf
open Bool renaming false_ne_true->bY,false_eq_true->b9,and_true->cV,and_self->cW,eq_iff_iff->eJ,and_eq_true_iff->eR,and_eq_true->aOA,false_and->aPh
open Array renaming length_toList->b6,mk->aPg,append_assoc->aPu
open Classical renaming byContradiction->cO,choose_spec->dF,axiomOfChoice->aPY,choose->aQi
open PyProof.Rows renaming callWith_type1->c9,callWith_builtin1->aPH,callWith_kw->aPU,iadd_int->aP6,isub_int->aP7
open Function renaming comp->dO
open Iff renaming rfl->aOY
open Or renaming inr->aPS,inl->aP1
open Prod renaming ext->aP8,mk->aQg
set_option hygiene false in
local macro_rules|`(tactic|walk_at "a")=>`(tactic|(first | exact kI (by lia) | lia | (simp only [aR, bC, aN, aQ, lim]; lia) | (first | (apply gS <;> lia) | (apply hZ <;> lia) | (apply gG; assumption) | (apply gO; assumption)) | decide))
set_option hygiene false in
local macro_rules|`(tactic|walk_at "b")=>`(tactic|(simp only [st0, aM, bD, aN, aQ, Nat.reduceAdd, Nat.reduceSub, aT, aW, aV, aX]))
set_option hygiene false in
local macro_rules|`(tactic|walk_at "c")=>`(tactic|(simp only [fT, g8, gH, lA, gJ, kU, iG, cV, cW]))
set_option Elab.async false
set_option linter.all false
set_option bootstrap.genMatcherCode false
set_option compiler.extract_closed false
namespace L2
open PySem
def jX(s:Stmt):Arguments:=match s with
 | .FunctionDef _ a _ _ _ _ _ _ _ _=>a
 |_=>{posonlyargs:=[],args:=[],vararg:=none,kwonlyargs:=[],kw_defaults:=[],kwarg:=none,defaults:=[]}
def jE(s:Stmt):List Stmt:=match s with
 | .FunctionDef _ _ b _ _ _ _ _ _ _=>b
 |_=>[]
def gQ(s:Stmt):Scope:=match s with
 | .FunctionDef _ _ _ _ _ _ sc _ _ _=>sc
 |_=>{kind:=.function,names:=[],isGenerator:=false,isCoroutine:=false}
def inClass(s:Stmt)(j:Nat):Stmt:=match s with
 | .ClassDef _ _ _ body _ _ _ _ _ _ _=>body.getD j (.Pass ⟨0,0,0,0⟩)
 |_=>.Pass ⟨0,0,0,0⟩
end L2
namespace HT
open PySem PySem.W PyProof.Rows
abbrev so(x:String):Str:=Str.ofString x
abbrev de:=PySem.DictEntry.mk
abbrev ob:=PySem.Obj.mk
abbrev kh:=PySem.PyData.keyHash
abbrev vs(x:String)(n:Tok):Value:=.str (so x) n
abbrev vi(i:Int):Value:=.int i 0
abbrev vr(a:Addr):Value:=.ref a
abbrev vn:Value:=.none
abbrev vb:Value:=.bool true
abbrev vt(x:String):Value:=.type x
abbrev dx(P:Params)(x:String)(n:Tok)(v:Value):DictEntry:=.mk (kh P (so x)) (vs x n) v
abbrev oc(x q:String)(i j k:Tok)(l a b:Int)(r:Addr)(h:Int)(s t u v:Addr)(z m:Int)(n:Tok):Obj:=ob (vt "code") none (Data.fields #[vs x i,vs q j,vs "/claim/cut.py" k,vi l,vi a,vi 0,vi 0,vi b,vr r,vb,vi h,vr s,vn,vr t,vr u,vr v,vi z,vi m,vs "/claim/cut.py" n]) #[]
open L2 (jX jE gQ inClass)
abbrev PR:Program:=PySem.Challenge.pw_hastebook_k42_whole_plan_and_stream
def top(i:Nat):Stmt:=PR.main.body.getD i (.Pass ⟨0,0,0,0⟩)
abbrev of(x q:String)(s:Stmt)(p:String)(n:Tok)(c:Addr):Obj:=ob (vt "function") none (Data.func (cK x q (jX s) (jE s) (gQ s) vn vn vn (vs p n) none (vr c) vn)) #[]
noncomputable def KH:Params->aO:=fun P=>
 (nat_lit 2,ob vn none (Data.dict #[]) #[])::
 (nat_lit 3,ob (vt "dict") none (Data.dict #[dx P "__name__" 165 (vs "law_hastebook_k42_whole_plan_and_stream" 564),dx P "__doc__" 166 vn,dx P "__package__" 167 vn,dx P "__loader__" 168 (Value.builtin "__main__.__loader__#opaque"),dx P "__spec__" 169 vn,dx P "__annotations__" 170 (vr 6),dx P "__builtins__" 171 (vr 4),dx P "__file__" 173 (vs "/claim/cut.py" 172),dx P "__cached__" 174 vn,dx P "_wall" 193 (vr 21),dx P "BookError" 213 (vr 31),dx P "NoOrder" 229 (vr 44),dx P "order_of" 241 (vr 53),dx P "is_work" 249 (vr 60),dx P "needed_works" 255 (vr 65),dx P "least_ready" 261 (vr 70),dx P "earliest" 269 (vr 75),dx P "length" 277 (vr 82),dx P "done_moments" 283 (vr 87),dx P "SOURCE" 287 (Value.int 0 286),dx P "SINK" 289 (Value.int 1 288),dx P "Pipe" 325 (vr 104),dx P "Net" 422 (vr 174),dx P "begin_place" 429 (vr 185),dx P "done_place" 436 (vr 192),dx P "work_at" 443 (vr 199),dx P "raise_moments" 454 (vr 206),dx P "tight_route" 460 (vr 211),dx P "next_routes" 470 (vr 218),dx P "room_on" 476 (vr 223),dx P "pour" 485 (vr 230),dx P "flowing_route" 494 (vr 237),dx P "steps_from" 500 (vr 242),dx P "take_out" 506 (vr 247),dx P "works_on" 512 (vr 252),dx P "least_end" 522 (vr 259),dx P "plan_at" 528 (vr 264),dx P "stream_at" 537 (vr 271),dx P "least_hours" 543 (vr 276),dx P "filled_net" 553 (vr 283),dx P "plan_row" 563 (vr 290),dx P "_law_whole" 572 (vr 297),dx P "_law_cell_at" 580 (vr 304),dx P "_law_mixed" 589 (vr 311),dx P "_law_names" 599 (vr 318),dx P "_law_numbers" 605 (vr 323),dx P "_law_work" 619 (vr 330),dx P "_law_lot_free" 637 (vr 337),dx P "_law_lot" 643 (vr 342),dx P "_law_length" 649 (vr 347),dx P "_law_ends" 655 (vr 352),dx P "_law_is_plan" 661 (vr 357),dx P "_law_price" 667 (vr 362),dx P "_law_is_way" 677 (vr 369),dx P "_law_is_stream" 687 (vr 376),dx P "_law_worth" 693 (vr 381),dx P "_law_spoil" 701 (vr 388),dx P "_law_right" 707 (vr 393),dx P "law" 723 (vr 400)] 59) #[])::
 (nat_lit 22,ob (vt "tuple") none (Data.seq #[vt "ValueError"]) #[])::
 (nat_lit 29,ob (vt "tuple") none (Data.seq #[]) #[])::
 (nat_lit 30,ob (vt "dict") none (Data.dict #[dx P "__module__" 203 (vs "hastebook.errors" 194),dx P "__firstlineno__" 207 (Value.int 5 206),dx P "__static_attributes__" 208 (vr 29),dx P "__weakref__" 210 (vr 32),dx P "__doc__" 211 vn] 3) #[])::
 (nat_lit 31,ob (vt "type") none (Data.cls (PySem.ClassData.mk (so "BookError") [vt "ValueError"] [vr 31,vt "ValueError",vt "Exception",vt "BaseException",vt "object"] 30 (so "BookError") true [] [vr 44] false none false)) #[some (vr 22),none,some (vs "BookError" 196),some (vs "BookError" 204),some (Value.builtin "ValueError.__new__"),some (vb)])::
 (nat_lit 32,ob (vt "getset_descriptor") none (Data.fields #[vs "__weakref__" 209,vr 31,Value.builtin "ExceptionGroup.__weakref__",vn]) #[])::
 (nat_lit 35,ob (vt "tuple") none (Data.seq #[vr 31]) #[])::
 (nat_lit 42,ob (vt "tuple") none (Data.seq #[]) #[])::
 (nat_lit 43,ob (vt "dict") none (Data.dict #[dx P "__module__" 221 (vs "hastebook.errors" 194),dx P "__firstlineno__" 225 (Value.int 7 224),dx P "__static_attributes__" 226 (vr 42),dx P "__doc__" 227 vn] 2) #[])::
 (nat_lit 44,ob (vt "type") none (Data.cls (PySem.ClassData.mk (so "NoOrder") [vr 31] [vr 44,vr 31,vt "ValueError",vt "Exception",vt "BaseException",vt "object"] 43 (so "NoOrder") true [] [] false none false)) #[some (vr 35),none,some (vs "NoOrder" 214),some (vs "NoOrder" 222),some (Value.builtin "ValueError.__new__"),some (vb)])::
 (nat_lit 52,oc "order_of" "order_of" 232 233 234 10 2 3 47 181 48 49 50 51 239 10 240)::
 (nat_lit 53,of "order_of" "order_of" (top 5) "hastebook.needs" 230 52)::
 (nat_lit 59,oc "is_work" "is_work" 242 243 244 16 2 3 54 181 55 56 57 58 247 16 248)::
 (nat_lit 60,of "is_work" "is_work" (top 6) "hastebook.needs" 230 59)::
 (nat_lit 64,ob (vt "code") none (Data.fields #[vs "needed_works" 250,vs "needed_works" 251,vs "/claim/cut.py" 252,vi 18,vi 2,vi 0,vi 0,vi 3,vr 61,vb,vi 181,vr 62,vn,vn,vn,vr 63,vi 253,vi 18,vs "/claim/cut.py" 254]) #[])::
 (nat_lit 65,of "needed_works" "needed_works" (top 7) "hastebook.needs" 230 64)::
 (nat_lit 69,ob (vt "code") none (Data.fields #[vs "least_ready" 256,vs "least_ready" 257,vs "/claim/cut.py" 258,vi 26,vi 2,vi 0,vi 0,vi 3,vr 66,vb,vi 181,vr 67,vn,vn,vn,vr 68,vi 259,vi 26,vs "/claim/cut.py" 260]) #[])::
 (nat_lit 70,of "least_ready" "least_ready" (top 8) "hastebook.needs" 230 69)::
 (nat_lit 74,ob (vt "code") none (Data.fields #[vs "earliest" 264,vs "earliest" 265,vs "/claim/cut.py" 266,vi 32,vi 2,vi 0,vi 0,vi 3,vr 71,vb,vi 181,vr 72,vn,vn,vn,vr 73,vi 267,vi 32,vs "/claim/cut.py" 268]) #[])::
 (nat_lit 75,of "earliest" "earliest" (top 10) "hastebook.moments" 262 74)::
 (nat_lit 81,oc "length" "length" 270 271 272 39 2 3 76 181 77 78 79 80 275 39 276)::
 (nat_lit 82,of "length" "length" (top 11) "hastebook.moments" 262 81)::
 (nat_lit 86,ob (vt "code") none (Data.fields #[vs "done_moments" 278,vs "done_moments" 279,vs "/claim/cut.py" 280,vi 41,vi 2,vi 0,vi 0,vi 3,vr 83,vb,vi 181,vr 84,vn,vn,vn,vr 85,vi 281,vi 41,vs "/claim/cut.py" 282]) #[])::
 (nat_lit 87,of "done_moments" "done_moments" (top 12) "hastebook.moments" 262 86)::
 (nat_lit 100,oc "__init__" "Pipe.__init__" 302 303 304 48 5 3 95 181 96 97 98 99 310 48 311)::
 (nat_lit 101,of "__init__" "Pipe.__init__" (inClass (top 16) 0) "hastebook.nets" 284 100)::
 (nat_lit 102,ob (vt "tuple") none (Data.seq #[vs "back" 313,vs "head" 314,vs "hours" 315,vs "room" 316,vs "tail" 317]) #[])::
 (nat_lit 103,ob (vt "dict") none (Data.dict #[dx P "__module__" 297 (vs "hastebook.nets" 284),dx P "__firstlineno__" 301 (Value.int 46 300),dx P "__init__" 312 (vr 101),dx P "__static_attributes__" 318 (vr 102),dx P "__dict__" 320 (vr 105),dx P "__weakref__" 322 (vr 106),dx P "__doc__" 323 vn] 4) #[])::
 (nat_lit 104,ob (vt "type") none (Data.cls (PySem.ClassData.mk (so "Pipe") [vt "object"] [vr 104,vt "object"] 103 (so "Pipe") true [] [] false none false)) #[none,none,some (vs "Pipe" 290),some (vs "Pipe" 298),some (Value.builtin "object.__new__"),some (vb)])::
 (nat_lit 105,ob (vt "getset_descriptor") none (Data.fields #[vs "__dict__" 319,vr 104,Value.builtin "function.__dict__",Value.builtin "function.__dict__#set"]) #[])::
 (nat_lit 106,ob (vt "getset_descriptor") none (Data.fields #[vs "__weakref__" 321,vr 104,Value.builtin "ExceptionGroup.__weakref__",vn]) #[])::
 (nat_lit 116,ob (vt "tuple") none (Data.seq #[Value.int 0 338]) #[])::
 (nat_lit 120,ob (vt "code") none (Data.fields #[vs "__init__" 339,vs "Net.__init__" 340,vs "/claim/cut.py" 341,vi 56,vi 4,vi 0,vi 0,vi 3,vr 117,vb,vi 181,vr 118,vn,vn,vn,vr 119,vi 342,vi 56,vs "/claim/cut.py" 343]) #[])::
 (nat_lit 121,ob (vt "function") (none) (Data.func (cK "__init__" "Net.__init__" (jX (inClass (top 17) 0)) (jE (inClass (top 17) 0)) (gQ (inClass (top 17) 0)) (vr 116) (vn) (vn) (vs "hastebook.nets" 284) (none) (vr 120) (vn))) (#[]))::
 (nat_lit 127,oc "lay" "Net.lay" 345 346 347 69 5 3 122 181 123 124 125 126 355 69 356)::
 (nat_lit 128,of "lay" "Net.lay" (inClass (top 17) 1) "hastebook.nets" 284 127)::
 (nat_lit 134,oc "fill" "Net.fill" 358 359 360 76 2 3 129 181 130 131 132 133 365 76 366)::
 (nat_lit 135,of "fill" "Net.fill" (inClass (top 17) 2) "hastebook.nets" 284 134)::
 (nat_lit 146,ob (vt "code") none (Data.fields #[vs "moments" 376,vs "Net.moments" 377,vs "/claim/cut.py" 378,vi 86,vi 2,vi 0,vi 0,vi 3,vr 143,vb,vi 181,vr 144,vn,vn,vn,vr 145,vi 379,vi 86,vs "/claim/cut.py" 380]) #[])::
 (nat_lit 147,of "moments" "Net.moments" (inClass (top 17) 4) "hastebook.nets" 284 146)::
 (nat_lit 158,ob (vt "code") none (Data.fields #[vs "open_pipes" 389,vs "Net.open_pipes" 390,vs "/claim/cut.py" 391,vi 97,vi 1,vi 0,vi 0,vi 3,vr 155,vb,vi 181,vr 156,vn,vn,vn,vr 157,vi 392,vi 97,vs "/claim/cut.py" 393]) #[])::
 (nat_lit 159,of "open_pipes" "Net.open_pipes" (inClass (top 17) 6) "hastebook.nets" 284 158)::
 (nat_lit 170,oc "stream" "Net.stream" 401 402 403 104 1 3 165 181 166 167 168 169 410 104 411)::
 (nat_lit 171,of "stream" "Net.stream" (inClass (top 17) 8) "hastebook.nets" 284 170)::
 (nat_lit 172,ob (vt "tuple") none (Data.seq #[vs "pipes" 413,vs "places" 414]) #[])::
 (nat_lit 173,ob (vt "dict") none (Data.dict #[dx P "__module__" 333 (vs "hastebook.nets" 284),dx P "__firstlineno__" 337 (Value.int 54 336),dx P "__init__" 344 (vr 121),dx P "lay" 357 (vr 128),dx P "fill" 367 (vr 135),dx P "lead" 375 (vr 142),dx P "moments" 381 (vr 147),dx P "open_length" 388 (vr 154),dx P "open_pipes" 394 (vr 159),dx P "amount" 400 (vr 164),dx P "stream" 412 (vr 171),dx P "__static_attributes__" 415 (vr 172),dx P "__dict__" 417 (vr 175),dx P "__weakref__" 419 (vr 176),dx P "__doc__" 420 vn] 4) #[])::
 (nat_lit 174,ob (vt "type") none (Data.cls (PySem.ClassData.mk (so "Net") [vt "object"] [vr 174,vt "object"] 173 (so "Net") true [] [] false none false)) #[none,none,some (vs "Net" 326),some (vs "Net" 334),some (Value.builtin "object.__new__"),some (vb)])::
 (nat_lit 175,ob (vt "getset_descriptor") none (Data.fields #[vs "__dict__" 416,vr 174,Value.builtin "function.__dict__",Value.builtin "function.__dict__#set"]) #[])::
 (nat_lit 176,ob (vt "getset_descriptor") none (Data.fields #[vs "__weakref__" 418,vr 174,Value.builtin "ExceptionGroup.__weakref__",vn]) #[])::
 (nat_lit 184,oc "begin_place" "begin_place" 423 424 425 115 1 3 179 181 180 181 182 183 427 115 428)::
 (nat_lit 185,of "begin_place" "begin_place" (top 18) "hastebook.nets" 284 184)::
 (nat_lit 191,oc "done_place" "done_place" 430 431 432 117 1 3 186 181 187 188 189 190 434 117 435)::
 (nat_lit 192,of "done_place" "done_place" (top 19) "hastebook.nets" 284 191)::
 (nat_lit 198,oc "work_at" "work_at" 437 438 439 119 1 3 193 181 194 195 196 197 441 119 442)::
 (nat_lit 199,of "work_at" "work_at" (top 20) "hastebook.nets" 284 198)::
 (nat_lit 205,oc "raise_moments" "raise_moments" 444 445 446 121 2 3 200 181 201 202 203 204 452 121 453)::
 (nat_lit 206,of "raise_moments" "raise_moments" (top 21) "hastebook.nets" 284 205)::
 (nat_lit 210,ob (vt "code") none (Data.fields #[vs "tight_route" 455,vs "tight_route" 456,vs "/claim/cut.py" 457,vi 129,vi 2,vi 0,vi 0,vi 3,vr 207,vb,vi 181,vr 208,vn,vn,vn,vr 209,vi 458,vi 129,vs "/claim/cut.py" 459]) #[])::
 (nat_lit 211,of "tight_route" "tight_route" (top 22) "hastebook.nets" 284 210)::
 (nat_lit 217,oc "next_routes" "next_routes" 461 462 463 135 2 3 212 181 213 214 215 216 468 135 469)::
 (nat_lit 218,of "next_routes" "next_routes" (top 23) "hastebook.nets" 284 217)::
 (nat_lit 222,ob (vt "code") none (Data.fields #[vs "room_on" 471,vs "room_on" 472,vs "/claim/cut.py" 473,vi 141,vi 1,vi 0,vi 0,vi 3,vr 219,vb,vi 181,vr 220,vn,vn,vn,vr 221,vi 474,vi 141,vs "/claim/cut.py" 475]) #[])::
 (nat_lit 223,of "room_on" "room_on" (top 24) "hastebook.nets" 284 222)::
 (nat_lit 229,oc "pour" "pour" 477 478 479 143 2 3 224 181 225 226 227 228 483 143 484)::
 (nat_lit 230,of "pour" "pour" (top 25) "hastebook.nets" 284 229)::
 (nat_lit 236,oc "flowing_route" "flowing_route" 486 487 488 147 1 3 231 181 232 233 234 235 492 147 493)::
 (nat_lit 237,of "flowing_route" "flowing_route" (top 26) "hastebook.nets" 284 236)::
 (nat_lit 241,ob (vt "code") none (Data.fields #[vs "steps_from" 495,vs "steps_from" 496,vs "/claim/cut.py" 497,vi 154,vi 2,vi 0,vi 0,vi 3,vr 238,vb,vi 181,vr 239,vn,vn,vn,vr 240,vi 498,vi 154,vs "/claim/cut.py" 499]) #[])::
 (nat_lit 242,of "steps_from" "steps_from" (top 27) "hastebook.nets" 284 241)::
 (nat_lit 246,ob (vt "code") none (Data.fields #[vs "take_out" 501,vs "take_out" 502,vs "/claim/cut.py" 503,vi 156,vi 2,vi 0,vi 0,vi 3,vr 243,vb,vi 181,vr 244,vn,vn,vn,vr 245,vi 504,vi 156,vs "/claim/cut.py" 505]) #[])::
 (nat_lit 247,of "take_out" "take_out" (top 28) "hastebook.nets" 284 246)::
 (nat_lit 251,ob (vt "code") none (Data.fields #[vs "works_on" 507,vs "works_on" 508,vs "/claim/cut.py" 509,vi 161,vi 1,vi 0,vi 0,vi 3,vr 248,vb,vi 181,vr 249,vn,vn,vn,vr 250,vi 510,vi 161,vs "/claim/cut.py" 511]) #[])::
 (nat_lit 252,of "works_on" "works_on" (top 29) "hastebook.nets" 284 251)::
 (nat_lit 258,oc "least_end" "least_end" 515 516 517 164 2 3 253 181 254 255 256 257 520 164 521)::
 (nat_lit 259,of "least_end" "least_end" (top 31) "hastebook.haste" 513 258)::
 (nat_lit 263,ob (vt "code") none (Data.fields #[vs "plan_at" 523,vs "plan_at" 524,vs "/claim/cut.py" 525,vi 166,vi 3,vi 0,vi 0,vi 3,vr 260,vb,vi 181,vr 261,vn,vn,vn,vr 262,vi 526,vi 166,vs "/claim/cut.py" 527]) #[])::
 (nat_lit 264,of "plan_at" "plan_at" (top 32) "hastebook.haste" 513 263)::
 (nat_lit 270,oc "stream_at" "stream_at" 529 530 531 171 3 3 265 181 266 267 268 269 535 171 536)::
 (nat_lit 271,of "stream_at" "stream_at" (top 33) "hastebook.haste" 513 270)::
 (nat_lit 275,ob (vt "code") none (Data.fields #[vs "least_hours" 538,vs "least_hours" 539,vs "/claim/cut.py" 540,vi 175,vi 1,vi 0,vi 0,vi 3,vr 272,vb,vi 181,vr 273,vn,vn,vn,vr 274,vi 541,vi 175,vs "/claim/cut.py" 542]) #[])::
 (nat_lit 276,of "least_hours" "least_hours" (top 34) "hastebook.haste" 513 275)::
 (nat_lit 282,oc "filled_net" "filled_net" 544 545 546 177 3 3 277 181 278 279 280 281 551 177 552)::
 (nat_lit 283,of "filled_net" "filled_net" (top 35) "hastebook.haste" 513 282)::
 (nat_lit 289,oc "plan_row" "plan_row" 554 555 556 181 3 3 284 181 285 286 287 288 561 181 562)::
 (nat_lit 290,of "plan_row" "plan_row" (top 36) "hastebook.haste" 513 289)::
 (nat_lit 296,oc "_law_whole" "_law_whole" 566 567 568 185 1 3 291 181 292 293 294 295 570 185 571)::
 (nat_lit 297,of "_law_whole" "_law_whole" (top 38) "law_hastebook_k42_whole_plan_and_stream" 564 296)::
 (nat_lit 303,oc "_law_cell_at" "_law_cell_at" 573 574 575 187 2 3 298 181 299 300 301 302 578 187 579)::
 (nat_lit 304,of "_law_cell_at" "_law_cell_at" (top 39) "law_hastebook_k42_whole_plan_and_stream" 564 303)::
 (nat_lit 310,oc "_law_mixed" "_law_mixed" 581 582 583 191 2 3 305 181 306 307 308 309 587 191 588)::
 (nat_lit 311,of "_law_mixed" "_law_mixed" (top 40) "law_hastebook_k42_whole_plan_and_stream" 564 310)::
 (nat_lit 317,oc "_law_names" "_law_names" 590 591 592 195 2 3 312 181 313 314 315 316 597 195 598)::
 (nat_lit 318,of "_law_names" "_law_names" (top 41) "law_hastebook_k42_whole_plan_and_stream" 564 317)::
 (nat_lit 322,ob (vt "code") none (Data.fields #[vs "_law_numbers" 600,vs "_law_numbers" 601,vs "/claim/cut.py" 602,vi 200,vi 1,vi 0,vi 0,vi 3,vr 319,vb,vi 181,vr 320,vn,vn,vn,vr 321,vi 603,vi 200,vs "/claim/cut.py" 604]) #[])::
 (nat_lit 323,of "_law_numbers" "_law_numbers" (top 42) "law_hastebook_k42_whole_plan_and_stream" 564 322)::
 (nat_lit 329,oc "_law_work" "_law_work" 606 607 608 206 5 3 324 181 325 326 327 328 617 206 618)::
 (nat_lit 330,of "_law_work" "_law_work" (top 43) "law_hastebook_k42_whole_plan_and_stream" 564 329)::
 (nat_lit 336,oc "_law_lot_free" "_law_lot_free" 620 621 622 220 3 3 331 181 332 333 334 335 635 220 636)::
 (nat_lit 337,of "_law_lot_free" "_law_lot_free" (top 44) "law_hastebook_k42_whole_plan_and_stream" 564 336)::
 (nat_lit 341,ob (vt "code") none (Data.fields #[vs "_law_lot" 638,vs "_law_lot" 639,vs "/claim/cut.py" 640,vi 242,vi 3,vi 0,vi 0,vi 3,vr 338,vb,vi 181,vr 339,vn,vn,vn,vr 340,vi 641,vi 242,vs "/claim/cut.py" 642]) #[])::
 (nat_lit 342,of "_law_lot" "_law_lot" (top 45) "law_hastebook_k42_whole_plan_and_stream" 564 341)::
 (nat_lit 346,ob (vt "code") none (Data.fields #[vs "_law_length" 644,vs "_law_length" 645,vs "/claim/cut.py" 646,vi 260,vi 2,vi 0,vi 0,vi 3,vr 343,vb,vi 181,vr 344,vn,vn,vn,vr 345,vi 647,vi 260,vs "/claim/cut.py" 648]) #[])::
 (nat_lit 347,of "_law_length" "_law_length" (top 46) "law_hastebook_k42_whole_plan_and_stream" 564 346)::
 (nat_lit 351,ob (vt "code") none (Data.fields #[vs "_law_ends" 650,vs "_law_ends" 651,vs "/claim/cut.py" 652,vi 266,vi 2,vi 0,vi 0,vi 3,vr 348,vb,vi 181,vr 349,vn,vn,vn,vr 350,vi 653,vi 266,vs "/claim/cut.py" 654]) #[])::
 (nat_lit 352,of "_law_ends" "_law_ends" (top 47) "law_hastebook_k42_whole_plan_and_stream" 564 351)::
 (nat_lit 356,ob (vt "code") none (Data.fields #[vs "_law_is_plan" 656,vs "_law_is_plan" 657,vs "/claim/cut.py" 658,vi 269,vi 4,vi 0,vi 0,vi 3,vr 353,vb,vi 181,vr 354,vn,vn,vn,vr 355,vi 659,vi 269,vs "/claim/cut.py" 660]) #[])::
 (nat_lit 357,of "_law_is_plan" "_law_is_plan" (top 48) "law_hastebook_k42_whole_plan_and_stream" 564 356)::
 (nat_lit 361,ob (vt "code") none (Data.fields #[vs "_law_price" 662,vs "_law_price" 663,vs "/claim/cut.py" 664,vi 279,vi 2,vi 0,vi 0,vi 3,vr 358,vb,vi 181,vr 359,vn,vn,vn,vr 360,vi 665,vi 279,vs "/claim/cut.py" 666]) #[])::
 (nat_lit 362,of "_law_price" "_law_price" (top 49) "law_hastebook_k42_whole_plan_and_stream" 564 361)::
 (nat_lit 368,oc "_law_is_way" "_law_is_way" 668 669 670 281 3 3 363 181 364 365 366 367 675 281 676)::
 (nat_lit 369,of "_law_is_way" "_law_is_way" (top 50) "law_hastebook_k42_whole_plan_and_stream" 564 368)::
 (nat_lit 375,oc "_law_is_stream" "_law_is_stream" 678 679 680 290 3 3 370 181 371 372 373 374 685 290 686)::
 (nat_lit 376,of "_law_is_stream" "_law_is_stream" (top 51) "law_hastebook_k42_whole_plan_and_stream" 564 375)::
 (nat_lit 380,ob (vt "code") none (Data.fields #[vs "_law_worth" 688,vs "_law_worth" 689,vs "/claim/cut.py" 690,vi 299,vi 3,vi 0,vi 0,vi 3,vr 377,vb,vi 181,vr 378,vn,vn,vn,vr 379,vi 691,vi 299,vs "/claim/cut.py" 692]) #[])::
 (nat_lit 381,of "_law_worth" "_law_worth" (top 52) "law_hastebook_k42_whole_plan_and_stream" 564 380)::
 (nat_lit 387,oc "_law_spoil" "_law_spoil" 694 695 696 306 1 3 382 181 383 384 385 386 699 306 700)::
 (nat_lit 388,of "_law_spoil" "_law_spoil" (top 53) "law_hastebook_k42_whole_plan_and_stream" 564 387)::
 (nat_lit 392,ob (vt "code") none (Data.fields #[vs "_law_right" 702,vs "_law_right" 703,vs "/claim/cut.py" 704,vi 310,vi 5,vi 0,vi 0,vi 3,vr 389,vb,vi 181,vr 390,vn,vn,vn,vr 391,vi 705,vi 310,vs "/claim/cut.py" 706]) #[])::
 (nat_lit 393,of "_law_right" "_law_right" (top 54) "law_hastebook_k42_whole_plan_and_stream" 564 392)::
 (nat_lit 399,oc "law" "law" 708 709 710 327 1 3 394 181 395 396 397 398 721 327 722)::
 (nat_lit 400,of "law" "law" (top 55) "law_hastebook_k42_whole_plan_and_stream" 564 399)::[]
def KA:List Addr:=[2,3,22,29,30,31,32,35,42,43,44,52,53,59,60,64,65,69,70,74,75,81,82,86,87,100,101,102,103,104,105,106,116,120,121,127,128,134,135,146,147,158,159,170,171,172,173,174,175,176,184,185,191,192,198,199,205,206,210,211,217,218,222,223,229,230,236,237,241,242,246,247,251,252,258,259,263,264,270,271,275,276,282,283,289,290,296,297,303,304,310,311,317,318,322,323,329,330,336,337,341,342,346,347,351,352,356,357,361,362,368,369,375,376,380,381,387,388,392,393,399,400]
noncomputable def insAll:Nat->List Obj->BT->BT
 |_,[],t=>t
 |i,o::os,t=>insAll (i+1) os (t.ins i o)
noncomputable def jK(p:Program)(w:World)(m:Nat)(an:Option Value):Nat->SharedT->Thread->Option SharedT
 |0,_,_=>none
 |n+1,s,t=>match through t with
  |true=>some s
  |false=>match stepOk m an t with
   |false=>none
   |true=>match stepT (denote treeTable) p w s t with
    |some r=>jK p w m an n r.1 r.2
    |none=>none
theorem aGN{p:Program}{w:World}{m:Nat}{an:Option Value}:∀{n:Nat}{s s':SharedT}{t:Thread},jK p w m an n s t=some s'->topRun treeTable p w m an n s.abs t=some s'.abs
 |0,_,_,_,h=>by cases h
 |n+1,s,s',t,h=>by
  unfold jK at h;unfold topRun;cases h1:through t with
  |true=>rw[h1]at h;cases h;rfl
  |false=>
   rw[h1]at h;cases h2:stepOk m an t with
   |false=>rw[h2]at h;cases h
   |true=>
    rw[h2]at h;cases h3:stepT (denote treeTable) p w s t with
    |none=>rw[h3]at h;cases h
    |some r=>
     rw[h3]at h;rw[show step (denote treeTable) p w s.abs t=.go r.1.abs r.2 from stepT_spec h3]
     exact aGN h
theorem leftOf{p q:Program}{Xt:Shared->Bool}{α:Type}{Yf:Shared->α}{Ya:World->α}{N:Nat}{s0:World->OsState->SharedT}{ran:World->OsState->Option SharedT}{fin:World->OsState->Shared}
 (hf:∀w os,fin w os=((ran w os).getD (s0 w os)).abs)
 (hr:∀w os,ran w os=jK p w (boot_heap w.params).objs.size ((boot_heap w.params).nsMap mainGlobals "__annotations__") N (s0 w os) (topStub p))
 (c0:(fun(w:World) (os:OsState)=>(s0 w os).abs)=fun w os=>⟨boot_heap w.params,aPg [],boot_drawn,boot_toks,os⟩)
 (c1:(fun w:World=>(boot_heap w.params).isNs mainGlobals)=fun _=>true)
 (c2:(fun(w:World) (os:OsState)=>(ran w os).isSome)=fun _ _=>true)
 (c3:(fun(w:World) (os:OsState)=>(staticsOk (importedModules p.main.body) (boot_heap w.params) (fin w os).heap&&namesBound p (fin w os).heap&&gensDone (fin w os))&&laidKept (boot_heap w.params) (fin w os).heap)=fun _ _=>true)
 (c4:(fun(w:World) (os:OsState)=>openSeen q [] (importedModules p.main.body) Xt true (fin w os))=fun _ _=>openGood q [])
 (c5:(fun(w:World) (os:OsState)=>Yf (fin w os))=fun w _=>Ya w)
 (c6:opening p=plainProg p.main.scope.names)(hN:Nat.ble 600 N=true)(hm:∀s,fenceModules? p s=some s):LeftO p q [] Xt Yf Ya N:=fun w=>by
 obtain⟨⟨h,gs,d,k,os⟩,e,e'⟩:=aL.mp (boot_open (p:=p) (N:=N) c6 hN hm w);obtain⟨rfl,rfl,rfl,rfl⟩:h=boot_heap w.params/\gs=aPg []/\d=boot_drawn/\k=boot_toks:=by simpa using e'
 have r:topRun treeTable p w (boot_heap w.params).objs.size ((boot_heap w.params).nsMap mainGlobals "__annotations__") N ⟨boot_heap w.params,aPg [],boot_drawn,boot_toks,os⟩ (topStub p)=some (fin w os):=by
  have q0:(s0 w os).abs=⟨boot_heap w.params,aPg [],boot_drawn,boot_toks,os⟩:=congrFun (congrFun c0 w) os;have q2:(ran w os).isSome=true:=congrFun (congrFun c2 w) os;rw[<-q0];obtain⟨x,hx⟩:=cP.mp q2;have:fin w os=x.abs:=by rw[hf,hx];rfl
  rw[this];rw[hr]at hx
  exact aGN hx
 have t:topFrom treeTable p w N ⟨boot_heap w.params,aPg [],boot_drawn,boot_toks,os⟩=some (fin w os):=by
  unfold topFrom;dsimp only;rw[show(boot_heap w.params).isNs mainGlobals=true from congrFun c1 w,r];have q3:((staticsOk (importedModules p.main.body) (boot_heap w.params) (fin w os).heap&&namesBound p (fin w os).heap&&gensDone (fin w os))&&laidKept (boot_heap w.params) (fin w os).heap)=true:=congrFun (congrFun c3 w) os;show(match((staticsOk (importedModules p.main.body) (boot_heap w.params) (fin w os).heap&&namesBound p (fin w os).heap&&gensDone (fin w os))&&laidKept (boot_heap w.params) (fin w os).heap)with|true=>some (fin w os)|false=>none)=_;rw[q3]
 unfold openEnds;rw[e];show(topFrom treeTable p w N _).map _=_;rw[t]
 exact congrArg some (aP8 (congrFun (congrFun c4 w) os) (congrFun (congrFun c5 w) os))
noncomputable def s0(w:World)(os:OsState):SharedT:=⟨insAll 0 (boot_heap w.params).objs.toList .nil,(boot_heap w.params).objs.size,(boot_heap w.params).life,#[],boot_drawn,boot_toks,os⟩
noncomputable def ran(w:World)(os:OsState):Option SharedT:=jK PR w (boot_heap w.params).objs.size ((boot_heap w.params).nsMap mainGlobals "__annotations__") 4080 (s0 w os) (topStub PR)
noncomputable def fin(w:World)(os:OsState):Shared:=((ran w os).getD (s0 w os)).abs
def vw:Program:=view PR [0,2,3,5,6,7,8,10,11,12,14,15,16,17,18,19,20,21,22,23,24,25,26,27,28,29,31,32,33,34,35,36,38,39,40,41,42,43,44,45,46,47,48,49,50,51,52,53,54,55]
noncomputable def xt(s:Shared):Bool:=xlAt vw [] s&&recOk (RowW.records (OpenRow.toRowW (OpenLaw.row PySem.Challenge.rw_hastebook_k42_whole_plan_and_stream))) s
set_option maxHeartbeats 0 in
theorem c0:(fun(w:World) (os:OsState)=>(s0 w os).abs)=fun w os=>⟨boot_heap w.params,aPg [],boot_drawn,boot_toks,os⟩:=by kernel_rfl
theorem c1:(fun w:World=>(boot_heap w.params).isNs mainGlobals)=fun _=>true:=by kernel_rfl
set_option maxHeartbeats 0 in
theorem c2:(fun(w:World) (os:OsState)=>(ran w os).isSome)=fun _ _=>true:=by kernel_rfl
set_option maxHeartbeats 0 in
theorem c3:(fun(w:World) (os:OsState)=>(staticsOk (importedModules PR.main.body) (boot_heap w.params) (fin w os).heap&&namesBound PR (fin w os).heap&&gensDone (fin w os))&&laidKept (boot_heap w.params) (fin w os).heap)=fun _ _=>true:=by kernel_rfl
set_option maxHeartbeats 0 in
theorem c4:(fun(w:World) (os:OsState)=>openSeen vw [] (importedModules PR.main.body) xt true (fin w os))=fun _ _=>openGood vw []:=by kernel_rfl
set_option maxHeartbeats 0 in
theorem c5:(fun(w:World) (os:OsState)=>KA.map (fin w os).heap.get?)=fun w _=>(KH w.params).map fun p=>some p.2:=by kernel_rfl
theorem c6:opening PR=plainProg PR.main.scope.names:=by kernel_rfl
theorem left:LeftO PR vw [] xt (fun s=>KA.map s.heap.get?) (fun w=>(KH w.params).map fun p=>some p.2) 4080:=
 leftOf (s0:=s0) (ran:=ran) (fin:=fin) (fun _ _=>rfl) (fun _ _=>rfl) c0 c1 c2 c3 c4 c5 c6 rfl (fun _=>rfl)
theorem ka(P:Params):KA=(KH P).map (·.1):=by kernel_rfl
theorem xs:∀s,xt s=true->XL vw [] (s.heap.nsMap mainGlobals) s.heap:=fun s e=>xl_of s (eR.mp e).1
theorem rs:∀s,xt s=true->RecFacts (RowW.records (OpenRow.toRowW (OpenLaw.row PySem.Challenge.rw_hastebook_k42_whole_plan_and_stream))) s.heap:=fun s e=>recFacts_of (eR.mp e).2
end HT
noncomputable section
set_option maxRecDepth 100000
namespace L2
open PySem PySem.Spec PyProof.Rows
variable{H:Hp}{a b:Addr}{o:HO}
noncomputable abbrev Key:=Sum Int Str
noncomputable def z8:Key->Value->Bool
 | .inl k,v=>Value.isInt k v
 | .inr x,v=>Value.isStrOf x v
noncomputable def keyH(w:World):Key->Int
 | .inl k=>hashInt k
 | .inr x=>hashStr w x
theorem jR:∀{k:Key}{v:Value},z8 k v=true->(∃i t,k=Sum.inl i/\v=Value.int i t)\/(∃x t,k=Sum.inr x/\v=Value.str x t)
 | .inl i,v,h=>by
   obtain⟨t,e⟩:=Value.isInt_shape (k:=i) (v:=v) h
   exact .inl ⟨i,t,rfl,e⟩
 | .inr x,v,h=>by
   obtain⟨t,e⟩:=Value.isStrOf_shape (x:=x) (v:=v) h
   exact .inr ⟨x,t,rfl,e⟩
theorem aF2(i:Int)(t:Tok):z8 (.inl i) (.int i t)=true:=by simp[z8,Value.isInt]
theorem aFY(x:Str)(t:Tok):z8 (.inr x) (.str x t)=true:=by simp[z8,Value.isStrOf]
theorem aMo(a b:Int):decide ((Sum.inl a:Key)=Sum.inl b)=(a==b):=by
 by_cases e:a=b
 ·subst e;simp
 ·have h:¬(Sum.inl a:Key)=Sum.inl b:=fun q=>e (Sum.inl.inj q)
  rw[decide_eq_false h]
  exact(beq_eq_false_iff_ne.mpr e).symm
theorem aL7(a b:Str):decide ((Sum.inr a:Key)=Sum.inr b)=decide (a=b):=by
 by_cases e:a=b
 ·subst e;simp
 ·have h:¬(Sum.inr a:Key)=Sum.inr b:=fun q=>e (Sum.inr.inj q)
  rw[decide_eq_false h,decide_eq_false e]
theorem aNm(a:Int)(b:Str):decide ((Sum.inl a:Key)=Sum.inr b)=false:=decide_eq_false (fun q=>nomatch q)
theorem aMg(a:Str)(b:Int):decide ((Sum.inr a:Key)=Sum.inl b)=false:=decide_eq_false (fun q=>nomatch q)
def jA(prog:Program)(w:World):PySem.KeyKind prog w Key where
 is:=z8
 hash:=keyH w
 inj:=fun v a b ha hb=>by
  rcases jR ha with⟨i,t,rfl,rfl⟩| ⟨x,t,rfl,rfl⟩
  ·rcases jR hb with⟨j,u,rfl,e⟩| ⟨y,u,rfl,e⟩
   ·injection e with e1 _;rw[e1]
   ·exact nomatch e
  ·rcases jR hb with⟨j,u,rfl,e⟩| ⟨y,u,rfl,e⟩
   ·exact nomatch e
   ·injection e with e1 _;rw[e1]
 byValue:=fun k v h=>by
  rcases jR h with⟨i,t,rfl,rfl⟩| ⟨x,t,rfl,rfl⟩<;>rfl
 pyHash:=fun hv h=>by
  rcases jR hv with⟨i,t,rfl,rfl⟩| ⟨x,t,rfl,rfl⟩
  ·exact wpAny_pyHash_int h
  ·exact wpAny_pyHash_str h
 eqBool:=fun hu hv h=>by
  rcases jR hu with⟨i,t,rfl,rfl⟩| ⟨x,t,rfl,rfl⟩
  ·rcases jR hv with⟨j,u,rfl,rfl⟩| ⟨y,u,rfl,rfl⟩
   ·rw[aMo]at h;exact wpAny_eqBool_int h
   ·rw[aNm]at h;exact SeqAt.EqAt.int_str i t y u _ _ _ _ h
  ·rcases jR hv with⟨j,u,rfl,rfl⟩| ⟨y,u,rfl,rfl⟩
   ·rw[aMg]at h;exact SeqAt.EqAt.str_int x t j u _ _ _ _ h
   ·rw[aL7]at h;exact wpAny_eqBool_str h
 «strs»:=fun k x t v h=>by
  rcases jR h with⟨i,u,rfl,e⟩| ⟨y,u,rfl,e⟩
  ·exact nomatch e
  ·injection e with e1 _
   subst e1;cases v<;>rfl
theorem aCx(prog:Program)(w:World)(i:Int)(t:Tok):(jA prog w).is (.inl i) (.int i t)=true:=aF2 i t
theorem aBX(prog:Program)(w:World)(x:Str)(t:Tok):(jA prog w).is (.inr x) (.str x t)=true:=aFY x t
inductive V where
 |non|bl (b:Bool)|int (i:Int)|str (x:Str)|byt (b:Array UInt8)|flt (b:UInt64)|ref (a:Addr)|ty (n:String)
 deriving DecidableEq
def RelV:V->Value->Prop
 | .non,u=>u=Value.none
 | .bl b,u=>u=Value.bool b
 | .int i,u=>∃t,u=Value.int i t
 | .str x,u=>∃t,u=Value.str x t
 | .byt b,u=>∃t,u=Value.bytes b t
 | .flt b,u=>∃t,u=Value.float b t
 | .ref a,u=>u=Value.ref a
 | .ty n,u=>u=Value.type n
abbrev Vals:List V->List Value->Prop:=Paired RelV
theorem Vals.length{xs:List V}{us:List Value}(r:Vals xs us):xs.length=us.length:=Paired.length r
theorem Vals.get:∀{xs:List V}{us:List Value}{i:Nat}{x:V},Vals xs us->xs[i]?=some x->∃u,us[i]?=some u/\RelV x u
 |_,_,_,_,.nil,e=>by simp at e
 |_,_,0,_,.cons r _,e=>by simp at e;subst e;exact⟨_,rfl,r⟩
 |_,_,i+1,x,.cons _ t,e=>by
  obtain⟨u,h1,h2⟩:=Vals.get (i:=i) (x:=x) t (by simpa using e)
  exact⟨u,by simpa using h1,h2⟩
theorem Vals.set{x:V}{u:Value}(r:RelV x u):∀{xs:List V}{us:List Value}(i:Nat),Vals xs us->Vals (xs.set i x) (us.set i u)
 |_,_,_,.nil=>.nil
 |_,_,0,.cons _ t=>.cons r t
 |_,_,i+1,.cons q t=>.cons q (Vals.set r i t)
theorem Vals.append:∀{xs ys:List V}{us ws:List Value},Vals xs us->Vals ys ws->Vals (xs++ys) (us++ws)
 |_,_,_,_,.nil,s=>s
 |_,_,_,_,.cons r t,s=>.cons r (Vals.append t s)
theorem Vals.take:∀{xs:List V}{us:List Value}(n:Nat),Vals xs us->Vals (xs.take n) (us.take n)
 |_,_,0,_=>.nil
 |_,_,_+1,.nil=>.nil
 |_,_,n+1,.cons r t=>.cons r (Vals.take n t)
theorem Vals.drop:∀{xs:List V}{us:List Value}(n:Nat),Vals xs us->Vals (xs.drop n) (us.drop n)
 |_,_,0,r=>r
 |_,_,_+1,.nil=>.nil
 |_,_,n+1,.cons _ t=>Vals.drop n t
def pI:Option V->Option Value->Prop
 |some v,some u=>RelV v u
 |none,none=>True
 |_,_=>False
def KV{κ:Type}:List (κ×V)->List (κ×Value)->Prop:=Paired fun(p:κ×V) (q:κ×Value)=>p.1=q.1/\RelV p.2 q.2
noncomputable def kV:Key->V
 | .inl i=>.int i
 | .inr x=>.str x
inductive HO where
 |lst (xs:List V)
 |tup (xs:List V)
 |dK (kvs:List (Key×V))|dT (kvs:List (List Key×V))
 |set (S:Int->Bool) (n:Nat)
 |ins (C dx:Addr) (fs:List (Str×V))
 |own (x:Addr)
 |xd (fs:List (Str×V))
 |met (f x:Addr)
 |rng (lo hi:Int)
 |frz (o:Obj) (u:HO)
 |tbl (ps:Array Value)
 |ext (φ:Heap->Prop)
noncomputable abbrev Hp:=Addr->Option HO
noncomputable def upd(H:Hp)(a:Addr)(o:HO):Hp:=fun b=>if b=a then some o else H b
theorem jC:upd H a o a=some o:=by unfold upd;rw[if_pos rfl]
theorem fQ(h:b≠a):upd H a o b=H b:=by unfold upd;rw[if_neg h]
theorem nL{u:HO}(h:H a=some o)(h':H b=some u)(d:o≠u):a≠b:=by
 intro e;subst e;rw[h]at h';exact d (cN.inj h')
theorem mZ(h:H a=some o)(h':H b=none):a≠b:=by
 intro e;subst e;rw[h]at h';cases h'
section
variable (P:Program)(w:World)
def jU(H:Hp)(h:Heap)(a:Addr):HO->Prop
 | .lst xs=>xs.length<=sizeLine/\∃(its:List Value)(n:Nat),Vals xs its/\h.get? a=some {cls:=.type "list",data:=.seq its.toArray n}
 | .tup xs=>xs.length<=sizeLine/\∃its:List Value,Vals xs its/\IsTup h a its.toArray
 | .dK kvs=>kvs.length<=sizeLine/\(a==sysModules)=false/\∃vs,KV kvs vs/\h.DictOf (jA P w) a vs
 | .dT kvs=>kvs.length<=sizeLine/\(a==sysModules)=false/\∃xs:List (List Key×Addr×Value),
  Paired (fun(p:List Key×V) (q:List Key×Addr×Value)=>p.1=q.1/\H q.2.1=some (.tup (p.1.map kV))/\RelV p.2 q.2.2) kvs xs/\
  ∃o es ep,h.get? a=some o/\o.ExactDict/\o.data=.dict es ep/\es.toList=xs.map (entryOfKey (tupleKind (jA P w)))/\(xs.map (·.1)).Nodup
 | .set S n=>h.SetOf (intKind P w) a S n
 | .ins C dx fs=>H dx=some (.own a)/\fs.length<=1000/\dx≠a/\h.get? a=some (dM C dx)/\
  ∃mA,h.Ns1 dx mA/\(∀f,pI (fs.lookup f) (mA f))/\PySem.Within mA (fs.map (·.1))
 | .own _=>∃o,h.get? a=some o
 | .xd fs=>∃mA,h.Ns1 a mA/\∀f,pI (fs.lookup f) (mA f)
 | .rng lo hi=>∃t u v,h.get? a=some {cls:=.type "range",data:=.fields #[.int lo t,.int hi u,.int 1 v]}
 | .frz o u=>h.get? a=some o/\jU H h a u
 | .tbl ps=>h.get? a=some {cls:=.none,data:=.fields ps}
 | .met f x=>h.get? a=some (aOU (.ref f) (.ref x))
 | .ext φ=>φ h/\(∃o,h.get? a=some o)/\∀h1 h2:Heap,φ h1->(∀o,h1.get? a=some o->h2.get? a=some o)->φ h2
def HOk(H:Hp)(h:Heap):Prop:=∀a o,H a=some o->jU P w H h a o
end
section
variable {P:Program}{w:World}{H H':Hp}{h h':Heap}{a:Addr}{o:HO}
theorem jU.lt(x:jU P w H h a o):a<h.objs.size:=by
 cases o with
 |lst xs=>obtain⟨_,_,_,_,e⟩:=x;exact Heap.lt_size e
 |tup xs=>obtain⟨_,_,_,p⟩:=x;exact p.lt
 |dK kvs=>obtain⟨_,_,_,_,o,_,_,e,_⟩:=x;exact Heap.lt_size e
 |dT kvs=>obtain⟨_,_,_,_,o,_,_,e,_⟩:=x;exact Heap.lt_size e
 |set S n=>obtain⟨o,_,_,_,e,_⟩:=x;exact Heap.lt_size e
 |ins C dx fs=>obtain⟨_,_,_,e,_⟩:=x;exact Heap.lt_size e
 |own y=>obtain⟨_,e⟩:=x;exact Heap.lt_size e
 |xd fs=>obtain⟨_,⟨_,_,_,e,_⟩,_⟩:=x;exact Heap.lt_size e
 |rng lo hi=>obtain⟨_,_,_,e⟩:=x;exact Heap.lt_size e
 |frz ob u=>obtain⟨e,_⟩:=x;exact Heap.lt_size e
 |tbl ps=>exact Heap.lt_size (show h.get? a=some _ from x)
 |met f y=>exact Heap.lt_size (show h.get? a=some _ from x)
 |ext φ=>obtain⟨_,⟨_,e⟩,_⟩:=x;exact Heap.lt_size e
theorem Paired.mapP{α β:Type}{F G:α->β->Prop}:∀{l₁:List α}{l₂:List β},Paired F l₁ l₂->(∀a b,F a b->G a b)->Paired G l₁ l₂
 |_,_,.nil,_=>.nil
 |_,_,.cons r t,f=>.cons (f _ _ r) (Paired.mapP t f)
theorem jU.stay(x:jU P w H h a o)(k:∀b u,(b=a\/H b=some (.own a))->h.get? b=some u->h'.get? b=some u)
 (ho:∀b,H b=some (.own a)->H' b=some (.own a))(ht:∀b xs,H b=some (.tup xs)->H' b=some (.tup xs)):jU P w H' h' a o:=by
 induction o with
 |lst xs=>obtain⟨z,its,n,r,e⟩:=x;exact⟨z,its,n,r,k _ _ (.inl rfl) e⟩
 |tup xs=>obtain⟨z,its,r,ob,e,c⟩:=x;exact⟨z,its,r,ob,k _ _ (.inl rfl) e,c⟩
 |dK kvs=>obtain⟨z,y,vs,r,ob,es,ep,e,c⟩:=x;exact⟨z,y,vs,r,ob,es,ep,k _ _ (.inl rfl) e,c⟩
 |dT kvs=>
  obtain⟨z,y,xs,r,ob,es,ep,e,c⟩:=x
  exact⟨z,y,xs,Paired.mapP r fun p q z=>⟨z.1,ht _ _ z.2.1,z.2.2⟩,ob,es,ep,k _ _ (.inl rfl) e,c⟩
 |set S n=>obtain⟨ob,es,ep,t,e,c⟩:=x;exact⟨ob,es,ep,t,k _ _ (.inl rfl) e,c⟩
 |ins C dx fs=>
  obtain⟨d,z,ne,e,mA,⟨od,es,ep,e2,c⟩,r⟩:=x
  exact⟨ho _ d,z,ne,k _ _ (.inl rfl) e,mA,⟨od,es,ep,k _ _ (.inr d) e2,c⟩,r⟩
 |own y=>obtain⟨ob,e⟩:=x;exact⟨ob,k _ _ (.inl rfl) e⟩
 |xd fs=>obtain⟨mA,⟨od,es,ep,e,c⟩,r⟩:=x;exact⟨mA,⟨od,es,ep,k _ _ (.inl rfl) e,c⟩,r⟩
 |rng lo hi=>obtain⟨t,u,v,e⟩:=x;exact⟨t,u,v,k _ _ (.inl rfl) e⟩
 |frz ob u ih=>obtain⟨e,q⟩:=x;exact⟨k _ _ (.inl rfl) e,ih q⟩
 |tbl ps=>
  have e:h.get? a=some {cls:=.none,data:=.fields ps}:=x;show h'.get? a=some {cls:=.none,data:=.fields ps}
  exact k a _ (.inl rfl) e
 |met f y=>
  have e:h.get? a=some (aOU (.ref f) (.ref y)):=x;show h'.get? a=some (aOU (.ref f) (.ref y))
  exact k a _ (.inl rfl) e
 |ext φ=>obtain⟨p,⟨o,e⟩,st⟩:=x;exact⟨st _ _ p fun o q=>k _ _ (.inl rfl) q,⟨o,k _ _ (.inl rfl) e⟩,st⟩
theorem HOk.lt(x:HOk P w H h)(e:H a=some o):a<h.objs.size:=(x a o e).lt
theorem HOk.fresh(x:HOk P w H h)(e:h.objs.size<=a):H a=none:=by
 cases q:H a with
 |none=>rfl
 |some u=>exact absurd (bP (x.lt q) e) (cQ _)
theorem HOk.kept(x:HOk P w H h)(k:∀b u,h.get? b=some u->h'.get? b=some u):HOk P w H h':=fun a o e=>
 (x a o e).stay (fun b u _ q=>k b u q) (fun _ q=>q) fun _ _ q=>q
theorem HOk.laid(x:HOk P w H h)(k:∀b u,h.get? b=some u->h'.get? b=some u)(hp:h.objs.size<=a)(new:jU P w (upd H a o) h' a o):HOk P w (upd H a o) h':=fun b u e=>by
 have hn:=x.fresh hp;by_cases hb:b=a
 ·subst hb;rw[jC]at e;cases e;exact new
 ·rw[fQ hb]at e
  exact(x b u e).stay (fun c v _ q=>k c v q) (fun c q=>by rw[fQ (mZ q hn)];exact q) fun c xs q=>by rw[fQ (mZ q hn)];exact q
end
def Rd(H:Hp)(a:Addr)(u:HO):Prop:=H a=some u\/∃o,H a=some (.frz o u)
theorem Rd.of{H:Hp}{a:Addr}{u:HO}(h:H a=some u):Rd H a u:=.inl h
theorem Rd.ok{P:Program}{w:World}{H:Hp}{h:Heap}{a:Addr}{u:HO}(r:Rd H a u)(x:HOk P w H h):jU P w H h a u:=by
 rcases r with r| ⟨o,r⟩
 ·exact x a u r
 ·obtain⟨_,q⟩:=x a _ r
  exact q
def Mut:Option HO->Prop
 |some (.lst _)=>True
 |some (.dK _)=>True
 |some (.dT _)=>True
 |some (.set _ _)=>True
 |some (.ins _ _ _)=>True
 |some (.ext _)=>True
 |_=>False
section
variable {P:Program}{w:World}{H:Hp}{h h':Heap}{x e:Addr}{o':HO}
theorem HOk.write(ok:HOk P w H h)(mu:Mut (H x))(he:e=x\/H e=some (.own x))(k:∀b u,b≠e->h.get? b=some u->h'.get? b=some u)(heo:∃u,h'.get? e=some u)
 (new:jU P w (upd H x o') h' x o'):HOk P w (upd H x o') h':=fun b u q=>by
 have nown:∀c y,H c=some (.own y)->c≠x:=fun c y r z=>by subst z;rw[r]at mu;exact mu
 have ntup:∀c xs,H c=some (.tup xs)->c≠x:=fun c xs r z=>by subst z;rw[r]at mu;exact mu
 by_cases hb:b=x
 ·subst hb;rw[jC]at q;cases q;exact new
 ·rw[fQ hb]at q;by_cases hbe:b=e
  ·have q':H b=some (.own x):=by
    rcases he with z|z
    ·exact absurd (hbe.trans z) hb
    ·rw[hbe];exact z
   rw[q]at q';cases q';obtain⟨v,hv⟩:=heo
   exact⟨v,by rw[hbe];exact hv⟩
  ·refine(ok b u q).stay (fun c v hc r=>k c v ?_ r) (fun c r=>by rw[fQ (nown c b r)];exact r) fun c xs r=>by rw[fQ (ntup c xs r)];exact r
   rcases hc with rfl|hc
   ·exact hbe
   ·rintro rfl;rcases he with z|z
    ·exact nown c b hc z
    ·rw[hc]at z;cases z;exact hb rfl
end
structure Un(fs ex:List Addr)(H H':Hp)(h h':Heap):Prop where
 keep:∀b o,h.get? b=some o->H b=none->b∉fs->b∉ex->h'.get? b=some o
 slot:∀b o,h.get? b=some o->H b=none->b∈fs->b∉ex->∃sl,h'.get? b=some {o with slots:=sl}
 free:∀b o,h.get? b=some o->H b=none->b∉ex->H' b=none
 there:∀b o,h.get? b=some o->b∉ex->∃o',h'.get? b=some o'
 tups:∀b xs,H b=some (.tup xs)->H' b=some (.tup xs)
 frzs:∀b o u,H b=some (.frz o u)->H' b=some (.frz o u)
 tbls:∀b ps,H b=some (.tbl ps)->∃more,H' b=some (.tbl (ps++more))
section
variable {fs fs' ex ex':List Addr}{H H1 H2:Hp}{h h1 h2 h':Heap}{a x e:Addr}{o:HO}
theorem Un.any(u:Un fs ex H H1 h h1){b:Addr}{ob:Obj}(q:h.get? b=some ob)(n:H b=none)(hx:b∉ex):∃sl,h1.get? b=some {ob with slots:=sl}:=by
 by_cases hb:b∈fs
 ·exact u.slot b ob q n hb hx
 ·exact⟨ob.slots,u.keep b ob q n hb hx⟩
theorem Un.trans(a:Un fs ex H H1 h h1)(b:Un fs ex H1 H2 h1 h2):Un fs ex H H2 h h2 where
 keep:=fun c ob q n hc hx=>b.keep c ob (a.keep c ob q n hc hx) (a.free c ob q n hx) hc hx
 slot:=fun c ob q n hc hx=>by
  obtain⟨sl,e1⟩:=a.slot c ob q n hc hx;obtain⟨sl',e2⟩:=b.slot c _ e1 (a.free c ob q n hx) hc hx
  exact⟨sl',e2⟩
 free:=fun c ob q n hx=>by
  obtain⟨o',e1⟩:=a.there c ob q hx
  exact b.free c o' e1 (a.free c ob q n hx) hx
 there:=fun c ob q hx=>by
  obtain⟨o',e1⟩:=a.there c ob q hx
  exact b.there c o' e1 hx
 tups:=fun c xs q=>b.tups c xs (a.tups c xs q)
 frzs:=fun c ob xs q=>b.frzs c ob xs (a.frzs c ob xs q)
 tbls:=fun c ps q=>by
  obtain⟨m1,e1⟩:=a.tbls c ps q;obtain⟨m2,e2⟩:=b.tbls c _ e1
  exact⟨m1++m2,by rw[e2,aPu]⟩
theorem Un.kept(k:∀b u,h.get? b=some u->h'.get? b=some u):Un fs ex H H h h':=
 ⟨fun b ob q _ _ _=>k b ob q,fun b ob q _ _ _=>⟨ob.slots,k b ob q⟩,fun _ _ _ n _=>n,fun b ob q _=>⟨ob,k b ob q⟩,fun _ _ q=>q,fun _ _ _ q=>q,fun _ ps q=>⟨#[],by rw[q];simp⟩⟩
theorem Un.refl:Un fs ex H H h h:=Un.kept fun _ _ q=>q
theorem Un.laid(k:∀b u,h.get? b=some u->h'.get? b=some u)(hp:h.objs.size<=a)(hn:H a=none):Un fs ex H (upd H a o) h h' where
 keep:=fun b u q _ _ _=>k b u q
 slot:=fun b u q _ _ _=>⟨u.slots,k b u q⟩
 free:=fun b u q n _=>by rw[fQ (bT (bP (Heap.lt_size q) hp))];exact n
 there:=fun b u q _=>⟨u,k b u q⟩
 tups:=fun b xs q=>by rw[fQ (mZ q hn)];exact q
 frzs:=fun b u xs q=>by rw[fQ (mZ q hn)];exact q
 tbls:=fun b ps q=>⟨#[],by rw[fQ (mZ q hn),q];simp⟩
theorem Un.write(mu:Mut (H x))(he:e=x\/H e=some (.own x))(k:∀b u,b≠e->h.get? b=some u->h'.get? b=some u)(heo:∃u,h'.get? e=some u):Un fs ex H (upd H x o) h h':=by
 have hx:∀b,H b=none->b≠x:=fun b n z=>by subst z;rw[n]at mu;exact mu
 have hb:∀b,H b=none->b≠e:=fun b n z=>by
  subst z;rcases he with r|r
  ·exact hx b n r
  ·rw[n]at r;cases r
 have hm:∀b u,H b=some u->¬Mut (some u)->b≠x:=fun b u q nm z=>by subst z;rw[q]at mu;exact nm mu
 refine⟨fun b u q n _ _=>k b u (hb b n) q,fun b u q n _ _=>⟨u.slots,k b u (hb b n) q⟩,fun b u q n _=>by rw[fQ (hx b n)];exact n,fun b u q _=>?_,
  fun b xs q=>by rw[fQ (hm b _ q fun z=>z)];exact q,fun b u xs q=>by rw[fQ (hm b _ q fun z=>z)];exact q,fun b ps q=>⟨#[],by rw[fQ (hm b _ q fun z=>z),q];simp⟩⟩
 by_cases hbe:b=e
 ·subst hbe;exact heo
 ·exact⟨u,k b u hbe q⟩
end
noncomputable def trk(h:Heap)(H:Hp):List Addr:=(bK h.objs.size).filter fun a=>(H a).isSome
def aBo(h:Heap)(H:Hp):Heap:=PySem.W.hideAll h (trk h H)
theorem aFK(h:Heap)(H:Hp):(aBo h H).objs.size=h.objs.size:=PySem.W.hideAll_size _ _
theorem aHT{h:Heap}{H:Hp}{b:Addr}{o:Obj}(e:h.get? b=some o)(n:H b=none):(aBo h H).get? b=some o:=
 PySem.W.hideAll_get _ e fun hm=>by
  have q:(H b).isSome=true:=(c7.mp hm).2;rw[n]at q;simp at q
theorem aIT{h:Heap}{H:Hp}{b:Addr}{o:Obj}(e:(aBo h H).get? b=some o):h.get? b=some o/\H b=none:=by
 have e':h.get? b=some o:=PySem.W.of_hideAll (trk h H) e
 refine⟨e',?_⟩
 cases q:H b with
 |none=>rfl
 |some x=>
  have hm:b∈trk h H:=c7.mpr ⟨dA.mpr (Heap.lt_size e'),by simp[q]⟩;have z:(aBo h H).get? b=none:=PySem.W.hideAll_none (trk h H) hm;rw[z]at e;cases e
noncomputable def allNews(g h:Heap)(L:Addr):List (Addr×Obj):=(bK h.objs.size).filterMap fun a=>if a=L\/(g.get? a).isSome=true then none else(h.get? a).map fun o=>(a,o)
def rest(g h:Heap)(L d:Addr):List (Addr×Obj):=(allNews g h L).filter fun p=>decide (p.1≠d)
structure Mod(K:aO)(mg:Str->Option Value)(base:Heap):Prop where
 kin:K.In base
 glob:base.Ns mainGlobals mg
 blt:∃mb,base.Ns builtinsNs mb/\∀x:Str,x≠"__name__"->mb x=bootBuiltins x
 nolimit:base.NoLimit
structure Cx where
 prog:Program
 w:World
 K:aO
 mg:Str->Option Value
 base:Heap
 A:Around
 N:List Str
 s₀:Shared
 H₀:Hp
 env:Env
 outer:List Env
 stack:List Env
 ex:List Addr
 fn:Str->Bool
 calm:Bool
 pn:List (Addr×Obj)
 xe:Value->Shared->Prop
noncomputable def frs(l:List Env):List Addr:=l.filterMap (·.frame)
abbrev Cx.fs(X:Cx):List Addr:=frs X.outer
def Vis(sc:Scope)(x:Str):Prop:=sc.names.lookup x=some .local\/sc.names.lookup x=some .cell\/sc.names.lookup x=some .free
def Loc(sc:Scope)(x:Str):Prop:=sc.names.lookup x=some .local\/sc.names.lookup x=some .cell
def Look(env:Env)(h:Heap)(m:Str->Option Value)(x:Str)(u:Value):Prop:=
 (env.kindOf x=some .local/\m x=some u)\/((env.kindOf x=some .cell\/env.kindOf x=some .free)/\∃c,env.cells.lookup x=some c/\h.IsCell c (some u))
structure Cx.Ok(X:Cx):Prop where
 mod:Mod X.K X.mg X.base
 kind:X.env.scope.kind=.function
 glob:X.env.globals=mainGlobals
 blt:X.env.builtins=builtinsNs
 above:X.s₀.heap.objs.size<=X.env.locals
 inj:∀x y c,X.env.cells.lookup x=some c->X.env.cells.lookup y=some c->x=y
 has:∀x,(X.env.kindOf x=some .cell\/X.env.kindOf x=some .free)->∃c,X.env.cells.lookup x=some c
 cab:∀x c,X.fn x=true->X.env.cells.lookup x=some c->X.s₀.heap.objs.size<=c
 hd:X.calm=true->X.A.handled=none
 frames:X.A.frames=some X.stack
 stk:X.stack=X.outer\/(X.stack=X.env::X.outer/\X.env.frame=some X.env.locals)
 exf:∀b∈X.ex,b≠X.env.locals/\∀x c,X.env.cells.lookup x=some c->c≠b
 bs:∀b o,X.base.get? b=some o->X.s₀.heap.get? b=some o/\X.H₀ b=none
 bsz:X.base.objs.size<=X.s₀.heap.objs.size
 noex:∀b o,X.base.get? b=some o->b∉X.ex
 exfs:∀b∈X.ex,b∉X.fs
 funs:X.s₀.heap.FunFrames X.base X.outer
 frf:∀b∈X.fs,X.H₀ b=none
structure Inv(X:Cx)(pins:List (Addr×Obj))(σ:List (Option V))(H:Hp)(s:Shared):Prop where
 ok:X.Ok
 os:s.os=X.s₀.os
 bare:AllBare s.gens
 base:Un X.fs X.ex X.H₀ H X.s₀.heap s.heap
 loc:∃m,s.heap.Ns X.env.locals m/\∀(i:Nat)(x:Str)(v:V),X.N[i]?=some x->σ[i]?=some (some v)->Vis X.env.scope x->∃u,RelV v u/\Look X.env s.heap m x u
 cell:∀x c,X.env.cells.lookup x=some c->∃v,s.heap.IsCell c v
 free:H X.env.locals=none
 freeC:∀x c,X.env.cells.lookup x=some c->H c=none
 pin:∀p∈X.pn++pins,s.heap.get? p.1=some p.2/\H p.1=none/\p.1≠X.env.locals/\p.1∉X.fs/\∀v,p.2.data≠ .cell v
 hok:HOk X.prog X.w H s.heap
 len:σ.length=X.N.length
section
variable {X:Cx}{pins:List (Addr×Obj)}{σ:List (Option V)}{H H':Hp}{s:Shared}{h':Heap}
variable{g':Array GenState}{t' i:Nat}{d':Drawn}{ch:List Addr}{x:Str}{M:Model}{A:Around}{E:Value->Shared->Prop}{v:V}{u:Value}{Q:Unit->Shared->Prop}
theorem Cx.Ok.nofr(ok:X.Ok){b:Addr}{o:Obj}(e:X.base.get? b=some o):b∉X.fs:=fun hb=>by
 have:=(ok.funs.mem hb).1;rw[e]at this;cases this
theorem Inv.bs(I:Inv X pins σ H s):∀b o,X.base.get? b=some o->s.heap.get? b=some o/\H b=none:=fun b o e=>
 ⟨I.base.keep b o (I.ok.bs b o e).1 (I.ok.bs b o e).2 (I.ok.nofr e) (I.ok.noex b o e),I.base.free b o (I.ok.bs b o e).1 (I.ok.bs b o e).2 (I.ok.noex b o e)⟩
theorem Inv.bk(I:Inv X pins σ H s):∀b o,X.base.get? b=some o->s.heap.get? b=some o:=fun b o e=>(I.bs b o e).1
theorem Inv.mod(I:Inv X pins σ H s):Mod X.K X.mg X.base:=I.ok.mod
theorem Inv.kIn(I:Inv X pins σ H s):X.K.In s.heap:=I.ok.mod.kin.keeps I.bk
theorem Inv.lt(I:Inv X pins σ H s):X.env.locals<s.heap.objs.size:=let ⟨_,hn,_⟩:=I.loc;hn.lt
theorem Inv.sz(I:Inv X pins σ H s):X.s₀.heap.objs.size<=s.heap.objs.size:=cC I.ok.above (aPB I.lt)
theorem Inv.nofs(I:Inv X pins σ H s){a:Addr}(h:s.heap.objs.size<=a):a∉X.fs:=fun hb=>by
 obtain⟨_,o,ho,_⟩:=I.ok.funs.mem hb
 exact absurd (bP (Heap.lt_size ho) (cC I.sz h)) (cQ _)
theorem Inv.cne(I:Inv X pins σ H s):∀x c,X.env.cells.lookup x=some c->c≠X.env.locals:=fun x c e z=>by
 obtain⟨v,o,ho,hd⟩:=I.cell x c e;obtain⟨m,⟨o',es,ep,ho',hd',_⟩,_⟩:=I.loc;rw[z,ho']at ho;cases ho;rw[hd']at hd;cases hd
theorem Inv.funs(I:Inv X pins σ H s):s.heap.FunFrames X.base X.outer:=by
 have all:∀(l:List Env),(∀b∈frs l,b∈X.fs)->X.s₀.heap.FunFrames X.base l->s.heap.FunFrames X.base l:=by
  intro l;induction l with
  |nil=>intro _ _;trivial
  |cons env r ih=>
   intro hs hl;obtain⟨hk,⟨L,o,hf,hn,ho,hd⟩,hr⟩:=hl;have hL:L∈X.fs:=hs L (by unfold frs;rw[eV,hf];exact bF);obtain⟨sl,e⟩:=I.base.slot L o ho (I.ok.frf L hL) hL fun z=>I.ok.exfs L z hL
   exact⟨hk,⟨L,_,hf,hn,e,hd⟩,ih (fun b hb=>hs b (by unfold frs;rw[eV,hf];exact aZ _ hb)) hr⟩
 exact all X.outer (fun _ hb=>hb) I.ok.funs
theorem Inv.stack(I:Inv X pins σ H s):s.heap.FunFrames X.base X.stack:=by
 rcases I.ok.stk with e| ⟨e,hf⟩
 ·rw[e];exact I.funs
 ·rw[e];obtain⟨m,hn,_⟩:=I.loc
  refine .cons (by rw[I.ok.kind];decide) hf hn ?_ I.funs
  exact Heap.get?_none_of_le (cC I.ok.bsz I.ok.above)
theorem Inv.stkSub(I:Inv X pins σ H s):∀b∈frs X.stack,b∈X.env.locals::X.fs:=fun b hb=>by
 rcases I.ok.stk with e| ⟨e,hf⟩
 ·rw[e]at hb;exact aZ _ hb
 ·rw[e]at hb;unfold frs at hb;rw[eV,hf]at hb
  exact hb
theorem Inv.stkFree(I:Inv X pins σ H s):∀b∈frs X.stack,H b=none:=fun b hb=>by
 rcases bE.mp (I.stkSub b hb)with e|hb
 ·rw[e];exact I.free
 ·obtain⟨_,o,ho,_⟩:=I.ok.funs.mem hb
  exact I.base.free b o ho (I.ok.frf b hb) fun z=>I.ok.exfs b z hb
theorem Inv.step(I:Inv X pins σ H s)
 (hch:∀b∈ch,(b∈X.ex\/X.s₀.heap.objs.size<=b)/\b≠X.env.locals/\(∀x c,X.env.cells.lookup x=some c->c≠b)/\∀p∈X.pn++pins,p.1≠b)
 (keep:∀b o,b≠X.env.locals->b∉X.fs->b∉ch->s.heap.get? b=some o->H b=none->h'.get? b=some o)
 (slot:∀b o,b≠X.env.locals->b∈X.fs->b∉ch->s.heap.get? b=some o->H b=none->∃sl,h'.get? b=some {o with slots:=sl})(free:∀b o,b∉ch->s.heap.get? b=some o->H b=none->H' b=none)
 (there:∀b o,b∉ch->s.heap.get? b=some o->∃o',h'.get? b=some o')
 (tups:∀b xs,H b=some (.tup xs)->H' b=some (.tup xs))(frzs:∀b o u,H b=some (.frz o u)->H' b=some (.frz o u))(tbls:∀b ps,H b=some (.tbl ps)->∃more,H' b=some (.tbl (ps++more)))
 (ns:∀m,s.heap.Ns X.env.locals m->h'.Ns X.env.locals m)(hok:HOk X.prog X.w H' h')(hg:AllBare g'):
 Inv X pins σ H' {s with heap:=h',gens:=g',drawn:=d',toks:=t'}:=by
 have neL:∀b o,X.s₀.heap.get? b=some o->b≠X.env.locals:=fun b o e=>bT (bP (Heap.lt_size e) I.ok.above)
 have neC:∀b o,X.s₀.heap.get? b=some o->b∉X.ex->b∉ch:=fun b o e hx hb=>by
  rcases(hch b hb).1 with z|z
  ·exact hx z
  ·exact absurd (bP (Heap.lt_size e) z) (cQ _)
 have cellK:∀x c,X.env.cells.lookup x=some c->∀v,s.heap.IsCell c v->h'.IsCell c v:=fun x c e v ⟨o,ho,hd⟩=>by
  have nch:c∉ch:=fun z=>(hch c z).2.2.1 x c e rfl
  by_cases hc:c∈X.fs
  ·obtain⟨sl,q⟩:=slot c o (I.cne x c e) hc nch ho (I.freeC x c e)
   exact⟨_,q,hd⟩
  ·exact⟨o,keep c o (I.cne x c e) hc nch ho (I.freeC x c e),hd⟩
 refine⟨I.ok,I.os,hg,⟨fun b o e n hb hx=>?_,fun b o e n hb hx=>?_,fun b o e n hx=>?_,fun b o e hx=>?_,fun b xs e=>tups b xs (I.base.tups b xs e),fun b o xs e=>frzs b o xs (I.base.frzs b o xs e),fun b ps e=>?_⟩,?_,fun x c e=>?_,?_,fun x c e=>?_,fun p hp=>?_,hok,I.len⟩
 ·exact keep b o (neL b o e) hb (neC b o e hx) (I.base.keep b o e n hb hx) (I.base.free b o e n hx)
 ·obtain⟨sl,e1⟩:=I.base.slot b o e n hb hx;obtain⟨sl',e2⟩:=slot b _ (neL b o e) hb (neC b o e hx) e1 (I.base.free b o e n hx)
  exact⟨sl',e2⟩
 ·obtain⟨o',e1⟩:=I.base.there b o e hx
  exact free b o' (neC b o e hx) e1 (I.base.free b o e n hx)
 ·obtain⟨o',e1⟩:=I.base.there b o e hx
  exact there b o' (neC b o e hx) e1
 ·obtain⟨m1,e1⟩:=I.base.tbls b ps e;obtain⟨m2,e2⟩:=tbls b _ e1
  exact⟨m1++m2,by rw[e2,aPu]⟩
 ·obtain⟨m,hn,hl⟩:=I.loc
  refine⟨m,ns m hn,fun i x v e1 e2 e3=>?_⟩
  obtain⟨u,r,l⟩:=hl i x v e1 e2 e3
  refine⟨u,r,?_⟩
  rcases l with l| ⟨k,c,e,z⟩
  ·exact .inl l
  ·exact .inr ⟨k,c,e,cellK x c e _ z⟩
 ·obtain⟨v,z⟩:=I.cell x c e
  exact⟨v,cellK x c e v z⟩
 ·obtain⟨m,⟨o,_,_,ho,_⟩,_⟩:=I.loc
  exact free _ o (fun z=>(hch _ z).2.1 rfl) ho I.free
 ·obtain⟨v,o,ho,hd⟩:=I.cell x c e
  exact free c o (fun z=>(hch c z).2.2.1 x c e rfl) ho (I.freeC x c e)
 ·obtain⟨e,n,ne,nf,d⟩:=I.pin p hp;have nch:p.1∉ch:=fun z=>(hch p.1 z).2.2.2 p hp rfl
  exact⟨keep p.1 p.2 ne nf nch e n,free p.1 p.2 nch e n,ne,nf,d⟩
theorem Inv.un(I:Inv X pins σ H s)(u:Un X.fs [] H H' s.heap h')(hok:HOk X.prog X.w H' h'):Inv X pins σ H' {s with heap:=h',toks:=t'}:=by
 obtain⟨m,⟨o,es,ep,ho,r⟩,_⟩:=id I.loc;obtain⟨sl,hL⟩:=u.any ho I.free (by simp)
 exact I.step (g':=s.gens) (d':=s.drawn) (ch:=[]) (fun _ z=>nomatch z) (fun b o _ hb _ e n=>u.keep b o e n hb (by simp)) (fun b o _ hb _ e n=>u.slot b o e n hb (by simp)) (fun b o _ e n=>u.free b o e n (by simp)) (fun b o _ e=>u.there b o e (by simp)) u.tups u.frzs u.tbls (fun m' hm=>by
  obtain⟨o',es',ep',ho',r'⟩:=hm;rw[ho]at ho';cases ho'
  exact⟨_,es',ep',hL,r'⟩) hok I.bare
theorem Inv.call(I:Inv X pins σ H s)(u:Un (frs X.stack) ch H H' s.heap h')(hok:HOk X.prog X.w H' h')(hg:AllBare g')
 (hch:∀b∈ch,(b∈X.ex\/X.s₀.heap.objs.size<=b)/\b≠X.env.locals/\(∀x c,X.env.cells.lookup x=some c->c≠b)/\∀p∈X.pn++pins,p.1≠b):
 Inv X pins σ H' {s with heap:=h',gens:=g',drawn:=d',toks:=t'}:=by
 obtain⟨m,⟨o,es,ep,ho,r⟩,_⟩:=id I.loc;obtain⟨sl,hL⟩:=u.any ho I.free fun z=>(hch _ z).2.1 rfl
 exact I.step (ch:=ch) hch (fun b o hL hb hc e n=>u.keep b o e n (fun z=>(bE.mp (I.stkSub b z)).elim hL hb) hc) (fun b o _ _ hc e n=>u.any e n hc) (fun b o hc e n=>u.free b o e n hc) (fun b o hc e=>u.there b o e hc) u.tups u.frzs u.tbls (fun m' hm=>by
  obtain⟨o',es',ep',ho',r'⟩:=hm;rw[ho]at ho';cases ho'
  exact⟨_,es',ep',hL,r'⟩) hok hg
theorem Inv.turned{it:Addr}(I:Inv X pins σ H s)(k:∀b o,b≠it->s.heap.get? b=some o->h'.get? b=some o)(hn:H it=none)(hL:it≠X.env.locals)
 (h1:it∈X.ex\/X.s₀.heap.objs.size<=it)(h2:∀x c,X.env.cells.lookup x=some c->c≠it)(h3:∀p∈X.pn++pins,p.1≠it):Inv X pins σ H {s with heap:=h',toks:=t'}:=by
 have nit:∀b u,H b=some u->b≠it:=fun b u e z=>by rw[z,hn]at e;cases e
 refine I.step (g':=s.gens) (d':=s.drawn) (ch:=[it]) (fun b hb=>?_) (fun b o _ _ hc e _=>k b o (fun z=>hc (by simp[z])) e) (fun b o _ _ hc e _=>⟨o.slots,k b o (fun z=>hc (by simp[z])) e⟩) (fun _ _ _ _ n=>n)
  (fun b o hc e=>⟨o,k b o (fun z=>hc (by simp[z])) e⟩) (fun _ _ e=>e) (fun _ _ _ e=>e) (fun b ps e=>⟨#[],by rw[e];simp⟩) (fun m hm=>?_) (fun b u e=>?_) I.bare
 ·have e:b=it:=by simpa using hb
  subst e
  exact⟨h1,hL,h2,h3⟩
 ·obtain⟨o,es,ep,ho,r⟩:=hm
  exact⟨o,es,ep,k _ o (Ne.symm hL) ho,r⟩
 ·refine(I.hok b u e).stay (fun c v hc q=>k c v ?_ q) (fun _ q=>q) fun _ _ q=>q
  rcases hc with z|z
  ·rw[z];exact nit b u e
  ·exact nit c _ z
theorem Inv.tok(I:Inv X pins σ H s)(t:Nat):Inv X pins σ H {s with toks:=t}:=I.un (h':=s.heap) (t':=t) Un.refl I.hok
theorem Inv.kept(I:Inv X pins σ H s)(k:∀b u,s.heap.get? b=some u->h'.get? b=some u):Inv X pins σ H {s with heap:=h',toks:=t'}:=I.un (Un.kept k) (I.hok.kept k)
theorem Inv.laid{a:Addr}{o:HO}(I:Inv X pins σ H s)(k:∀b u,s.heap.get? b=some u->h'.get? b=some u)(hp:s.heap.objs.size<=a)(new:jU X.prog X.w (upd H a o) h' a o):
 Inv X pins σ (upd H a o) {s with heap:=h',toks:=t'}:=I.un (Un.laid k hp (I.hok.fresh hp)) (I.hok.laid k hp new)
theorem Inv.write{x e:Addr}{o:HO}(I:Inv X pins σ H s)(mu:Mut (H x))(he:e=x\/H e=some (.own x))(k:∀b u,b≠e->s.heap.get? b=some u->h'.get? b=some u)(heo:∃u,h'.get? e=some u)
 (new:jU X.prog X.w (upd H x o) h' x o):Inv X pins σ (upd H x o) {s with heap:=h',toks:=t'}:=I.un (Un.write mu he k heo) (I.hok.write mu he k heo new)
theorem Inv.pins_of{pins':List (Addr×Obj)}(I:Inv X pins σ H s)(h:∀p∈pins',s.heap.get? p.1=some p.2/\H p.1=none/\p.1≠X.env.locals/\p.1∉X.fs/\∀v,p.2.data≠ .cell v):Inv X pins' σ H s:=
 ⟨I.ok,I.os,I.bare,I.base,I.loc,I.cell,I.free,I.freeC,fun p hp=>(bM.mp hp).elim (fun z=>I.pin p (aOC _ z)) (h p),I.hok,I.len⟩
theorem aCC{N:List Str}(hN:N.Nodup){j:Nat}(a:N[i]?=some x)(b:N[j]?=some x):i=j:=by
 obtain⟨h1,e1⟩:=aP.mp a;obtain⟨h2,e2⟩:=aP.mp b
 exact(aO3 hN).mp (e1.trans e2.symm)
theorem aAn(I:Inv X pins σ H s)(hN:X.N.Nodup)(hi:X.N[i]?=some x)(hx:Loc X.env.scope x)(r:RelV v u)
 (h:∀s',Inv X pins (σ.set i (some v)) H s'->(∃a,Heap.SameBut a s.heap s'.heap/\(a=X.env.locals\/X.env.cells.lookup x=some a))->Q () s')(hf:X.fn x=true\/X.env.scope.names.lookup x=some .local:=by first|exact .inl rfl|exact .inr rfl|assumption):wpAny M A (storeName X.env x u) Q E s:=by
 obtain⟨m,hn,hl⟩:=id I.loc;have hcls:(X.env.scope.kind== .class||(X.env.scope.kind== .module&&X.env.locals !=X.env.globals))=false:=by rw[I.ok.kind];rfl
 have hiσ:i<σ.length:=by rw[I.len];exact(aP.mp hi).1
 have cne:=I.cne;have tracked:∀{a:Addr}{h':Heap},(∃o,s.heap.get? a=some o/\H a=none)->Heap.SameBut a s.heap h'->HOk X.prog X.w H h':=fun {a h'} ha hs b ob e=>by
  obtain⟨_,_,hfree⟩:=ha
  refine(I.hok b ob e).stay (fun c w' hc q=>(hs.2 c ?_).trans q) (fun _ q=>q) fun _ _ q=>q
  rintro rfl;rcases hc with rfl|hc
  ·rw[hfree]at e;cases e
  ·rw[hfree]at hc;cases hc
 rcases hx with hk|hk
 ·refine wpAny_storeName_local hk hn (fun h' hn' hs=>?_) hcls
  obtain⟨oL,_,_,hoL,_⟩:=id hn
  refine h _ ⟨I.ok,I.os,I.bare,⟨fun b o e n hb hx=>?_,fun b o e n hb hx=>?_,I.base.free,fun b o e hx=>?_,I.base.tups,I.base.frzs,I.base.tbls⟩,⟨_,hn',fun j y v' e1 e2 e3=>?_⟩,fun y c e=>?_,I.free,I.freeC,fun p hp=>?_,tracked ⟨oL,hoL,I.free⟩ hs,by simpa using I.len⟩ ⟨_,hs,.inl rfl⟩
  ·exact(hs.2 b (bT (bP (Heap.lt_size e) I.ok.above))).trans (I.base.keep b o e n hb hx)
  ·obtain⟨sl,e1⟩:=I.base.slot b o e n hb hx
   exact⟨sl,(hs.2 b (bT (bP (Heap.lt_size e) I.ok.above))).trans e1⟩
  ·obtain⟨o',e1⟩:=I.base.there b o e hx
   exact⟨o',(hs.2 b (bT (bP (Heap.lt_size e) I.ok.above))).trans e1⟩
  ·by_cases hj:j=i
   ·subst hj;rw[hi]at e1;cases e1;rw[bO hiσ]at e2;cases e2
    exact⟨u,r,.inl ⟨hk,by simp⟩⟩
   ·rw[aS (Ne.symm hj)]at e2;obtain⟨u',r',q⟩:=hl j y v' e1 e2 e3
    refine⟨u',r',?_⟩
    rcases q with⟨k,e⟩| ⟨k,c,e,z⟩
    ·refine .inl ⟨k,?_⟩
     have:y≠x:=fun e=>hj (aCC hN e1 (e ▸ hi))
     simp[this,e]
    ·exact .inr ⟨k,c,e,z.sameBut hs (cne y c e)⟩
  ·obtain⟨w',z⟩:=I.cell y c e
   exact⟨w',z.sameBut hs (cne y c e)⟩
  ·obtain⟨e,n,ne,nf,d⟩:=I.pin p hp
   exact⟨(hs.2 p.1 ne).trans e,n,ne,nf,d⟩
 ·have hfn:X.fn x=true:=by
   rcases hf with z|z
   ·exact z
   ·rw[z]at hk;cases hk
  obtain⟨c,hc⟩:=I.ok.has x (.inl hk);obtain⟨w',z⟩:=I.cell x c hc
  refine wpAny_storeName_cell I.ok.kind hk hc z (fun h' hc' hs=>?_)
  obtain⟨oc,hoc,hocd⟩:=id z
  refine h {s with heap:=h'} ⟨I.ok,I.os,I.bare,⟨fun b o e n hb hx=>?_,fun b o e n hb hx=>?_,I.base.free,fun b o e hx=>?_,I.base.tups,I.base.frzs,I.base.tbls⟩,⟨m,hn.sameBut hs (Ne.symm (cne x c hc)),fun j y v' e1 e2 e3=>?_⟩,fun y c' e=>?_,I.free,I.freeC,fun p hp=>?_,tracked ⟨oc,hoc,I.freeC x c hc⟩ hs,by simpa using I.len⟩ ⟨c,hs,.inr hc⟩
  ·exact(hs.2 b (bT (bP (Heap.lt_size e) (I.ok.cab x c hfn hc)))).trans (I.base.keep b o e n hb hx)
  ·obtain⟨sl,e1⟩:=I.base.slot b o e n hb hx
   exact⟨sl,(hs.2 b (bT (bP (Heap.lt_size e) (I.ok.cab x c hfn hc)))).trans e1⟩
  ·obtain⟨o',e1⟩:=I.base.there b o e hx
   exact⟨o',(hs.2 b (bT (bP (Heap.lt_size e) (I.ok.cab x c hfn hc)))).trans e1⟩
  ·by_cases hj:j=i
   ·subst hj;rw[hi]at e1;cases e1;rw[bO hiσ]at e2;cases e2
    exact⟨u,r,.inr ⟨.inl hk,c,hc,hc'⟩⟩
   ·rw[aS (Ne.symm hj)]at e2;obtain⟨u',r',q⟩:=hl j y v' e1 e2 e3
    refine⟨u',r',?_⟩
    rcases q with q| ⟨k,c',e,z'⟩
    ·exact .inl q
    ·refine .inr ⟨k,c',e,z'.sameBut hs ?_⟩
     rintro rfl
     exact hj (aCC hN e1 (I.ok.inj _ _ _ e hc ▸ hi))
  ·by_cases hcc:c'=c
   ·subst hcc;exact⟨_,hc'⟩
   ·obtain⟨w2,z2⟩:=I.cell y c' e
    exact⟨w2,z2.sameBut hs hcc⟩
  ·obtain⟨e,n,ne,nf,d⟩:=I.pin p hp
   refine⟨(hs.2 p.1 ?_).trans e,n,ne,nf,d⟩
   intro q;rw[q,hoc]at e;have q':oc=p.2:=cN.inj e
   exact d w' (by rw[<-q'];exact hocd)
theorem aBE(I:Inv X pins σ H s)(hN:X.N.Nodup)(hi:X.N[i]?=some x)(hx:Loc X.env.scope x)(r:RelV v u)
 (h:∀s',Inv X pins (σ.set i (some v)) H s'->Q () s')(hf:X.fn x=true\/X.env.scope.names.lookup x=some .local:=by first|exact .inl rfl|exact .inr rfl|assumption):wpAny M A (storeName X.env x u) Q E s:=
 aAn I hN hi hx r (fun s' I' _=>h s' I') hf
theorem Inv.call'{s':Shared}(I:Inv X pins σ H s)(ho:s'.os=s.os)(u:Un (frs X.stack) ch H H' s.heap s'.heap)(hok:HOk X.prog X.w H' s'.heap)(hg:AllBare s'.gens)
 (hch:∀b∈ch,(b∈X.ex\/X.s₀.heap.objs.size<=b)/\b≠X.env.locals/\(∀x c,X.env.cells.lookup x=some c->c≠b)/\∀p∈X.pn++pins,p.1≠b):Inv X pins σ H' s':=by
 obtain⟨h',g',d',t',o'⟩:=s';have e:o'=s.os:=ho;subst e
 exact I.call (g':=g') (t':=t') (d':=d') u hok hg hch
end
abbrev XK:=Value->Option Addr->Hp->Prop
noncomputable abbrev St:=List (Option V)
abbrev VK:=V->Hp->Prop
abbrev TE:=St->Hp->VK->Prop
abbrev TT:=St->Hp->(Bool->Hp->Prop)->Prop
abbrev TA:=St->Hp->(List V->Hp->Prop)->Prop
structure Ends where
 nx:St->Hp->Prop
 rt:VK
 bk:St->Hp->Prop:=fun _ _=>False
 ct:St->Hp->Prop:=fun _ _=>False
abbrev TS:=Ends->St->Hp->Prop
def EP(X:Cx)(pins:List (Addr×Obj))(σ:St)(Q:VK)(u:Value)(s':Shared):Prop:=∃v H',Inv X pins σ H' s'/\RelV v u/\Q v H'
def TP(X:Cx)(pins:List (Addr×Obj))(σ:St)(Q:Bool->Hp->Prop)(b:Bool)(s':Shared):Prop:=∃H',Inv X pins σ H' s'/\Q b H'
def AP(X:Cx)(pins:List (Addr×Obj))(σ:St)(Q:List V->Hp->Prop)(us:List Value)(s':Shared):Prop:=∃vs H',Inv X pins σ H' s'/\Vals vs us/\Q vs H'
def SP(X:Cx)(pins:List (Addr×Obj))(D:Ends)(f:Flow)(s':Shared):Prop:=
 match f with
 | .next=>∃σ' H',Inv X pins σ' H' s'/\D.nx σ' H'
 | .brk=>∃σ' H',Inv X pins σ' H' s'/\D.bk σ' H'
 | .cont=>∃σ' H',Inv X pins σ' H' s'/\D.ct σ' H'
 | .ret u=>∃v σ' H',Inv X pins σ' H' s'/\RelV v u/\D.rt v H'
def PE(X:Cx)(e:Expr)(t:TE):Prop:=
 ∀(pins:List (Addr×Obj))(s:Shared)(σ:St)(H:Hp)(Q:VK),Inv X pins σ H s->t σ H Q->wpAny (model X.prog X.w) X.A (eval e X.env) (EP X pins σ Q) X.xe s
def PT(X:Cx)(e:Expr)(t:TT):Prop:=
 ∀(pins:List (Addr×Obj))(s:Shared)(σ:St)(H:Hp)(Q:Bool->Hp->Prop),Inv X pins σ H s->t σ H Q->wpAny (model X.prog X.w) X.A (isTrue e X.env (eval e X.env)) (TP X pins σ Q) X.xe s
def PW(X:Cx)(e:Expr)(t:TT):Prop:=
 ∀(whole:Sem Value)(pins:List (Addr×Obj))(s:Shared)(σ:St)(H:Hp)(Q:Bool->Hp->Prop),Inv X pins σ H s->t σ H Q->wpAny (model X.prog X.w) X.A (isTrue e X.env whole) (TP X pins σ Q) X.xe s
theorem PW.pt{X:Cx}{e:Expr}{t:TT}(h:PW X e t):PT X e t:=h _
def PA(X:Cx)(es:List Expr)(t:TA):Prop:=
 ∀(pos:Pos)(pins:List (Addr×Obj))(s:Shared)(σ:St)(H:Hp)(Q:List V->Hp->Prop),Inv X pins σ H s->t σ H Q->wpAny (model X.prog X.w) X.A (spliced (backTo pos (starEach es X.env))) (AP X pins σ Q) X.xe s
def PS(X:Cx)(st:Stmt)(t:TS):Prop:=
 ∀(pins:List (Addr×Obj))(s:Shared)(σ:St)(H:Hp)(D:Ends),Inv X pins σ H s->t D σ H->wpAny (model X.prog X.w) X.A (exec st X.env) (SP X pins D) X.xe s
def PSs(X:Cx)(st:List Stmt)(t:TS):Prop:=
 ∀(pins:List (Addr×Obj))(s:Shared)(σ:St)(H:Hp)(D:Ends),Inv X pins σ H s->t D σ H->wpAny (model X.prog X.w) X.A (execs st X.env) (SP X pins D) X.xe s
theorem thn{α:Type}{t:Sem α}{Q Q':α->Shared->Prop}{M:Model}{A:Around}{E:Value->Shared->Prop}{s:Shared}(h:wpAny M A t Q E s)(hQ:∀a s,Q a s->Q' a s):wpAny M A t Q' E s:=wpAny_mono h hQ fun _ _ x=>x
section
variable {X:Cx}
variable{x:Str}{pos:Pos}{E Q:Value->Shared->Prop}{pins:List (Addr×Obj)}{s:Shared}{σ:St}{u:Value}{v:V}
noncomputable def tVar(i:Nat):TE:=fun σ H Q=>∃v,σ[i]?=some (some v)/\Q v H
noncomputable def tC(v:V):TE:=fun _ H Q=>Q v H
theorem aMI{i:Nat}(hN:X.N[i]?=some x)(hv:Vis X.env.scope x)(hd:(x==("__debug__":Str))=false:=by decide)(hcd:(x==("__classdict__":Str))=false:=by decide):PE X (.Name x pos) (tVar i):=by
 intro pins s σ H Q I h;obtain⟨v,e,h⟩:=h;obtain⟨m,hn,hl⟩:=I.loc;obtain⟨u,r,l⟩:=hl i x v hN e hv;have fin:EP X pins σ Q u s:=⟨v,H,I,r,h⟩;rcases l with⟨hk,hm⟩| ⟨hk,c,hc,hcell⟩
 ·exact wpAny_Name (wpAny_loadName_local I.ok.kind hk hn hm fin) hd
 ·rcases hk with hk|hk
  ·exact wpAny_Name (wpAny_loadName_cell I.ok.kind hk hc hcell fin) hd
  ·exact wpAny_Name (wpAny_loadName_free I.ok.kind hk hc hcell fin hcd) hd
theorem aDE{i j pos}:PE X (.Constant (.int i) j pos) (tC (.int i)):=fun _ _ _ H _ I h=>wpAny_Constant_int ⟨.int i,H,I.tok _,⟨_,rfl⟩,h⟩
theorem aNN{b j pos}:PE X (.Constant (.bool b) j pos) (tC (.bl b)):=fun _ _ _ H _ I h=>Constant_bool ⟨.bl b,H,I,rfl,h⟩
theorem aMX{j pos}:PE X (.Constant .none j pos) (tC .non):=fun _ _ _ H _ I h=>Constant_none ⟨.non,H,I,rfl,h⟩
def Gl(X:Cx)(x:Str):Prop:=X.env.kindOf x=some .globalImplicit
theorem aBs{H:Hp}(I:Inv X pins σ H s)(hg:Gl X x)(hm:X.mg x=some u)(h:Q u s)
 (hd:(x==("__debug__":Str))=false:=by decide):wpAny (model X.prog X.w) X.A (eval (.Name x pos) X.env) Q E s:=
 Calls.Name_function_global I.ok.kind hg (Calls.loadGlobal_global (by rw[I.ok.glob];exact I.mod.glob.keeps I.bk) hm h) hd
theorem qH{H:Hp}(I:Inv X pins σ H s)(hg:Gl X x)(hm:X.mg x=none)(hv:bootBuiltins x=some u)(h:Q u s)
 (hn:x≠"__name__":=by decide)(hd:(x==("__debug__":Str))=false:=by decide):wpAny (model X.prog X.w) X.A (eval (.Name x pos) X.env) Q E s:=by
 obtain⟨mb,h1,h2⟩:=I.mod.blt
 exact Calls.Name_function_global I.ok.kind hg (Calls.loadGlobal_builtin (by rw[I.ok.glob];exact I.mod.glob.keeps I.bk) hm (by rw[I.ok.blt];exact h1.keeps I.bk) ((h2 x hn).trans hv) h) hd
theorem aKl(hg:Gl X x)(hm:X.mg x=some u)(r:RelV v u)(hd:(x==("__debug__":Str))=false:=by decide):PE X (.Name x pos) (tC v):=
 fun _ _ _ H _ I h=>aBs I hg hm ⟨v,H,I,r,h⟩ hd
theorem aI0(hg:Gl X x)(hm:X.mg x=none)(hv:bootBuiltins x=some u)(r:RelV v u)(hn:x≠"__name__":=by decide)(hd:(x==("__debug__":Str))=false:=by decide):PE X (.Name x pos) (tC v):=
 fun _ _ _ H _ I h=>qH I hg hm hv ⟨v,H,I,r,h⟩ hn hd
variable {a b:Expr}{ta tb:TE}{pos:Pos}
def PC(X:Cx)(op:CmpOp)(a b:Expr)(t:TE):Prop:=
 ∀(pins:List (Addr×Obj))(s:Shared)(σ:St)(H:Hp)(Q:VK),Inv X pins σ H s->t σ H Q->
  wpAny (model X.prog X.w) X.A (eval a X.env) (fun v s₁=>wpAny (model X.prog X.w) X.A (eval b X.env) (fun u s₂=>wpAny (model X.prog X.w) X.A (compareOp op v u) (EP X pins σ Q) X.xe s₂) X.xe s₁) X.xe s
noncomputable def tB(t:TE):TT:=fun σ H Q=>t σ H fun x H1=>∃c,x=.bl c/\Q c H1
theorem aGB{op:CmpOp}{t:TE}(h:PC X op a b t)(h1:behindInMarks op b=false:=by first|exact nobehind _ (by decide) (by decide)|rfl):PT X (.Compare a [op] [b] pos) (tB t):=by
 intro pins s σ H Q I hw
 refine wpAny_isTrue_Compare1 (thn (h pins s σ H _ I hw) fun v s1 h1=>thn h1 fun u s2 h2=>thn h2 fun c s3 ⟨x,H1,I1,r1,q1⟩=>?_) h1
 obtain⟨d,rfl,q⟩:=q1;cases r1
 exact wpAny_truthy_bool ⟨H1,I1,q⟩
variable {tA tB':TT}{rest:List Expr}
noncomputable def tAnd(t u:TT):TT:=fun σ H Q=>t σ H fun c H1=>if c=true then u σ H1 Q else Q false H1
noncomputable def tOr(t u:TT):TT:=fun σ H Q=>t σ H fun c H1=>if c=true then Q true H1 else u σ H1 Q
noncomputable def tNot(t:TT):TT:=fun σ H Q=>t σ H fun c H1=>Q (!c) H1
theorem aJa(ha:PT X a tA):PW X (.BoolOp .And [a] pos) tA:=by
 intro wh pins s σ H Q I h
 refine isTrue_and (thn (ha pins s σ H Q I h) fun c s1 e=>?_)
 cases c with
 |true=>exact isTrue_and_nil e
 |false=>exact e
theorem aMk(ha:PT X a tA):PW X (.BoolOp .Or [a] pos) tA:=by
 intro wh pins s σ H Q I h
 refine isTrue_or (thn (ha pins s σ H Q I h) fun c s1 e=>?_)
 cases c with
 |false=>exact isTrue_or_nil e
 |true=>exact e
theorem aMY(ha:PT X a tA)(hb:PW X (.BoolOp .And (b::rest) pos) tB'):PW X (.BoolOp .And (a::b::rest) pos) (tAnd tA tB'):=by
 intro wh pins s σ H Q I h
 refine isTrue_and (thn (ha pins s σ H _ I h) fun c s1 ⟨H1,I1,q1⟩=>?_)
 cases c with
 |true=>exact hb wh pins s1 σ H1 Q I1 q1
 |false=>exact⟨H1,I1,q1⟩
theorem aN0(ha:PT X a tA)(hb:PW X (.BoolOp .Or (b::rest) pos) tB'):PW X (.BoolOp .Or (a::b::rest) pos) (tOr tA tB'):=by
 intro wh pins s σ H Q I h
 refine isTrue_or (thn (ha pins s σ H _ I h) fun c s1 ⟨H1,I1,q1⟩=>?_)
 cases c with
 |true=>exact⟨H1,I1,q1⟩
 |false=>exact hb wh pins s1 σ H1 Q I1 q1
theorem aMe(ha:PT X a tA):PT X (.UnaryOp .Not a pos) (tNot tA):=by
 intro pins s σ H Q I h
 exact isTrue_not (ha pins s σ H (fun c H1=>Q (!c) H1) I h)
noncomputable def tAndV(ta tb:TE):TE:=fun σ H Q=>ta σ H fun x H1=>∃c,x=.bl c/\if c=true then tb σ H1 Q else Q (.bl false) H1
noncomputable def tNotV(ta:TE):TE:=fun σ H Q=>ta σ H fun x H1=>∃c,x=.bl c/\Q (.bl (!c)) H1
theorem aM5{op}{t:TE}(h:PE X a t):PE X (.BoolOp op [a] pos) t:=fun pins s σ H Q I hw=>BoolOp_one (h pins s σ H Q I hw)
theorem aLC(ha:PE X a ta)(hb:PE X (.BoolOp .And (b::rest) pos) tb):PE X (.BoolOp .And (a::b::rest) pos) (tAndV ta tb):=by
 intro pins s σ H Q I h
 refine BoolOp_and (thn (ha pins s σ H _ I h) fun v s1 zz=>?_)
 obtain⟨x,H1,I1,r1,q1⟩:=zz;obtain⟨c,rfl,q1⟩:=q1;cases r1
 refine wpAny_truthy_bool ?_
 cases c with
 |true=>exact hb pins s1 σ H1 Q I1 q1
 |false=>exact⟨.bl false,H1,I1,rfl,q1⟩
theorem aLT(ha:PE X a ta):PE X (.UnaryOp .Not a pos) (tNotV ta):=by
 intro pins s σ H Q I h
 refine UnaryOp_ (thn (ha pins s σ H _ I h) fun v s1 zz=>?_)
 obtain⟨x,H1,I1,r1,q1⟩:=zz;obtain⟨c,rfl,q1⟩:=q1;cases r1
 exact not_of (wpAny_truthy_bool ⟨.bl (!c),H1,I1,rfl,q1⟩)
end
variable{x:V}{u:Value}
def SqL(K:aO)(H:Hp)(a:Addr)(xs:List V):Prop:=
 Rd H a (.lst xs)\/
  ∃(o:Obj)(its:Array Value)(n:Nat),K.lookup a=some o/\o.cls=.type "list"/\o.dict=none/\o.data=.seq its n/\its.size<=sizeLine/\Vals xs its.toList
def SqT(K:aO)(H:Hp)(a:Addr)(xs:List V):Prop:=
 Rd H a (.tup xs)\/
  ∃(o:Obj)(its:Array Value)(n:Nat),K.lookup a=some o/\o.cls=.type "tuple"/\o.data=.seq its n/\its.size<=sizeLine/\Vals xs its.toList
noncomputable def absV:Value->Option V
 | .none=>some .non
 | .bool b=>some (.bl b)
 | .int i _=>some (.int i)
 | .str x _=>some (.str x)
 | .bytes b _=>some (.byt b)
 | .float b _=>some (.flt b)
 | .ref a=>some (.ref a)
 | .type n=>some (.ty n)
 |_=>none
theorem RelV.abs(r:RelV x u):absV u=some x:=by
 cases x with
 |non=>cases r;rfl
 |bl _=>cases r;rfl
 |int _=>obtain⟨t,rfl⟩:=r;rfl
 |str _=>obtain⟨t,rfl⟩:=r;rfl
 |byt _=>obtain⟨t,rfl⟩:=r;rfl
 |flt _=>obtain⟨t,rfl⟩:=r;rfl
 |ref _=>cases r;rfl
 |ty _=>cases r;rfl
theorem RelV.inj{y:V}(r:RelV x u)(q:RelV y u):x=y:=cN.inj (r.abs.symm.trans q.abs)
theorem Vals.inj:∀{xs ys:List V}{us:List Value},Vals xs us->Vals ys us->xs=ys
 |_,_,_,.nil,.nil=>rfl
 |_,_,_,.cons r t,.cons r' t'=>by rw[r.inj r',Vals.inj t t']
section
variable {X:Cx}{pins:List (Addr×Obj)}{σ:St}{H:Hp}{s:Shared}{a:Addr}{xs ys:List V}
variable{K:aO}
theorem SqL.of(h:H a=some (.lst xs)):SqL K H a xs:=.inl (.inl h)
theorem SqT.of(h:H a=some (.tup xs)):SqT K H a xs:=.inl (.inl h)
theorem Inv.list(I:Inv X pins σ H s)(h:SqL X.K H a xs):∃its:List Value,Vals xs its/\PlainL s.heap a its.toArray/\xs.length<=sizeLine:=by
 rcases h with h| ⟨o,its,n,hk,hc,hd,hs,hz,r⟩
 ·obtain⟨z,its,n,r,e⟩:=h.ok I.hok
  exact⟨its,r,⟨_,n,e,rfl,rfl,rfl⟩,z⟩
 ·refine⟨its.toList,r,⟨o,n,I.kIn a o hk,hc,hd,by simpa using hs⟩,?_⟩
  have e:=r.length;simp only[b6]at e
  lia
theorem Inv.tuple(I:Inv X pins σ H s)(h:SqT X.K H a xs):∃its:List Value,Vals xs its/\IsTup s.heap a its.toArray/\xs.length<=sizeLine:=by
 rcases h with h| ⟨o,its,n,hk,hc,hs,hz,r⟩
 ·obtain⟨z,its,r,p⟩:=h.ok I.hok
  exact⟨its,r,p,z⟩
 ·refine⟨its.toList,r,⟨o,I.kIn a o hk,hc,n,by simpa using hs⟩,?_⟩
  have e:=r.length;simp only[b6]at e
  lia
theorem Inv.list_inj(I:Inv X pins σ H s)(h:SqL X.K H a xs)(h':SqL X.K H a ys):xs=ys:=by
 obtain⟨its,r,⟨o,n,e,_,_,d⟩,_⟩:=I.list h;obtain⟨its',r',⟨o',n',e',_,_,d'⟩,_⟩:=I.list h';rw[e]at e';cases e';rw[d]at d';injection d' with d1 _
 have:its=its':=by simpa using congrArg Array.toList d1
 subst this
 exact r.inj r'
end
noncomputable abbrev Cx.wish(X:Cx)(E:Value->Shared->Prop):Cx:={X with xe:=E}
abbrev Cx.nox(X:Cx):Cx:=X.wish fun _ _=>False
theorem Cx.Ok.wish{X:Cx}(ok:X.Ok)(E:Value->Shared->Prop):(X.wish E).Ok:=
 ⟨ok.mod,ok.kind,ok.glob,ok.blt,ok.above,ok.inj,ok.has,ok.cab,ok.hd,ok.frames,ok.stk,ok.exf,ok.bs,ok.bsz,ok.noex,ok.exfs,ok.funs,ok.frf⟩
theorem Cx.Ok.unwish{X:Cx}{E:Value->Shared->Prop}(ok:(X.wish E).Ok):X.Ok:=
 ⟨ok.mod,ok.kind,ok.glob,ok.blt,ok.above,ok.inj,ok.has,ok.cab,ok.hd,ok.frames,ok.stk,ok.exf,ok.bs,ok.bsz,ok.noex,ok.exfs,ok.funs,ok.frf⟩
section
variable {X:Cx}{pins:List (Addr×Obj)}{σ:St}{H:Hp}{s:Shared}{E:Value->Shared->Prop}
theorem Inv.wish(I:Inv X pins σ H s)(E:Value->Shared->Prop):Inv (X.wish E) pins σ H s:=⟨I.ok.wish E,I.os,I.bare,I.base,I.loc,I.cell,I.free,I.freeC,I.pin,I.hok,I.len⟩
theorem Inv.unwish(I:Inv (X.wish E) pins σ H s):Inv X pins σ H s:=⟨I.ok.unwish,I.os,I.bare,I.base,I.loc,I.cell,I.free,I.freeC,I.pin,I.hok,I.len⟩
theorem SP.unwish{D:Ends}{f:Flow}{s':Shared}(h:SP (X.wish E) pins D f s'):SP X pins D f s':=by
 cases f with
 |next=>obtain⟨σ',H',I,q⟩:=h;exact⟨σ',H',I.unwish,q⟩
 |brk=>obtain⟨σ',H',I,q⟩:=h;exact⟨σ',H',I.unwish,q⟩
 |cont=>obtain⟨σ',H',I,q⟩:=h;exact⟨σ',H',I.unwish,q⟩
 |ret u=>obtain⟨v,σ',H',I,r,q⟩:=h;exact⟨v,σ',H',I.unwish,r,q⟩
theorem PSs.nox{st:List Stmt}{t:TS}(h:PSs X.nox st t):PSs X st t:=fun pins s σ H D I hw=>
 wpAny_mono (h pins s σ H D (I.wish _) hw) (fun _ _ q=>q.unwish) fun _ _ z=>False.elim z
end
section
variable {X:Cx}{st:Stmt}{rest:List Stmt}{t u:TS}{e:Expr}{te:TE}{pos:Pos}
noncomputable def aHJ:TS:=fun D σ H=>D.nx σ H
noncomputable def tSeq(t u:TS):TS:=fun D σ H=>t {D with nx:=u D} σ H
theorem aKg:PSs X [] aHJ:=fun _ _ σ H _ I h=>wpAny_execs_nil ⟨σ,H,I,h⟩
theorem aHI(h1:PS X st t)(h2:PSs X rest u):PSs X (st::rest) (tSeq t u):=by
 intro pins s σ H D I h
 refine wpAny_execs_cons (thn (h1 pins s σ H {D with nx:=u D} I h) fun f s1 q=>?_)
 cases f with
 |next=>
  obtain⟨σ',H',I',q⟩:=q
  exact h2 pins s1 σ' H' D I' q
 |ret v=>exact q
 |brk=>exact q
 |cont=>exact q
theorem aKB(h1:PS X st t):PSs X [st] t:=by
 intro pins s σ H D I h
 refine wpAny_execs_cons (thn (h1 pins s σ H D I h) fun f s1 q=>?_)
 cases f with
 |next=>exact wpAny_execs_nil q
 |ret v=>exact q
 |brk=>exact q
 |cont=>exact q
theorem aJl:PS X (.Pass pos) aHJ:=fun _ _ σ H _ I h=>wpAny_Pass ⟨σ,H,I,h⟩
theorem Inv.quiet{pins:List (Addr×Obj)}{σ:St}{H:Hp}{s:Shared}(I:Inv X pins σ H s):interactive X.env=false:=by simp[interactive,I.ok.kind]
noncomputable def aED(te:TE):TS:=fun D σ H=>te σ H fun _ H1=>D.nx σ H1
theorem vX(he:PE X e te)(hs:swapsWith e none pos.line X.env=pure false:=by rfl):PS X (.Expr e pos) (aED te):=by
 intro pins s σ H D I h
 exact wpAny_Expr_any (thn (he pins s σ H _ I h) fun v s1 ⟨x,H1,I1,r1,q1⟩=>⟨σ,H1,I1,q1⟩) I.quiet hs
def tRet(te:TE):TS:=fun D σ H=>te σ H D.rt
theorem aLZ(he:PE X e te):PS X (.Return (some e) pos) (tRet te):=by
 intro pins s σ H D I h
 exact wpAny_Return_some (thn (he pins s σ H _ I h) fun v s1 ⟨x,H1,I1,r1,q1⟩=>⟨x,σ,H1,I1,r1,q1⟩)
noncomputable def tIfS(c:TT)(t u:TS):TS:=fun D σ H=>c σ H fun b H1=>if b=true then t D σ H1 else u D σ H1
theorem aNr{c:Expr}{a b:List Stmt}{tc:TT}(hc:PT X c tc)(ha:PSs X a t)(hb:PSs X b u):PS X (.If c a b pos) (tIfS tc t u):=by
 intro pins s σ H D I h
 refine wpAny_If (thn (hc pins s σ H _ I h) fun d s1 ⟨H1,I1,q1⟩=>?_)
 cases d with
 |true=>exact ha pins s1 σ H1 D I1 q1
 |false=>exact hb pins s1 σ H1 D I1 q1
end
abbrev TG:=V->St->Hp->(St->Hp->Prop)->Prop
abbrev TGs:=List V->St->Hp->(St->Hp->Prop)->Prop
def PG(X:Cx)(target:Expr)(t:TG):Prop:=
 ∀(pins:List (Addr×Obj))(s:Shared)(σ:St)(H:Hp)(v:V)(u:Value)(Q:St->Hp->Prop),Inv X pins σ H s->RelV v u->t v σ H Q->
  wpAny (model X.prog X.w) X.A (assign target X.env u) (fun _ s'=>∃σ' H',Inv X pins σ' H' s'/\Q σ' H') X.xe s
def PGs(X:Cx)(ts:List Expr)(t:TGs):Prop:=
 ∀(pins:List (Addr×Obj))(s:Shared)(σ:St)(H:Hp)(vs:List V)(us:List Value)(Q:St->Hp->Prop),Inv X pins σ H s->Vals vs us->t vs σ H Q->
  wpAny (model X.prog X.w) X.A (assignInOrder ((assignEach ts X.env).map (·.2)) us) (fun _ s'=>∃σ' H',Inv X pins σ' H' s'/\Q σ' H') X.xe s
abbrev aMP:=V->V->V->Hp->(Hp->Prop)->Prop
def PSet(X:Cx)(t:aMP):Prop:=
 ∀(pins:List (Addr×Obj))(s:Shared)(σ:St)(H:Hp)(o i v:V)(ov iv u:Value)(Q:Hp->Prop),Inv X pins σ H s->RelV o ov->RelV i iv->RelV v u->t o i v H Q->
  wpAny (model X.prog X.w) X.A (setItem ov iv u) (fun _ s'=>∃H',Inv X pins σ H' s'/\Q H') X.xe s
section
variable {X:Cx}{pos:Pos}
variable{i:Nat}{e:Expr}{es:List Expr}{te:TE}
noncomputable def rY(i:Nat):TG:=fun v σ H Q=>Q (σ.set i (some v)) H
theorem aEy{x:Str}(hN:X.N.Nodup)(hi:X.N[i]?=some x)(hx:Loc X.env.scope x)(hf:X.fn x=true\/X.env.scope.names.lookup x=some .local:=by first|exact .inl rfl|exact .inr rfl|assumption):PG X (.Name x pos) (rY i):=by
 intro pins s σ H v u Q I r h
 exact wpAny_assign_Name (aBE I hN hi hx r (fun s' I'=>⟨_,H,I',h⟩) hf)
noncomputable def aKL:TGs:=fun vs σ H Q=>vs=[]/\Q σ H
noncomputable def aEU(t:TG)(u:TGs):TGs:=fun vs σ H Q=>∃v r,vs=v::r/\t v σ H fun σ' H'=>u r σ' H' Q
theorem aIS:PGs X [] aKL:=by
 intro pins s σ H vs us Q I r h;obtain⟨e,h⟩:=h;subst e;cases r
 exact assignInOrder_nil ⟨σ,H,I,h⟩
theorem aHN{t:TG}{u:TGs}(h1:PG X e t)(h2:PGs X es u)
 (hs:(assignEach (e::es) X.env).map (·.2)=assign e X.env::(assignEach es X.env).map (·.2):=by rfl):PGs X (e::es) (aEU t u):=by
 intro pins s σ H vs us Q I r h;obtain⟨v,vr,e1,h⟩:=h;subst e1;cases r with
 |cons r rr=>
  rw[hs]
  refine assignInOrder_cons (thn (h1 pins s σ H _ _ _ I r h) fun _ s1 zz=>?_)
  obtain⟨σ1,H1,I1,q1⟩:=zz
  exact h2 pins s1 σ1 H1 _ _ Q I1 rr q1
noncomputable def gTup(K:aO)(n:Nat)(t:TGs):TG:=fun v σ H Q=>∃a xs,v=.ref a/\SqT K H a xs/\xs.length=n/\t xs σ H Q
theorem aMZ{k:Nat}{t:TGs}{n:Nat}(hc:X.calm=true)(h:PGs X es t)
 (hn:(assignEach es X.env).length=n:=by rfl)(hst:(assignEach es X.env).findIdx? (·.1)=none:=by rfl):PG X (.Tuple es k pos) (gTup X.K n t):=by
 intro pins s σ H v u Q I r hw;obtain⟨a,xs,e1,hq,hl,hw⟩:=hw;subst e1;cases r;obtain⟨its,rv,ht,hz⟩:=I.tuple hq
 refine assign_Tuple_tuple (I.ok.hd hc) ht (by simp[hn,<-hl,rv.length]) hst fun h' hx=>?_
 have I1:Inv X pins σ H {s with heap:=h'}:=I.kept (t':=s.toks) fun b o e=>hx b o (bT (Heap.lt_size e)) e
 exact h pins _ σ H xs _ Q I1 (by simpa using rv) hw
noncomputable def gSub(to ti:TE)(t:aMP):TG:=fun v σ H Q=>to σ H fun o H1=>ti σ H1 fun i H2=>t o i v H2 fun H3=>Q σ H3
theorem aMN{o i:Expr}{to ti:TE}{t:aMP}(ho:PE X o to)(hi:PE X i ti)(hs:PSet X t)
 (ha:∀v,assign (.Subscript o i pos) X.env v=(do
  let ov<-holding [v] (eval o X.env)
  let iv<-holding [v,ov] (eval i X.env)
  standAt pos
  holding [v,ov,iv] (setItem ov iv v)
  release [v,ov,iv] []):=by intro _;rfl):PG X (.Subscript o i pos) (gSub to ti t):=by
 intro pins s σ H v u Q I r h;rw[ha]
 refine wpAny_bind (wpAny_holding (thn (ho pins s σ H _ I h) fun ov s1 zz=>?_))
 obtain⟨x,H1,I1,r1,q1⟩:=zz
 refine wpAny_bind (wpAny_holding (thn (hi pins s1 σ H1 _ I1 q1) fun iv s2 zz=>?_))
 obtain⟨y,H2,I2,r2,q2⟩:=zz
 refine wpAny_bind (wpAny_standAt (wpAny_bind (wpAny_holding (thn (hs pins s2 σ H2 x y v ov iv u _ I2 r1 r2 r q2) fun _ s3 ⟨H3,I3,q3⟩=>?_))))
 exact wpAny_release ⟨σ,H3,I3,q3⟩
noncomputable def aCX(te:TE)(g:TG):TS:=fun D σ H=>te σ H fun x H1=>g x σ H1 D.nx
theorem aGL{tg:Expr}{g:TG}(he:PE X e te)(hg:PG X tg g)(hs:swapsWithSole [tg] e pos.line X.env=pure false:=by rfl)(hw:swappedStores [tg] e X.env=pure none:=by rfl)
 (h1:(assignEach [tg] X.env).map (·.2)=[assign tg X.env]:=by rfl):PS X (.Assign [tg] e pos) (aCX te g):=by
 intro pins s σ H D I h
 refine wpAny_Assign_stores (thn (he pins s σ H _ I h) fun v s1 ⟨x,H1,I1,r1,q1⟩=>?_) hs hw
 rw[h1]
 exact thn (hg pins s1 σ H1 x v _ I1 r1 q1) fun _ s2 q=>q
theorem aMD{x:Str}{pos':Pos}(hN:X.N.Nodup)(hi:X.N[i]?=some x)(hx:Loc X.env.scope x)(he:PE X e te)(hs:swapsWith e (some (.Name x pos')) pos.line X.env=pure false:=by rfl)(hf:X.fn x=true\/X.env.scope.names.lookup x=some .local:=by first|exact .inl rfl|exact .inr rfl|assumption):
 PS X (.Assign [.Name x pos'] e pos) (aCX te (rY i)):=by
 intro pins s σ H D I h
 refine wpAny_Assign_Name (thn (he pins s σ H _ I h) fun v s1 ⟨y,H1,I1,r1,q1⟩=>?_) hs
 exact aBE I1 hN hi hx r1 (fun s2 I2=>⟨_,H1,I2,q1⟩) hf
end
section
variable {X:Cx}{pos:Pos}
def tWhile(c:TT)(tb:TS):TS:=fun D σ H=>∃W:Nat->St->Hp->Prop,(∃m,W m σ H)/\∀m σ H,W m σ H->
 c σ H fun b H1=>if b=true then∃N:St->Hp->Prop,(∀σ' H',N σ' H'->∃m',m'<m/\W m' σ' H')/\tb {D with nx:=N,ct:=N,bk:=D.nx} σ H1 else D.nx σ H1
theorem aGZ{c:Expr}{body:List Stmt}{tc:TT}{tb:TS}(hp:PassesOwn (model X.prog X.w) X.A X.env X.xe)(hc:PT X c tc)(hb:PSs X body tb):PS X (.While c body [] pos) (tWhile tc tb):=by
 intro pins s σ H D I h;obtain⟨W,⟨m0,w0⟩,turn⟩:=h
 refine wpAny_While (codeAny_whileLoop (fun n s'=>∃σ' H',Inv X pins σ' H' s'/\W n σ' H') ?_ m0 ⟨σ,H,I,w0⟩)
 rintro n s1 ⟨σ1,H1,I1,w1⟩
 refine wpAny_passesOwn hp (thn (hc pins s1 σ1 H1 _ I1 (turn n σ1 H1 w1)) fun b s2 ⟨H2,I2,q2⟩=>?_)
 cases b with
 |true=>
  obtain⟨N,hN,q2⟩:=q2;rw[if_pos rfl]
  refine wpAny_passesOwn hp (thn (hb pins s2 σ1 H2 _ I2 q2) fun f s3 q3=>?_)
  cases f with
  |next=>
   obtain⟨σ3,H3,I3,n3⟩:=q3;obtain⟨m',hm,w3⟩:=hN σ3 H3 n3
   exact⟨m',hm,σ3,H3,I3,w3⟩
  |cont=>
   obtain⟨σ3,H3,I3,n3⟩:=q3;obtain⟨m',hm,w3⟩:=hN σ3 H3 n3
   exact⟨m',hm,σ3,H3,I3,w3⟩
  |brk=>exact q3
  |ret v=>exact q3
 |false=>
  rw[if_neg bY]
  exact wpAny_execs_nil ⟨σ1,H2,I2,q2⟩
end
variable{s:Shared}{tg:Expr}{P:Program}{w:World}{K:aO}
structure It where
 go:Nat->Hp->Prop
 yld:Nat->Hp->V->Hp->Prop
 stop:Nat->Hp->Prop
def uL(X:Cx)(pins:List (Addr×Obj))(H:Hp)(b:Addr):Prop:=
 H b=none/\b≠X.env.locals/\b∉X.fs/\(b∈X.ex\/X.s₀.heap.objs.size<=b)/\(∀x c,X.env.cells.lookup x=some c->c≠b)/\∀p∈X.pn++pins,p.1≠b
theorem Inv.fpOk{X:Cx}{pins:List (Addr×Obj)}{σ:St}{H H':Hp}{b:Addr}(I:Inv X pins σ H s)(hb:s.heap.objs.size<=b)(hn:H' b=none):uL X pins H' b:=by
 refine⟨hn,Nat.ne_of_gt (bP I.lt hb),I.nofs hb,.inr (cC I.sz hb),fun x c e z=>?_,fun p hp z=>?_⟩
 ·obtain⟨v,q⟩:=I.cell x c e
  exact absurd (bP q.lt (by rw[z];exact hb)) (cQ _)
 ·exact absurd (bP (Heap.lt_size (I.pin p hp).1) (by rw[z];exact hb)) (cQ _)
structure Turn(P:Program)(w:World)(K:aO)(tg:Expr)(J:It)(fp:List Addr)(it:Addr)(tn:Nat->Heap->Prop):Prop where
 mem:it∈fp
 obj:∀i h,tn i h->∀b∈fp,∃o,h.get? b=some o/\∀v,o.data≠ .cell v
 keep:∀i h h',tn i h->(∀b∈fp,∀o,h.get? b=some o->h'.get? b=some o)->tn i h'
 item:∀(X:Cx),X.prog=P->X.w=w->X.K=K->X.calm=true->∀(i:Nat)(pins:List (Addr×Obj))(s:Shared)(σ:St)(H:Hp)(E:Value->Shared->Prop),Inv X pins σ H s->(∀b∈fp,uL X pins H b)->tn i s.heap->J.go i H->
  wpAny (model P w) X.A (pyNext (.ref it)) (fun r s1=>∃u,r=some u/\
   wpAny (model P w) X.A (letOwnedTupleGo tg (.ref it) u) (fun _ s2=>∃x H',Inv X pins σ H' s2/\RelV x u/\J.yld i H x H'/\tn (i+1) s2.heap/\∀b∈fp,H' b=none) E s1) E s
 done:∀(X:Cx),X.prog=P->X.w=w->X.K=K->X.calm=true->∀(i:Nat)(pins:List (Addr×Obj))(s:Shared)(σ:St)(H:Hp)(E:Value->Shared->Prop),Inv X pins σ H s->(∀b∈fp,uL X pins H b)->tn i s.heap->J.stop i H->
  wpAny (model P w) X.A (pyNext (.ref it)) (fun r s1=>r=none/\Inv X pins σ H s1) E s
 self:∀(A:Around)(i:Nat)(s:Shared)(Q:Value->Shared->Prop)(E:Value->Shared->Prop),tn i s.heap->Q (.ref it) s->wpAny (model P w) A (pyIter (.ref it)) Q E s
abbrev TI:=St->Hp->(It->Hp->Prop)->Prop
def PIE(X:Cx)(pins:List (Addr×Obj))(σ:St)(tg:Expr)(R:It->Hp->Prop)(itv:Value)(s2:Shared):Prop:=
 ∃(it:Addr)(fp:List Addr)(tn:Nat->Heap->Prop)(J:It)(H':Hp),itv=.ref it/\Inv X pins σ H' s2/\Turn X.prog X.w X.K tg J fp it tn/\tn 0 s2.heap/\(∀b∈fp,uL X pins H' b)/\R J H'
def PI(X:Cx)(tg iter:Expr)(wi:TI):Prop:=
 ∀(pins:List (Addr×Obj))(s:Shared)(σ:St)(H:Hp)(R:It->Hp->Prop),Inv X pins σ H s->wi σ H R->
  wpAny (model X.prog X.w) X.A (eval iter X.env) (fun v s1=>wpAny (model X.prog X.w) X.A (pyIter v) (PIE X pins σ tg R) X.xe s1) X.xe s
theorem aHR{M:Model}{A:Around}{E:Value->Shared->Prop}{it:Addr}{u:Value}{o:Obj}{n:String}{vs:Array Value}{Q:Unit->Shared->Prop}(ho:s.heap.get? it=some o)(hc:o.cls=.type n)(hd:o.data=.fields vs)
 (hn:["enumerate","zip","dict_itemiterator","dict_reverseitemiterator","odict_iterator","itertools.zip_longest","itertools.pairwise"].contains n=false)(hQ:Q () s):wpAny M A (letOwnedTupleGo tg (.ref it) u) Q E s:=by
 unfold letOwnedTupleGo;cases tg<;>first
  |exact wpAny_pure hQ
  | (cases u<;>first
   |exact wpAny_pure hQ
   | (refine wpAny_bind (wpAny_load ho ?_)
      rw[hc,hd];show wpAny M A (if(["enumerate","zip","dict_itemiterator","dict_reverseitemiterator","odict_iterator","itertools.zip_longest","itertools.pairwise"].contains n&&vs[0]?==some (rawInt _))=true then _ else _) Q E s;rw[if_neg (by intro h;rw[hn,aPh]at h;cases h)]
      exact wpAny_pure hQ))
noncomputable def Itl(K:aO)(a:Addr):It:=
 ⟨fun i H=>∃xs x,SqL K H a xs/\xs[i]?=some x,fun i H x H'=>H'=H/\∀xs,SqL K H a xs->xs[i]?=some x,fun i H=>∃xs,SqL K H a xs/\xs.length<=i⟩
noncomputable def Itr(lo:Int)(n:Nat):It:=⟨fun i _=>i<n,fun i H x H'=>H'=H/\x=.int (lo+i),fun i _=>n<=i⟩
theorem aFU(a it:Addr):Turn P w K tg (Itl K a) [it] it (fun i h=>h.IsListIter it a i) where
 mem:=by simp
 obj:=fun i h st b hb=>by
  have e:b=it:=by simpa using hb
  subst e;obtain⟨o,e,c,d⟩:=st
  exact⟨o,e,fun v z=>by rw[d]at z;cases z⟩
 keep:=fun i h h' st k=>st.at fun o e=>k it (by simp) o e
 item:=by
  intro X hP hw hK hc i pins s σ H E I hf st hg;subst hP hw hK;obtain⟨xs,x,hq,hx⟩:=hg;obtain⟨its,rv,p,hz⟩:=I.list hq;obtain⟨u,hu,ru⟩:=rv.get hx;obtain⟨f0,f1,f2,f3,f4,f5⟩:=hf it (by simp)
  refine wpAny_pyNext_list_item st p.isList (x:=u) (by simpa using hu) fun h' st' sb=>?_
  have I1:Inv X pins σ H {s with heap:=h'}:=I.turned (t':=s.toks) (fun b o hb e=>(sb.2 b hb).trans e) f0 f1 f3 f4 f5;obtain⟨o,e,c,d⟩:=id st'
  exact⟨u,rfl,aHR (s:={s with heap:=h'}) e c d (by decide) ⟨x,H,I1,ru,⟨rfl,fun ys hy=>by rw[I.list_inj hy hq];exact hx⟩,st',fun b hb=>(hf b hb).1⟩⟩
 done:=by
  intro X hP hw hK hc i pins s σ H E I hf st hg;subst hP hw hK;obtain⟨xs,hq,hx⟩:=hg;obtain⟨its,rv,p,hz⟩:=I.list hq;obtain⟨f0,f1,f2,f3,f4,f5⟩:=hf it (by simp);have hl:=rv.length
  exact wpAny_pyNext_list_end (I.ok.hd hc) st p.isList (by simp;lia) fun h' eb=>⟨rfl,I.turned (t':=s.toks) (fun b o hb e=>eb b o hb e) f0 f1 f3 f4 f5⟩
 self:=fun _ _ _ _ _ st h=>wpAny_pyIter_listiter st h
theorem aDU(it:Addr)(lo:Int)(n:Nat):Turn P w K tg (Itr lo n) [it] it (fun i h=>IsRangeIter h it (lo+(i:Nat)*1) ((n:Int) - (i:Nat)) 1) where
 mem:=by simp
 obj:=fun i h st b hb=>by
  have e:b=it:=by simpa using hb
  subst e
  exact⟨_,st,fun v z=>by
   have z':Data.fields _=Data.cell v:=z;cases z'⟩
 keep:=fun i h h' st k=>k it (by simp) _ st
 item:=by
  intro X hP hw hK hc i pins s σ H E I hf st hg;subst hP hw hK;obtain⟨f0,f1,f2,f3,f4,f5⟩:=hf it (by simp);have W:=Walks.range (prog:=X.prog) (w:=X.w) (I.ok.hd hc) it lo 1 n
  refine W.item i s _ _ hg st fun v h' tk hv st' kk=>?_
  obtain⟨t,rfl⟩:=hv;have I1:Inv X pins σ H {s with heap:=h',toks:=tk}:=I.turned (fun b o hb e=>kk b o (by simpa using hb) e) f0 f1 f3 f4 f5
  refine⟨_,rfl,aHR (s:={s with heap:=h',toks:=tk}) (n:="range_iterator") st' rfl rfl (by decide) ⟨.int (lo+i),H,I1,⟨t,?_⟩,⟨rfl,rfl⟩,st',fun b hb=>(hf b hb).1⟩⟩
  rw[aP9]
 done:=by
  intro X hP hw hK hc i pins s σ H E I hf st hg;subst hP hw hK;obtain⟨f0,f1,f2,f3,f4,f5⟩:=hf it (by simp)
  exact wpAny_pyNext_range_end (I.ok.hd hc) st (by have:n<=i:=hg;lia) fun h' eb=>⟨rfl,I.turned (t':=s.toks) (fun b o hb e=>eb b o hb e) f0 f1 f3 f4 f5⟩
 self:=fun _ _ _ _ _ st h=>wpAny_pyIter_rangeiter st h
section
variable {X:Cx}{tg:Expr}
variable{pins:List (Addr×Obj)}{σ:St}{ta:TA}{pos:Pos}{fp:List Addr}{h:Heap}
def aGq(K:aO)(tl:TE):TI:=fun σ H R=>tl σ H fun x H1=>∃a,x=.ref a/\(∃xs,SqL K H1 a xs)/\R (Itl K a) H1
theorem aAM{l:Expr}{tl:TE}(hl:PE X l tl):PI X tg l (aGq X.K tl):=by
 intro pins s σ H R I h
 refine thn (hl pins s σ H _ I h) fun v s1 zz=>?_
 obtain⟨x,H1,I1,r1,q1⟩:=zz;obtain⟨a,e,⟨xs,hq⟩,q⟩:=q1;subst e;cases r1;obtain⟨its,rv,p,hz⟩:=I1.list hq
 refine wpAny_pyIter_list p.isList ?_
 refine⟨s1.heap.objs.size,[s1.heap.objs.size],_,_,H1,rfl,I1.kept (t':=s1.toks) fun b o e=>Heap.get?_push_of_some _ e,aFU a _,⟨_,Heap.get?_push_size _ rfl,rfl,rfl⟩,fun b hb=>?_,q⟩
 have e:b=s1.heap.objs.size:=by simpa using hb
 subst e
 exact I1.fpOk (bI _) (I1.hok.fresh (bI _))
theorem aBP{H:Hp}{s:Shared}{R:It->Hp->Prop}{E:Value->Shared->Prop}{lo hi:Int}{t u v:Tok}{tk:Nat}(I:Inv X pins σ H s)(h1: -(2^62)<=lo)(h2:lo<2^62)(h3: -(2^62)<=hi)(h4:hi<2^62)
 (q:R (Itr lo (hi - lo).toNat) H):wpAny (model X.prog X.w) X.A (pyIter (.ref s.heap.objs.size)) (PIE X pins σ tg R) E {s with heap:=s.heap.push {cls:=.type "range",data:=.fields #[.int lo t,.int hi u,.int 1 v]},toks:=tk}:=by
 refine wpAny_pyIter_range (IsRange.new ..) (small_one h1 h2 h3 h4) ?_
 have I1:Inv X pins σ H {s with heap:=s.heap.push {cls:=.type "range",data:=.fields #[.int lo t,.int hi u,.int 1 v]},toks:=tk}:=I.kept fun b o e=>Heap.get?_push_of_some _ e
 refine⟨(s.heap.push {cls:=.type "range",data:=.fields #[.int lo t,.int hi u,.int 1 v]}).objs.size,[(s.heap.push {cls:=.type "range",data:=.fields #[.int lo t,.int hi u,.int 1 v]}).objs.size],_,_,H,rfl,
  I1.kept (t':=tk) fun b o e=>Heap.get?_push_of_some _ e,aDU _ lo (hi - lo).toNat,?_,fun b hb=>?_,q⟩
 ·have e1:lo+((0:Nat):Int)*1=lo:=by simp
  have e2:(((hi - lo).toNat:Nat):Int) - ((0:Nat):Int)=Builtin.Range.rangeSize lo hi 1:=by rw[rangeSize_one];split<;>lia
  show IsRangeIter _ _ (lo+((0:Nat):Int)*1) ((((hi - lo).toNat:Nat):Int) - ((0:Nat):Int)) 1;rw[e1,e2]
  exact Heap.get?_push_size _ rfl
 ·have e:b=(s.heap.push {cls:=.type "range",data:=.fields #[.int lo t,.int hi u,.int 1 v]}).objs.size:=by simpa using hb
  subst e
  exact I1.fpOk (bI _) (I1.hok.fresh (bI _))
def aHG(ta:TA):TI:=fun σ H R=>ta σ H fun vs H1=>∃j:Int,vs=[.int j]/\ -(2^62)<=j/\j<2^62/\R (Itr 0 j.toNat) H1
def iRng2(ta:TA):TI:=fun σ H R=>ta σ H fun vs H1=>∃i j:Int,vs=[.int i,.int j]/\(-(2^62)<=i/\i<2^62/\ -(2^62)<=j/\j<2^62)/\R (Itr i (j - i).toNat) H1
theorem qO{a:Expr}{p:Pos}(hg:Gl X "range")(hm:X.mg "range"=none)(ha:PA X [a] ta)(hs:starEach [a] X.env=[(false,eval a X.env)]:=by rfl):PI X tg (.Call (.Name "range" p) [a] [] pos) (aHG ta):=by
 intro pins s σ H R I h
 refine Call_ (qH I hg hm boot_range (c9 (thn (ha pos pins s σ H _ I h) fun us s1 ⟨vs,H1,I1,r1,q1⟩=>?_) hs rfl))
 obtain⟨j,e,q1,q2,q⟩:=q1;subst e;cases r1 with
 |cons r rr=>
  cases rr;obtain⟨t,rfl⟩:=r
  exact call_range_1 (aBP I1 (by lia) (by lia) q1 q2 (by simpa using q))
theorem aF5{a b:Expr}{p:Pos}(hg:Gl X "range")(hm:X.mg "range"=none)(ha:PA X [a,b] ta)(hs:starEach [a,b] X.env=[(false,eval a X.env),(false,eval b X.env)]:=by rfl)(hs2:starEach [b] X.env=[(false,eval b X.env)]:=by rfl):
 PI X tg (.Call (.Name "range" p) [a,b] [] pos) (iRng2 ta):=by
 intro pins s σ H R I h
 refine Call_ (qH I hg hm boot_range (c9 (thn (ha pos pins s σ H _ I h) fun us s1 ⟨vs,H1,I1,r1,q1⟩=>?_) (by rw[hs,hs2]) (by rw[hs2];rfl)))
 obtain⟨i,j,e,⟨q1,q2,q3,q4⟩,q⟩:=q1;subst e;cases r1 with
 |cons r rr=>
  cases rr with
  |cons r' rr=>
   cases rr;obtain⟨t,rfl⟩:=r;obtain⟨t',rfl⟩:=r'
   exact call_range_2 (aBP I1 q1 q2 q3 q4 q)
def aIM(wi:TI)(g:TG)(tb:TS):TS:=fun D σ H=>wi σ H fun J H1=>∃W:Nat->Nat->St->Hp->Prop,(∃m,W 0 m σ H1)/\∀i m σ H,W i m σ H->
 (J.stop i H/\D.nx σ H)\/(J.go i H/\∃N:St->Hp->Prop,(∀σ' H',N σ' H'->∃m',m'<m/\W (i+1) m' σ' H')/\∀x H',J.yld i H x H'->g x σ H' fun σ2 H2=>tb {D with nx:=N,ct:=N,bk:=D.nx} σ2 H2)
noncomputable def xX(fp:List Addr)(h:Heap):List (Addr×Obj):=fp.filterMap fun b=>(h.get? b).map fun o=>(b,o)
theorem o5{b:Addr}{o:Obj}(hb:b∈fp)(e:h.get? b=some o):(b,o)∈xX fp h:=aPv.mpr ⟨b,hb,by rw[e];rfl⟩
theorem aFZ{p:Addr×Obj}(hp:p∈xX fp h):p.1∈fp/\h.get? p.1=some p.2:=by
 obtain⟨b,hb,e⟩:=aPv.mp hp;cases q:h.get? b with
 |none=>rw[q]at e;cases e
 |some o=>
  rw[q]at e;have e':(b,o)=p:=cN.inj e;subst e'
  exact⟨hb,q⟩
theorem Inv.pinned{H:Hp}{s:Shared}(I:Inv X pins σ H s)(hf:∀b∈fp,uL X pins H b)(ho:∀b∈fp,∃o,s.heap.get? b=some o/\∀v,o.data≠ .cell v):Inv X (pins++xX fp s.heap) σ H s:=
 I.pins_of fun p hp=>(bM.mp hp).elim (fun z=>I.pin p (cI _ z)) fun z=>by
  obtain⟨hb,e⟩:=aFZ z;obtain⟨f0,f1,f2,_⟩:=hf p.1 hb;obtain⟨o,e',d⟩:=ho p.1 hb;rw[e]at e';cases e'
  exact⟨e,f0,f1,f2,d⟩
theorem Inv.unpinned{pl:List (Addr×Obj)}{H:Hp}{s:Shared}(I:Inv X (pins++pl) σ H s):Inv X pins σ H s:=I.pins_of fun p hp=>I.pin p (cI _ (aOC _ hp))
theorem aAQ{iter:Expr}{body:List Stmt}{wi:TI}{g:TG}{tb:TS}(hp:PassesOwn (model X.prog X.w) X.A X.env X.xe)(hc:X.calm=true)(hi:PI X tg iter wi)(hg:PG X tg g)(hb:PSs X body tb)
 (hs:∀x,foldedSetIterable iter X.env x=pure x:=by intro _;rfl):PS X (.For tg iter body [] pos) (aIM wi g tb):=by
 intro pins s σ H D I h
 refine wpAny_For (thn (hi pins s σ H _ I h) fun v s1 h1=>thn h1 fun itv s2 h2=>?_) hs
 obtain⟨it,fp,tn,J,H2,e,I2,T,st2,f2,W,⟨m0,w0⟩,turn⟩:=h2;subst e;have stat:∀{H':Hp},(∀b∈fp,H' b=none)->∀b∈fp,uL X pins H' b:=fun hn b hb=>⟨hn b hb,(f2 b hb).2⟩
 refine codeAny_forLoop_any (fun n s'=>∃i σ' H',Inv X pins σ' H' s'/\tn i s'.heap/\(∀b∈fp,H' b=none)/\W i n σ' H') ?_ m0 ⟨0,σ,H2,I2,st2,fun b hb=>(f2 b hb).1,w0⟩
 rintro n s3 ⟨i,σ3,H3,I3,st3,fr3,w3⟩;rcases turn i n σ3 H3 w3 with⟨stop,qn⟩| ⟨go,N,hN,step⟩
 ·refine wpAny_passesOwn hp (thn (T.done X rfl rfl rfl hc i pins s3 σ3 H3 X.xe I3 (stat fr3) st3 stop) fun r s4 ⟨hr,I4⟩=>?_)
  subst hr
  exact wpAny_execs_nil ⟨σ3,H3,I4,qn⟩
 ·refine wpAny_passesOwn hp (thn (T.item X rfl rfl rfl hc i pins s3 σ3 H3 X.xe I3 (stat fr3) st3 go) fun r s4 ⟨u,hr,h4⟩=>?_)
  subst hr
  refine wpAny_passesOwn hp (thn h4 fun _ s5 zz=>?_)
  obtain⟨x,H5,I5,r5,y5,st5,fr5⟩:=zz;have I5':=I5.pinned (stat fr5) (T.obj _ _ st5)
  refine wpAny_passesOwn hp (thn (hg _ s5 σ3 H5 x u _ I5' r5 (step x H5 y5)) fun _ s6 zz=>?_)
  obtain⟨σ6,H6,I6,q6⟩:=zz
  refine wpAny_passesOwn hp (thn (hb _ s6 σ6 H6 _ I6 q6) fun f s7 q7=>?_)
  have again:∀{σ7:St}{H7:Hp},Inv X (pins++xX fp s5.heap) σ7 H7 s7->N σ7 H7->∃m,m<n/\∃i σ' H',Inv X pins σ' H' s7/\tn i s7.heap/\(∀b∈fp,H' b=none)/\W i m σ' H':=fun {σ7 H7} I7 n7=>by
   obtain⟨m',hm,w7⟩:=hN σ7 H7 n7
   refine⟨m',hm,i+1,σ7,H7,I7.unpinned,T.keep _ _ _ st5 fun b hb o e=>(I7.pin (b,o) (cI _ (cI _ (o5 hb e)))).1,fun b hb=>?_,w7⟩
   obtain⟨o,e,d⟩:=T.obj _ _ st5 b hb
   exact(I7.pin (b,o) (cI _ (cI _ (o5 hb e)))).2.1
  cases f with
  |next=>obtain⟨σ7,H7,I7,n7⟩:=q7;exact again I7 n7
  |cont=>obtain⟨σ7,H7,I7,n7⟩:=q7;exact again I7 n7
  |brk=>obtain⟨σ7,H7,I7,q7⟩:=q7;exact⟨σ7,H7,I7.unpinned,q7⟩
  |ret v=>obtain⟨x7,σ7,H7,I7,r7,q7⟩:=q7;exact⟨x7,σ7,H7,I7.unpinned,r7,q7⟩
end
abbrev R2:=V->V->Hp->VK->Prop
def OpR(X:Cx)(f:Value->Value->Sem Value)(r:R2):Prop:=
 ∀(pins:List (Addr×Obj))(s:Shared)(σ:St)(H:Hp)(x y:V)(v u:Value)(Q:VK),Inv X pins σ H s->RelV x v->RelV y u->r x y H Q->
  wpAny (model X.prog X.w) X.A (f v u) (EP X pins σ Q) X.xe s
def UnR(X:Cx)(f:Value->Sem Value)(r:V->Hp->VK->Prop):Prop:=
 ∀(pins:List (Addr×Obj))(s:Shared)(σ:St)(H:Hp)(x:V)(v:Value)(Q:VK),Inv X pins σ H s->RelV x v->r x H Q->
  wpAny (model X.prog X.w) X.A (f v) (EP X pins σ Q) X.xe s
def nC(X:Cx)(f:Value)(r:List V->Hp->VK->Prop):Prop:=
 ∀(pins:List (Addr×Obj))(s:Shared)(σ:St)(H:Hp)(xs:List V)(us:List Value)(Q:VK),Inv X pins σ H s->Vals xs us->r xs H Q->
  wpAny (model X.prog X.w) X.A (call f us) (EP X pins σ Q) X.xe s
def TruR(X:Cx)(r:V->Hp->(Bool->Hp->Prop)->Prop):Prop:=
 ∀(pins:List (Addr×Obj))(s:Shared)(σ:St)(H:Hp)(x:V)(v:Value)(Q:Bool->Hp->Prop),Inv X pins σ H s->RelV x v->r x H Q->
  wpAny (model X.prog X.w) X.A (truthy v) (TP X pins σ Q) X.xe s
noncomputable def tOp(r:R2)(ta tb:TE):TE:=fun σ H Q=>ta σ H fun x H1=>tb σ H1 fun y H2=>r x y H2 Q
noncomputable def tUn(r:V->Hp->VK->Prop)(ta:TE):TE:=fun σ H Q=>ta σ H fun x H1=>r x H1 Q
noncomputable def rI(C:Int->Int->Prop)(g:Int->Int->V):R2:=fun x y H Q=>∃i j,x=.int i/\y=.int j/\C i j/\Q (g i j) H
noncomputable def rI0(g:Int->Int->V):R2:=fun x y H Q=>∃i j,x=.int i/\y=.int j/\Q (g i j) H
def rU(g:Int->V):V->Hp->VK->Prop:=fun x H Q=>∃i,x=.int i/\Q (g i) H
section
variable {X:Cx}{a b c:Expr}{ta tb tc:TE}{pos:Pos}
variable{f:Value->Value->Sem Value}{g:Int->Int->Int}
theorem aLV(ha:PE X a ta)(hb:PE X b tb){pins:List (Addr×Obj)}{s:Shared}{σ:St}{H:Hp}{R:V->V->Hp->Prop}(I:Inv X pins σ H s)
 (h:ta σ H fun x H1=>tb σ H1 fun y H2=>R x y H2){Q:Value->Shared->Prop}
 (hf:∀v u s2 x y H2,Inv X pins σ H2 s2->RelV x v->RelV y u->R x y H2->wpAny (model X.prog X.w) X.A (f v u) Q X.xe s2):
 wpAny (model X.prog X.w) X.A (eval a X.env) (fun v s₁=>wpAny (model X.prog X.w) X.A (eval b X.env) (fun u s₂=>wpAny (model X.prog X.w) X.A (f v u) Q X.xe s₂) X.xe s₁) X.xe s:=by
 refine thn (ha pins s σ H _ I h) fun v s1 zz=>?_
 obtain⟨x,H1,I1,r1,q1⟩:=zz
 refine thn (hb pins s1 σ H1 _ I1 q1) fun u s2 zz=>?_
 obtain⟨y,H2,I2,r2,q2⟩:=zz
 exact hf v u s2 x y H2 I2 r1 r2 q2
theorem u3{op:Operator}{r:R2}(ho:OpR X (binaryOp op) r)(ha:PE X a ta)(hb:PE X b tb):PE X (.BinOp a op b pos) (tOp r ta tb):=by
 intro pins s σ H Q I h
 exact wpAny_BinOp (aLV ha hb I h fun v u s2 x y H2 I2 rx ry q=>ho pins s2 σ H2 x y v u Q I2 rx ry q)
theorem aNw{op:UnaryOp}{r:V->Hp->VK->Prop}(ho:UnR X (unaryOp op) r)(ha:PE X a ta):PE X (.UnaryOp op a pos) (tUn r ta):=by
 intro pins s σ H Q I h
 exact UnaryOp_ (thn (ha pins s σ H _ I h) fun v s1 ⟨x,H1,I1,r1,q1⟩=>ho pins s1 σ H1 x v Q I1 r1 q1)
theorem opI{C:Int->Int->Prop}
 (rule:∀(i j:Int)(t u:Tok)(s:Shared)(Q:Value->Shared->Prop)(E:Value->Shared->Prop),C i j->Q (.int (g i j) s.toks) {s with toks:=s.toks+1}->wpAny (model X.prog X.w) X.A (f (.int i t) (.int j u)) Q E s):
 OpR X f (rI C fun i j=>.int (g i j)):=by
 intro pins s σ H x y v u Q I rx ry h;obtain⟨i,j,rfl,rfl,hc,q⟩:=h;obtain⟨t,rfl⟩:=rx;obtain⟨t',rfl⟩:=ry
 exact rule i j t t' s _ _ hc ⟨.int (g i j),H,I.tok _,⟨_,rfl⟩,q⟩
theorem opI0
 (rule:∀(i j:Int)(t u:Tok)(s:Shared)(Q:Value->Shared->Prop)(E:Value->Shared->Prop),Q (.int (g i j) s.toks) {s with toks:=s.toks+1}->wpAny (model X.prog X.w) X.A (f (.int i t) (.int j u)) Q E s):
 OpR X f (rI0 fun i j=>.int (g i j)):=by
 intro pins s σ H x y v u Q I rx ry h;obtain⟨i,j,rfl,rfl,q⟩:=h;obtain⟨t,rfl⟩:=rx;obtain⟨t',rfl⟩:=ry
 exact rule i j t t' s _ _ ⟨.int (g i j),H,I.tok _,⟨_,rfl⟩,q⟩
theorem aJP{g:Int->Int->Bool}
 (rule:∀(i j:Int)(t u:Tok)(s:Shared)(Q:Value->Shared->Prop)(E:Value->Shared->Prop),Q (.bool (g i j)) s->wpAny (model X.prog X.w) X.A (f (.int i t) (.int j u)) Q E s):
 OpR X f (rI0 fun i j=>.bl (g i j)):=by
 intro pins s σ H x y v u Q I rx ry h;obtain⟨i,j,rfl,rfl,q⟩:=h;obtain⟨t,rfl⟩:=rx;obtain⟨t',rfl⟩:=ry
 exact rule i j t t' s _ _ ⟨.bl (g i j),H,I,rfl,q⟩
def CDiv(i j:Int):Prop:=0<j/\j<1073741824
def CPow(i j:Int):Prop:=0<=j/\j<=1000000/\i.natAbs<2^64
theorem aMm:OpR X (binaryOp .Add) (rI0 fun i j=>.int (i+j)):=opI0 fun _ _ _ _ _ _ _ q=>add_int q
theorem aNl:OpR X (binaryOp .Sub) (rI0 fun i j=>.int (i - j)):=opI0 fun _ _ _ _ _ _ _ q=>sub_int q
theorem aKD:OpR X (binaryOp .FloorDiv) (rI CDiv fun i j=>.int (i/j)):=opI fun i j _ _ _ _ _ hc q=>by
 have h1:(0:Int)<j:=hc.1;have h2:j<1073741824:=hc.2
 exact floordiv_int (by lia) (by rw[aOO i (by lia)];exact q) (.inl (PyProof.noPylong_small (by lia)))
theorem aMa:OpR X (binaryOp .Mod) (rI (fun _ j=>0<j) fun i j=>.int (i%j)):=opI fun i j _ _ _ _ _ hc q=>by
 have h1:(0:Int)<j:=hc
 exact mod_int' (by lia) (by rw[Int.fmod_eq_emod_of_nonneg i (by lia)];exact q)
theorem aL6:OpR X (binaryOp .Pow) (rI CPow fun i j=>.int (i^j.toNat)):=opI fun _ _ _ _ _ _ _ hc q=>pow_int_small hc.1 hc.2.1 hc.2.2 q
theorem unI{f:Value->Sem Value}{g:Int->Int}
 (rule:∀(i:Int)(t:Tok)(s:Shared)(Q:Value->Shared->Prop)(E:Value->Shared->Prop),Q (.int (g i) s.toks) {s with toks:=s.toks+1}->wpAny (model X.prog X.w) X.A (f (.int i t)) Q E s):
 UnR X f (rU fun i=>.int (g i)):=by
 intro pins s σ H x v Q I rx h;obtain⟨i,rfl,q⟩:=h;obtain⟨t,rfl⟩:=rx
 exact rule i t s _ _ ⟨.int (g i),H,I.tok _,⟨_,rfl⟩,q⟩
theorem aM2:UnR X (unaryOp .USub) (rU fun i=>.int (-i)):=unI fun _ _ _ _ _ q=>neg_int q
end
noncomputable def scal:V->V->Bool
 | .non,.non=>true| .non,.int _=>true| .int _,.non=>true| .non,.bl _=>true| .bl _,.non=>true| .non,.str _=>true| .str _,.non=>true
 | .int _,.int _=>true| .bl _,.bl _=>true| .str _,.str _=>true| .byt _,.byt _=>true
 | .int _,.str _=>true| .str _,.int _=>true| .bl _,.str _=>true| .str _,.bl _=>true
 |_,_=>false
def rNe:R2:=fun x y H Q=>scal x y=true/\Q (.bl (!decide (x=y))) H
theorem aEe{i j:Int}:decide (V.int i=V.int j)=(i==j):=by
 rw[eJ];simp
theorem aIy{i j:Bool}:decide (V.bl i=V.bl j)=(i==j):=by
 rw[eJ];simp
theorem aD3{i j:Str}:decide (V.str i=V.str j)=(i==j):=by
 rw[eJ];simp
theorem aIU{i j:Array UInt8}:decide (V.byt i=V.byt j)=(i.toList==j.toList):=by
 rw[eJ];cases i;cases j;simp
section
variable {X:Cx}{a b c:Expr}{ta tb tc:TE}{pos:Pos}
variable{op:CmpOp}{r:R2}{us:List Value}
theorem kX{pins:List (Addr×Obj)}{σ:St}{H:Hp}{s:Shared}{Q:VK}{k k':Bool}(I:Inv X pins σ H s)(q:Q (.bl k) H)(e:k=k'):EP X pins σ Q (.bool k') s:=by
 subst e
 exact⟨.bl k,H,I,rfl,q⟩
theorem aHA:OpR X (compareOp .NotEq) rNe:=by
 intro pins s σ H x y v u Q I rx ry h;obtain⟨hs,q⟩:=h;cases x with
 |non=>
  cases rx;cases y with
  |non=>cases ry;exact PySem.EqNone.ne_none_none (kX I q (by simp))
  |bl j=>cases ry;exact PySem.EqNone.ne_none_bool (kX I q (by simp))
  |int j=>obtain⟨t',rfl⟩:=ry;exact PySem.EqNone.ne_none_int (kX I q (by simp))
  |str j=>obtain⟨t',rfl⟩:=ry;exact PySem.EqNone.ne_none_str (kX I q (by simp))
  |_=>exact absurd (show false=true from hs) bY
 |bl i=>
  cases rx;cases y with
  |non=>cases ry;exact PySem.EqNone.ne_bool_none (kX I q (by simp))
  |bl j=>cases ry;exact ne_bool (kX I q (congrArg not aIy))
  |str j=>obtain⟨t',rfl⟩:=ry;exact PySem.EqMixed.ne_bool_str (kX I q (by simp))
  |_=>exact absurd (show false=true from hs) bY
 |int i=>
  obtain⟨t,rfl⟩:=rx;cases y with
  |non=>cases ry;exact PySem.EqNone.ne_int_none (kX I q (by simp))
  |int j=>obtain⟨t',rfl⟩:=ry;exact ne_int (kX I q (congrArg not aEe))
  |str j=>obtain⟨t',rfl⟩:=ry;exact PySem.EqMixed.ne_int_str (kX I q (by simp))
  |_=>exact absurd (show false=true from hs) bY
 |str i=>
  obtain⟨t,rfl⟩:=rx;cases y with
  |non=>cases ry;exact PySem.EqNone.ne_str_none (kX I q (by simp))
  |bl j=>cases ry;exact PySem.EqMixed.ne_str_bool (kX I q (by simp))
  |int j=>obtain⟨t',rfl⟩:=ry;exact PySem.EqMixed.ne_str_int (kX I q (by simp))
  |str j=>obtain⟨t',rfl⟩:=ry;exact ne_str (kX I q (congrArg not aD3))
  |_=>exact absurd (show false=true from hs) bY
 |byt i=>
  obtain⟨t,rfl⟩:=rx;cases y with
  |byt j=>obtain⟨t',rfl⟩:=ry;exact PySem.W.ne_bytes (kX I q (congrArg not aIU))
  |_=>exact absurd (show false=true from hs) bY
 |_=>cases y<;>exact absurd (show false=true from hs) bY
theorem aHC:OpR X (compareOp .Lt) (rI0 fun i j=>.bl (decide (i<j))):=aJP fun _ _ _ _ _ _ _ q=>lt_int q
theorem aNQ:OpR X (compareOp .LtE) (rI0 fun i j=>.bl (decide (i<=j))):=aJP fun _ _ _ _ _ _ _ q=>le_int q
theorem aKZ:OpR X (compareOp .Gt) (rI0 fun i j=>.bl (decide (j<i))):=aJP fun _ _ _ _ _ _ _ q=>gt_int q
theorem aLd:OpR X (compareOp .GtE) (rI0 fun i j=>.bl (decide (j<=i))):=aJP fun _ _ _ _ _ _ _ q=>ge_int q
theorem aNc:OpR X (compareOp .Is) (fun x y H Q=>y=.non/\Q (.bl (decide (x=.non))) H):=by
 intro pins s σ H x y v u Q I rx ry h;obtain⟨rfl,q⟩:=h;cases ry
 refine is_none_gen (kX I q ?_)
 cases x<;>first
  | (cases rx;rfl)
  | (obtain⟨t,rfl⟩:=rx;rfl)
theorem nomark(b:Expr)(h:op≠ .In:=by decide)(h2:op≠ .NotIn:=by decide):behindInMarks op b=false:=by
 have e1:(op==CmpOp.In)=false:=by cases op<;>first|rfl|exact absurd rfl h
 have e2:(op==CmpOp.NotIn)=false:=by cases op<;>first|rfl|exact absurd rfl h2
 cases b<;>simp[behindInMarks,e1,e2]
theorem aKX(ho:OpR X (compareOp op) r)(ha:PE X a ta)(hb:PE X b tb)(hm:behindInMarks op b=false):PE X (.Compare a [op] [b] pos) (tOp r ta tb):=by
 intro pins s σ H Q I h
 exact wpAny_Compare1 (aLV ha hb I h fun v u s2 x y H2 I2 rx ry q=>ho pins s2 σ H2 x y v u Q I2 rx ry q) hm
noncomputable def tTest(t:TE):TT:=fun σ H Q=>t σ H fun x H'=>∃k,x=.bl k/\Q k H'
theorem aI5(ho:OpR X (compareOp op) r)(ha:PE X a ta)(hb:PE X b tb)(hm:behindInMarks op b=false):PT X (.Compare a [op] [b] pos) (tTest (tOp r ta tb)):=by
 intro pins s σ H Q I h
 refine wpAny_isTrue_Compare1 (thn (ha pins s σ H _ I h) fun v s1 ⟨x,H1,I1,r1,q1⟩=>thn (hb pins s1 σ H1 _ I1 q1) fun u s2 ⟨y,H2,I2,r2,q2⟩=>
  thn (ho pins s2 σ H2 x y v u _ I2 r1 r2 q2) fun c s3 ⟨z,H3,I3,r3,k,e,q3⟩=>?_) hm
 subst e;cases r3
 exact wpAny_truthy_bool ⟨H3,I3,q3⟩
noncomputable def tChain(r r':R2)(ta tb tc:TE):TE:=fun σ H Q=>ta σ H fun x H1=>tb σ H1 fun y H2=>r x y H2 fun z H3=>∃k,z=.bl k/\
 (if k=true then tc σ H3 fun w' H4=>r' y w' H4 Q else Q (.bl false) H3)
theorem aH7{op':CmpOp}{r':R2}(ho:OpR X (compareOp op) r)(ho':OpR X (compareOp op') r')(ha:PE X a ta)(hb:PE X b tb)(hc:PE X c tc)
 (hm:lastMarks [op,op'] [b,c]=false:=by with_unfolding_all rfl):PE X (.Compare a [op,op'] [b,c] pos) (tChain r r' ta tb tc):=by
 intro pins s σ H Q I h
 refine Compare_chain (thn (ha pins s σ H _ I h) fun v s1 ⟨x,H1,I1,r1,q1⟩=>chain_link (thn (hb pins s1 σ H1 _ I1 q1) fun u s2 ⟨y,H2,I2,r2,q2⟩=>
  thn (ho pins s2 σ H2 x y v u _ I2 r1 r2 q2) fun d s3 ⟨z,H3,I3,r3,k,e,q3⟩=>?_)) hm
 subst e;cases r3
 refine wpAny_truthy_bool ?_
 cases k with
 |false=>exact ite_ff ⟨.bl false,H3,I3,rfl,q3⟩
 |true=>exact ite_tt (chain_last (thn (hc pins s3 σ H3 _ I3 q3) fun w' s4 ⟨z',H4,I4,r4,q4⟩=>ho' pins s4 σ H4 y z' u w' Q I4 r2 r4 q4))
def aNn(K:aO)(x:V)(H:Hp)(k:Bool):Prop:=
 match x with
 | .non=>k=false
 | .bl b=>k=b
 | .int i=>k=(i !=0)
 | .str y=>y.length<=sizeLine/\k=((y.length:Int)!=0)
 | .byt y=>y.size<=sizeLine/\k=((y.size:Int)!=0)
 | .ref p=>(∃xs,SqL K H p xs/\k= !xs.isEmpty)\/(∃xs,SqT K H p xs/\k= !xs.isEmpty)\/∃kvs,H p=some (.dK kvs)/\k= !kvs.isEmpty
 |_=>False
theorem aDW{κ:Type}{kvs:List (κ×V)}{vs:List (κ×Value)}(r:KV kvs vs):(!vs.isEmpty)= !kvs.isEmpty:=by
 cases r<;>rfl
theorem yO{xs:List V}{its:List Value}(r:Vals xs its):(!its.toArray.isEmpty)= !xs.isEmpty:=by
 cases r<;>simp
theorem line63:(sizeLine:Nat)<2^63:=by rw[sizeLine_eq];decide
theorem aMR:TruR X (fun x H Q=>∃k,aNn X.K x H k/\Q k H):=by
 intro pins s σ H x v Q I rx h;obtain⟨k,e,q⟩:=h;have hl:=line63;have hs:sizeLine=16777216:=sizeLine_eq;cases x with
 |non=>
  cases rx;have e':k=false:=e;subst e'
  exact truthy_none ⟨H,I,q⟩
 |bl b=>
  cases rx;have e':k=b:=e;subst e'
  exact wpAny_truthy_bool ⟨H,I,q⟩
 |int i=>
  obtain⟨t,rfl⟩:=rx;have e':k=(i !=0):=e;subst e'
  exact PySem.P.truthy_int ⟨H,I,q⟩
 |str y=>
  obtain⟨t,rfl⟩:=rx;obtain⟨hy,e'⟩:y.length<=sizeLine/\k=((y.length:Int)!=0):=e;subst e'
  exact PySem.P.truthy_str (by lia) ⟨H,I.tok _,q⟩
 |byt y=>
  obtain⟨t,rfl⟩:=rx;obtain⟨hy,e'⟩:y.size<=sizeLine/\k=((y.size:Int)!=0):=e;subst e'
  exact PySem.W.truthy_bytes (by lia) ⟨H,I.tok _,q⟩
 |ref p=>
  cases rx;have e':(∃xs,SqL X.K H p xs/\k= !xs.isEmpty)\/(∃xs,SqT X.K H p xs/\k= !xs.isEmpty)\/∃kvs,H p=some (.dK kvs)/\k= !kvs.isEmpty:=e;rcases e' with⟨xs,hx,e'⟩| ⟨xs,hx,e'⟩| ⟨kvs,hx,e'⟩
  ·subst e';obtain⟨its,r,pl,hz⟩:=I.list hx;have hlen:=r.length
   exact wpAny_truthy_list pl.isList (by simp only[bG];lia) ⟨H,I.tok _,by rw[yO r];exact q⟩
  ·subst e';obtain⟨its,r,pl,hz⟩:=I.tuple hx;have hlen:=r.length
   exact truthy_tuple pl (by simp only[bG];lia) ⟨H,I.tok _,by rw[yO r];exact q⟩
  ·subst e';obtain⟨hz,hS,vs,r,m⟩:kvs.length<=sizeLine/\(p==sysModules)=false/\∃vs,KV kvs vs/\s.heap.DictOf (jA X.prog X.w) p vs:=I.hok p _ hx;have hlen:kvs.length=vs.length:=Paired.length r
   exact wpAny_truthy_dict hS m (by lia) ⟨H,I.tok _,by rw[aDW r];exact q⟩
 |_=>exact(show False from e).elim
theorem aG0(ha:PE X a ta)(he:∀whole,isTrue a X.env whole=(do let v<-whole;standAt a.pos;holding [v] (truthy v))):
 PT X a (fun σ H Q=>ta σ H fun x H'=>∃k,aNn X.K x H' k/\Q k H'):=by
 intro pins s σ H Q I h
 exact isTrue_plain (thn (ha pins s σ H _ I h) fun v s1 ⟨x,H1,I1,r1,q1⟩=>aMR pins s1 σ H1 x v Q I1 r1 q1) (he _)
theorem vals1{x:V}(r:Vals [x] us):∃u,us=[u]/\RelV x u:=by
 cases r with
 |cons r1 r2=>cases r2;exact⟨_,rfl,r1⟩
theorem vals2{x y:V}(r:Vals [x,y] us):∃u w',us=[u,w']/\RelV x u/\RelV y w':=by
 cases r with
 |cons r1 r2=>
  cases r2 with
  |cons r3 r4=>cases r4;exact⟨_,_,rfl,r1,r3⟩
theorem aE5(hc:X.calm=true):nC X (.builtin "max") (fun xs H Q=>∃i j,xs=[.int i,.int j]/\Q (.int (if j>i then j else i)) H):=by
 intro pins s σ H xs us Q I r h;obtain⟨i,j,rfl,q⟩:=h;obtain⟨u,w',rfl,⟨t,rfl⟩,⟨t',rfl⟩⟩:=vals2 r
 refine max_two_ints (I.ok.hd hc) fun h' tk k=>⟨_,H,I.kept k,?_,q⟩
 by_cases hj:j>i
 ·rw[if_pos hj,if_pos hj];exact⟨_,rfl⟩
 ·rw[if_neg hj,if_neg hj];exact⟨_,rfl⟩
theorem aE8(hc:X.calm=true):nC X (.builtin "min") (fun xs H Q=>∃i j,xs=[.int i,.int j]/\Q (.int (if j<i then j else i)) H):=by
 intro pins s σ H xs us Q I r h;obtain⟨i,j,rfl,q⟩:=h;obtain⟨u,w',rfl,⟨t,rfl⟩,⟨t',rfl⟩⟩:=vals2 r
 refine min_two_ints (I.ok.hd hc) fun h' tk k=>⟨_,H,I.kept k,?_,q⟩
 by_cases hj:j<i
 ·rw[if_pos hj,if_pos hj];exact⟨_,rfl⟩
 ·rw[if_neg hj,if_neg hj];exact⟨_,rfl⟩
theorem aFJ:nC X (.type "int") (fun xs H Q=>(∃i,xs=[.int i]/\Q (.int i) H)\/∃k,xs=[.bl k]/\Q (.int (if k then 1 else 0)) H):=by
 intro pins s σ H xs us Q I r h;rcases h with⟨i,rfl,q⟩| ⟨k,rfl,q⟩
 ·obtain⟨u,rfl,t,rfl⟩:=vals1 r
  exact call_int_int ⟨.int i,H,I,⟨_,rfl⟩,q⟩
 ·obtain⟨u,rfl,r1⟩:=vals1 r;cases r1
  exact call_int_bool ⟨.int (if k then 1 else 0),H,I.tok _,⟨_,rfl⟩,q⟩
end
variable{h:Heap}{dx:Addr}{mA:Str->Option Value}
structure aDh(h:Heap)(x dx C:Addr)(mA:Str->Option Value):Prop where
 obj:h.get? x=some (dM C dx)
 ns:h.Ns1 dx mA
 ne:dx≠x
theorem aFk(n:h.Ns1 dx mA):∃od,h.get? dx=some od/\∀name,aOP name od=some (mA name):=by
 obtain⟨o,es,ep,ho,hd,hk,_,hm⟩:=n
 refine⟨o,ho,fun name=>?_⟩
 have e:=hm name;unfold nsFind findBy at e;rw[<-Array.find?_toList]at e;unfold aOP;rw[hd];dsimp only;split
 ·rename_i y q;rw[q]at e
  exact congrArg some e
 ·rename_i q;rw[q]at e;have a:es.toList.any (·.refKey)=false:=by
   rw[List.any_eq_false];intro y hy;obtain⟨z,t,hkey⟩:=hk y (Array.mem_toList_iff.mp hy);simp[DictEntry.refKey,hkey]
  have a':¬es.toList.any (·.refKey)=true:=by rw[a];exact bY
  rw[if_neg a']
  exact congrArg some e
theorem aDh.look{x C:Addr}(I:aDh h x dx C mA):∃od,PySem.W.InstAt h x (dM C dx) C (some od)/\∀name,aOP name od=some (mA name):=
 let ⟨od,ho,hl⟩:=aFk I.ns
 ⟨od,⟨I.obj,rfl,rfl,ho⟩,hl⟩
section
variable {prog:Program}{w:World}{A:Around}{E:Value->Shared->Prop}{s:Shared}{K:aO}{x dx C f:Addr}{mA:Str->Option Value}{name:Str}{v:Value}
theorem aI6{expr:Bool}{Q:Value->Shared->Prop}(X:K.In s.heap)(I:aDh s.heap x dx C mA)(hg:aOy K C name=true)(hh:aOV K C=true)
 (ha:bQ K (.ref C) name=some none)(hv:mA name=some v)(hv':aPG v=true)(h:Q v {s with toks:=s.toks+1}):
 wpAny (model prog w) A (getAttr (.ref x) name expr) Q E s:=by
 obtain⟨od,J,hl⟩:=I.look
 exact PySem.W.get_value X J (aOK hg).1 (PySem.W.findObj_own hh ha rfl (by rw[hl,hv])) hv' h
theorem aHW{pl:Sem Bool}{Q:Value×List Value->Shared->Prop}(X:K.In s.heap)(I:aDh s.heap x dx C mA)(hg:aOy K C name=true)
 (hf:bQ K (.ref C) name=some (some (.ref f)))(ht:aOs K (.ref f)=true)(hv:mA name=none)(h:Q (.ref f,[.ref x]) s):
 wpAny (model prog w) A (getMethod (.ref x) name pl) Q E s:=by
 obtain⟨od,J,hl⟩:=I.look
 exact PySem.W.method_fn X J (aOK hg).1 (aOK hg).2 hf (beq_iff_eq.mp ht) (by show(aOP name od).map (·.isSome)=some false;rw[hl,hv];rfl) h
theorem aJz{ns:List Str}{Q:Unit->Shared->Prop}(X:K.In s.heap)(I:aDh s.heap x dx C mA)
 (hs:bQ K (.ref C) "__setattr__"=some (some (.builtin "object.__setattr__")))(hp:aPC K C=true)(ht:aPb K C name=some none)(hh:aOV K C=true)
 (hw:PySem.Within mA ns)(hsz:ns.length<=sizeLine)
 (h:∀h',aDh h' x dx C (fun y=>if y=name then some v else mA y)->Heap.SameBut dx s.heap h'->Q () {s with heap:=h',toks:=s.toks+2}):
 wpAny (model prog w) A (setAttr (.ref x) name v) Q E s:=by
 obtain⟨od,J,hl⟩:=I.look
 refine PySem.W.set_plain X J hs (PySem.W.osa_open (s:={s with toks:=s.toks+1}) (r:=none) X J hp ht fun b=>?_)
 obtain⟨cd,hc,hd'⟩:=PySem.W.any_some hh;have hx:s.heap.get? x=some ⟨.ref C,some dx,.plain,#[]⟩:=I.obj
 refine wpAny_bind (wpAny_pure (wpAny_bind (wpAny_bind (wpAny_loadPart hx (wpAny_bind (PySem.W.Looks.here (s:={s with toks:=s.toks+1}) (PySem.W.looks_clsIn X hc) ?_))))))
 rw[hd']
 refine wpAny_pure (a:=some dx) (wpAny_bind (wpAny_pure (wpAny_bind ?_)))
 refine wpAny_nsSet1 (s:={s with toks:=s.toks+1}) I.ns fun h' hn2 hs2=>?_
 obtain⟨oD,esD,epD,hoD,hdD,hcD⟩:=hn2.count (PySem.Within.cons name v hw)
 refine wpAny_bind (wpAny_lookBehind hoD (by rw[hdD];exact pastItsLine_dict (cC hcD (by rw[aN];lia))) ?_)
 exact wpAny_pure (h _ ⟨(hs2.2 _ (Ne.symm I.ne)).trans I.obj,hn2,I.ne⟩ hs2)
theorem aGQ{R:Result->Shared->Prop}{vs:List Value}{kw:List (Str×Value)}(X:K.In s.heap)(hm:aPc K C=true)
 (hi:bQ K (.ref C) "__init__"=some (some (.ref f)))(hf:aPi K (.ref f)=some (.type "function"))
 (h:codeAny (model prog w) (A.under (.builtin "type.__call__" ⟨.ref C::vs,kw⟩)) (.call (.ref f) ⟨.ref (s.heap.objs.size+1)::vs,kw⟩) (PySem.W.InitBack (s.heap.objs.size+1) R)
  {s with heap:=(s.heap.push cY).push (dM C s.heap.objs.size)}):
 codeAny (model prog w) A (.call (.ref C) ⟨vs,kw⟩) R s:=by
 obtain⟨hh,g,d,t,os⟩:=s
 exact PySem.W.make_core (PySem.W.makes_of X hm) (PySem.W.looks_findIn X hi) (fun self=>PySem.W.bind_fn X self hf) (.inl rfl) h
end
noncomputable def o8(f:Str)(v:V):List (Str×V)->List (Str×V)
 | []=>[(f,v)]
 | (g,x)::r=>if g=f then(g,v)::r else(g,x)::o8 f v r
theorem u7(f g:Str)(v:V):∀fs:List (Str×V),(o8 f v fs).lookup g=if g=f then some v else fs.lookup g
 | []=>by
   show dI g [(f,v)]=_;by_cases h:g=f
   ·have hb:(g==f)=true:=beq_iff_eq.mpr h;simp only[dI,hb,if_pos h]
   ·have hb:(g==f)=false:=beq_eq_false_iff_ne.mpr h;simp only[dI,hb,if_neg h]
 | (k,x)::r=>by
   have ih:=u7 f g v r;rw[show o8 f v ((k,x)::r)=(if k=f then(k,v)::r else(k,x)::o8 f v r)from rfl];by_cases hk:k=f
   ·rw[if_pos hk];by_cases h:g=k
    ·have hb:(g==k)=true:=beq_iff_eq.mpr h;simp only[dI,hb,if_pos (h.trans hk)]
    ·have hb:(g==k)=false:=beq_eq_false_iff_ne.mpr h;simp only[dI,hb,if_neg (fun e:g=f=>h (e.trans hk.symm))]
   ·rw[if_neg hk];by_cases h:g=k
    ·have hb:(g==k)=true:=beq_iff_eq.mpr h;simp only[dI,hb,if_neg (fun e:g=f=>hk (h.symm.trans e))]
    ·have hb:(g==k)=false:=beq_eq_false_iff_ne.mpr h;simp only[dI,hb]
     exact ih
theorem t8(f:Str)(v:V):∀fs:List (Str×V),f∈(o8 f v fs).map (·.1)/\∀g,g∈fs.map (·.1)->g∈(o8 f v fs).map (·.1)
 | []=>⟨by simp[o8],fun g h=>by simp at h⟩
 | (k,x)::r=>by
   obtain⟨i1,i2⟩:=t8 f v r;rw[show o8 f v ((k,x)::r)=(if k=f then(k,v)::r else(k,x)::o8 f v r)from rfl];by_cases hk:k=f
   ·rw[if_pos hk];subst hk
    exact⟨by simp,fun g h=>by simpa using h⟩
   ·rw[if_neg hk]
    refine⟨?_,fun g h=>?_⟩
    ·rw[aM]
     exact aZ _ i1
    ·rw[aM]at h|-;rcases bE.mp h with e|e
     ·exact bE.mpr (.inl e)
     ·exact aZ _ (i2 g e)
theorem u6(f:Str)(v:V):∀fs:List (Str×V),(o8 f v fs).length<=fs.length+1
 | []=>by simp[o8]
 | (k,x)::r=>by
   have ih:=u6 f v r;rw[show o8 f v ((k,x)::r)=(if k=f then(k,v)::r else(k,x)::o8 f v r)from rfl];by_cases hk:k=f
   ·rw[if_pos hk,aN,aN];lia
   ·rw[if_neg hk,aN,aN];lia
theorem pI.some_of{v:V}{o:Option Value}(r:pI (some v) o):∃u,o=some u/\RelV v u:=by
 cases o with
 |none=>exact(show False from r).elim
 |some u=>exact⟨u,rfl,r⟩
theorem pI.none_of{o:Option Value}(r:pI none o):o=none:=by
 cases o with
 |none=>rfl
 |some u=>exact(show False from r).elim
theorem aFA{v:V}{u:Value}(r:RelV v u):aPG u=true:=by
 cases v with
 |non=>cases (show u=Value.none from r);rfl
 |bl b=>cases (show u=Value.bool b from r);rfl
 |int i=>obtain⟨t,e⟩:=(show∃t,u=Value.int i t from r);cases e;rfl
 |str x=>obtain⟨t,e⟩:=(show∃t,u=Value.str x t from r);cases e;rfl
 |byt b=>obtain⟨t,e⟩:=(show∃t,u=Value.bytes b t from r);cases e;rfl
 |flt b=>obtain⟨t,e⟩:=(show∃t,u=Value.float b t from r);cases e;rfl
 |ref a=>cases (show u=Value.ref a from r);rfl
 |ty n=>cases (show u=Value.type n from r);rfl
section
variable {P:Program}{w:World}{H H':Hp}{h h':Heap}{a C dx:Addr}{fs fs':List (Str×V)}
theorem aAU(hok:HOk P w H h)(e:H a=some (.ins C dx fs)):∃mA,aDh h a dx C mA/\(∀f,pI (fs.lookup f) (mA f))/\PySem.Within mA (fs.map (·.1))/\fs.length<=1000/\H dx=some (.own a):=by
 obtain⟨d,z,ne,ob,mA,n,r,q⟩:=(show jU P w H h a (.ins C dx fs)from hok a _ e)
 exact⟨mA,⟨ob,n,ne⟩,r,q,z,d⟩
end
structure Cls(K:aO)(C:Addr):Prop where
 pg:aOy K C Str.empty=true
 hd:aOV K C=true
 po:aPC K C=true
 sa:bQ K (.ref C) "__setattr__"=some (some (.builtin "object.__setattr__"))
theorem Cls.get{K:aO}{C:Addr}(c:Cls K C)(f:Str):aOy K C f=true:=c.pg
def oU(K:aO)(C:Addr)(f:Str):Prop:=bQ K (.ref C) f=some none
theorem oU.taker{K:aO}{C:Addr}{f:Str}(n:oU K C f):aPb K C f=some none:=by
 unfold aPb;rw[show bQ K (.ref C) f=some none from n];rfl
structure Con(K:aO)(C:Addr)(f:Str)(v:V)(u:Value):Prop where
 at_:bQ K (.ref C) f=some (some u)
 rel:RelV v u
 get:PySem.W.specialIn K u "__get__"=some none
 cp:PySem.W.copiedNames.contains f=false
structure Meth(K:aO)(C:Addr)(m:Str)(f:Addr):Prop where
 at_:bQ K (.ref C) m=some (some (.ref f))
 fn:aOs K (.ref f)=true
 kp:cF K (.ref f)=true
section
variable {X:Cx}{pins:List (Addr×Obj)}{σ:St}{H:Hp}{s:Shared}{a C dx:Addr}{fs:List (Str×V)}{f:Str}{v:V}{A:Around}{E:Value->Shared->Prop}
variable{Q:Value->Shared->Prop}
theorem yV{b:Bool}(I:Inv X pins σ H s)(e:H a=some (.ins C dx fs))(c:Cls X.K C)(n:oU X.K C f)(l:fs.lookup f=some v)
 (h:∀u s',Inv X pins σ H s'->RelV v u->Q u s'):wpAny (model X.prog X.w) A (getAttr (.ref a) f b) Q E s:=by
 obtain⟨mA,O,r,_,_,_⟩:=aAU I.hok e;obtain⟨u,hu,ru⟩:=pI.some_of (v:=v) (o:=mA f) (by rw[<-l];exact r f)
 exact aI6 I.kIn O (c.get f) c.hd n hu (aFA ru) (h u _ (I.tok _) ru)
theorem wM{m:Str}{g:Addr}{pl:Sem Bool}{Q:Value×List Value->Shared->Prop}(I:Inv X pins σ H s)(e:H a=some (.ins C dx fs))(c:Cls X.K C)(k:Meth X.K C m g)(l:fs.lookup m=none)
 (h:Q (.ref g,[.ref a]) s):wpAny (model X.prog X.w) A (getMethod (.ref a) m pl) Q E s:=by
 obtain⟨mA,O,r,_,_,_⟩:=aAU I.hok e;have hn:mA m=none:=pI.none_of (by rw[<-l];exact r m)
 exact aHW I.kIn O (c.get m) k.at_ k.fn hn h
theorem yD{y:V}{u:Value}{Q:Unit->Shared->Prop}(I:Inv X pins σ H s)(e:H a=some (.ins C dx fs))(c:Cls X.K C)(n:oU X.K C f)(hl:fs.length<1000)(ry:RelV y u)
 (h:∀s',Inv X pins σ (upd H a (.ins C dx (o8 f y fs))) s'->Q () s'):wpAny (model X.prog X.w) A (setAttr (.ref a) f u) Q E s:=by
 obtain⟨mA,O,r,wi,_,ho⟩:=aAU I.hok e;have hz:(fs.map (·.1)).length<=sizeLine:=by rw[aR,sizeLine_eq];lia
 refine aJz I.kIn O c.sa c.po n.taker c.hd wi hz fun h' O' sb=>h _ ?_
 have hd:∃o,h'.get? dx=some o:=let ⟨o,_,_,e',_⟩:=O'.ns;⟨o,e'⟩
 refine I.write (x:=a) (e:=dx) (by rw[e];exact True.intro) (.inr ho) (fun b q hb z=>(sb.2 b hb).trans z) hd ?_
 refine⟨by rw[fQ O.ne];exact ho,?_,O.ne,O'.obj,_,O'.ns,fun g=>?_,fun g hg=>?_⟩
 ·have:=u6 f y fs;lia
 ·show pI ((o8 f y fs).lookup g) (if g=f then some u else mA g);rw[u7];by_cases q:g=f
  ·rw[if_pos q,if_pos q];exact ry
  ·rw[if_neg q,if_neg q];exact r g
 ·by_cases q:g=f
  ·rw[q];exact(t8 f y fs).1
  ·refine(t8 f y fs).2 g (wi g fun z=>hg ?_)
   show(if g=f then some u else mA g)=none;rw[if_neg q];exact z
theorem Inv.made(I:Inv X pins σ H s):Inv X pins σ (upd (upd H s.heap.objs.size (.own (s.heap.objs.size+1))) (s.heap.objs.size+1) (.ins C s.heap.objs.size []))
 {s with heap:=(s.heap.push cY).push (dM C s.heap.objs.size)}:=by
 have e1:(s.heap.push cY).get? s.heap.objs.size=some cY:=Heap.get?_push_size s.heap rfl;have e2:((s.heap.push cY).push (dM C s.heap.objs.size)).get? (s.heap.objs.size+1)=some (dM C s.heap.objs.size):=by
  have:=Heap.get?_push_size (s.heap.push cY) (o:=dM C s.heap.objs.size) rfl;rwa[Heap.size_push]at this
 have e3:(s.heap.push cY).Ns s.heap.objs.size (fun _=>none):=⟨cY,#[],_,e1,rfl,(fun e he=>absurd he (by simp)),fun _=>rfl⟩;have I1:=I.laid (a:=s.heap.objs.size) (o:=.own (s.heap.objs.size+1)) (h':=s.heap.push cY) (t':=s.toks) (fun b u q=>Heap.get?_push_of_some _ q) (bI _) ⟨_,e1⟩
 refine I1.laid (a:=s.heap.objs.size+1) (o:=.ins C s.heap.objs.size []) (t':=s.toks) (fun b u q=>Heap.get?_push_of_some _ q) (aPZ (Heap.size_push _ _)) ?_
 have ne:s.heap.objs.size≠s.heap.objs.size+1:=bT (dZ _)
 refine⟨by rw[fQ ne,jC],dJ _,ne,e2,fun _=>none,(Heap.Ns1.of_empty e3).at fun o q=>Heap.get?_push_of_some _ q,fun _=>True.intro,fun y hy=>absurd rfl hy⟩
theorem aI8{prog:Program}{w:World}{env:Env}{e:Expr}{f:Str}{pos:Pos}{s:Shared}(hb:attributeBase e f env (eval e env)=eval e env)
 (h:wpAny (model prog w) A (eval e env) (fun o s₁=>wpAny (model prog w) A (getAttr o f true) Q E s₁) E s):wpAny (model prog w) A (eval (.Attribute e f pos) env) Q E s:=
 Attribute_any_ h (by rw[arm_eval_Attribute,hb])
end
def tFld(K:aO)(ta:TE)(f:Str):TE:=fun σ H Q=>ta σ H fun x H1=>∃a C dx fs v,x=.ref a/\H1 a=some (.ins C dx fs)/\Cls K C/\oU K C f/\fs.lookup f=some v/\Q v H1
def sFld(K:aO)(ta tv:TE)(f:Str):TS:=fun D σ H=>tv σ H fun y H1=>ta σ H1 fun x H2=>∃a C dx fs,x=.ref a/\H2 a=some (.ins C dx fs)/\Cls K C/\oU K C f/\fs.length<1000/\
 D.nx σ (upd H2 a (.ins C dx (o8 f y fs)))
def aKP(X:Cx)(op:Operator)(rd:V->V->Hp->VK->Prop):Prop:=
 ∀(pins:List (Addr×Obj))(s:Shared)(σ:St)(H:Hp)(x y:V)(u v:Value)(Q:VK),Inv X pins σ H s->RelV x u->RelV y v->rd x y H Q->wpAny (model X.prog X.w) X.A (inplaceOp op u v) (EP X pins σ Q) X.xe s
def sFldAug(K:aO)(ta tv:TE)(rd:V->V->Hp->VK->Prop)(f:Str):TS:=fun D σ H=>ta σ H fun x H1=>∃a C dx fs v,x=.ref a/\H1 a=some (.ins C dx fs)/\Cls K C/\oU K C f/\fs.lookup f=some v/\
 tv σ H1 fun y H2=>rd v y H2 fun z H3=>∃dx' fs',H3 a=some (.ins C dx' fs')/\fs'.length<1000/\D.nx σ (upd H3 a (.ins C dx' (o8 f z fs')))
section
variable {X:Cx}{o e value:Expr}{f:Str}{pos pos' tpos:Pos}{ta tv:TE}
theorem aNk(he:PE X e ta)(hb:attributeBase e f X.env (eval e X.env)=eval e X.env):PE X (.Attribute e f pos) (tFld X.K ta f):=by
 intro pins s σ H Q I h
 refine aI8 hb (thn (he pins s σ H _ I h) fun u s1 zz=>?_)
 obtain⟨x,H1,I1,rx,a,C,dx,fs,v,ex,ea,c,n,l,q⟩:=zz;subst ex;obtain rfl:u=Value.ref a:=rx
 exact yV I1 ea c n l fun u' s2 I2 ru=>⟨v,H1,I2,ru,q⟩
theorem aME(ha:PE X o ta)(hv:PE X value tv)(hs:swapsWith value (some (.Attribute o f pos')) pos.line X.env=pure false):PS X (.Assign [.Attribute o f pos'] value pos) (sFld X.K ta tv f):=by
 intro pins s σ H D I h
 refine plainObj_wpAny_Assign_Attribute (thn (hv pins s σ H _ I h) fun u s1 ⟨y,H1,I1,ry,q⟩=>thn (ha pins s1 σ H1 _ I1 q) fun ov s2 ⟨x,H2,I2,rx,a,C,dx,fs,ex,ea,c,n,l,q2⟩=>?_) hs
 subst ex;obtain rfl:ov=Value.ref a:=rx
 exact yD I2 ea c n l ry fun s3 I3=>⟨σ,_,I3,q2⟩
theorem zU{op:Operator}{rd:V->V->Hp->VK->Prop}(ha:PE X o ta)(hv:PE X value tv)(hop:aKP X op rd):PS X (.AugAssign (.Attribute o f tpos) op value pos) (sFldAug X.K ta tv rd f):=by
 intro pins s σ H D I h
 refine wpAny_AugAssign_AttributeAny (thn (ha pins s σ H _ I h) fun ov s1 zz=>?_)
 obtain⟨x,H1,I1,rx,a,C,dx,fs,v,ex,ea,c,n,l,q⟩:=zz;subst ex;obtain rfl:ov=Value.ref a:=rx
 refine yV I1 ea c n l fun u s2 I2 ru=>thn (hv pins s2 σ H1 _ I2 q) fun w3 s3 ⟨y,H2,I3,ry,q3⟩=>thn (hop pins s3 σ H2 v y u w3 _ I3 ru ry q3) fun w4 s4 zz=>?_
 obtain⟨z,H3,I4,rz,dx',fs',ea',l',q4⟩:=zz
 exact yD I4 ea' c n l' rz fun s5 I5=>⟨σ,_,I5,q4⟩
def rAdd:V->V->Hp->VK->Prop:=fun x y H Q=>∃i j,x=.int i/\y=.int j/\Q (.int (i+j)) H
def rSub:V->V->Hp->VK->Prop:=fun x y H Q=>∃i j,x=.int i/\y=.int j/\Q (.int (i - j)) H
theorem aMb:aKP X .Add rAdd:=by
 rintro pins s σ H x y u v Q I rx ry ⟨i,j,rfl,rfl,q⟩;obtain⟨t,rfl⟩:=(show∃t,u=Value.int i t from rx);obtain⟨t',rfl⟩:=(show∃t',v=Value.int j t' from ry)
 exact aP6 ⟨.int (i+j),H,I.tok _,⟨_,rfl⟩,q⟩
theorem aHB:aKP X .Sub rSub:=by
 rintro pins s σ H x y u v Q I rx ry ⟨i,j,rfl,rfl,q⟩;obtain⟨t,rfl⟩:=(show∃t,u=Value.int i t from rx);obtain⟨t',rfl⟩:=(show∃t',v=Value.int j t' from ry)
 exact aP7 ⟨.int (i - j),H,I.tok _,⟨_,rfl⟩,q⟩
end
section
variable {X:Cx}{pins:List (Addr×Obj)}{σ:St}{H:Hp}{s:Shared}{A:Around}{E:Value->Shared->Prop}{Q:Value->Shared->Prop}{c:Value}{b:Bool}
end
variable{k:Nat}{A:Around}{C:Addr}{us:List Value}{kw:List (Str×Value)}
structure Room(k:Nat)(A:Around):Prop where
 hd:A.handled=none
 dp:A.depth+3*k+5<recursionLimit
 un:A.units+16*k+200<cLine
theorem Room.mono{j:Nat}(r:Room k A)(h:j<=k):Room j A:=⟨r.hd,by have:=r.dp;lia,by have:=r.un;lia⟩
theorem Room.deeper(r:Room (k+1) A)(env:Env):Room k (A.deeper env):=
 ⟨r.hd,by have:=r.dp;show A.depth+1+3*k+5<_;lia,by have:=r.un;show A.units+3+16*k+200<_;lia⟩
theorem aC3:(A.under (.builtin "type.__call__" ⟨.ref C::us,kw⟩)).depth=A.depth+1:=by
 first|rfl|simp[Around.under,Code.weight,Code.isCreation,Code.isGuard,Code.isCaller,Code.frames,Code.isFrame,guardIds]
theorem aDD:(A.under (.builtin "type.__call__" ⟨.ref C::us,kw⟩)).units=A.units+1:=by
 first|rfl|simp[Around.under,Code.cUnits,Code.frames,Code.isFrame]
theorem Room.make(r:Room (k+1) A)(C:Addr)(us:List Value)(kw:List (Str×Value)):Room k (A.under (.builtin "type.__call__" ⟨.ref C::us,kw⟩)):=
 ⟨r.hd,by have:=r.dp;rw[aC3];lia,by have:=r.un;rw[aDD];lia⟩
theorem Room.depth(r:Room k A):A.depth<recursionLimit:=by have:=r.dp;lia
noncomputable def aJY:TA:=fun _ H Q=>Q [] H
noncomputable def aHX(ta:TE)(tr:TA):TA:=fun σ H Q=>ta σ H fun x H1=>tr σ H1 fun xs H2=>Q (x::xs) H2
section
variable {X:Cx}{e:Expr}{es:List Expr}{te:TE}{t:TA}{pos:Pos}
theorem aC2:PA X [] aJY:=fun _ _ _ _ H Q I h=>Calls.spliced_nil ⟨[],H,I,.nil,h⟩
theorem vV(ha:PE X e te)(hr:PA X es t)(hs:starEach (e::es) X.env=(false,eval e X.env)::starEach es X.env:=by rfl):PA X (e::es) (aHX te t):=by
 intro pos pins s σ H Q I h;rw[hs];show wpAny _ _ (spliced ((false,eval e X.env)::backTo pos (starEach es X.env))) _ _ s
 refine Calls.spliced_cons (thn (ha pins s σ H _ I h) fun u s1 zz=>?_)
 obtain⟨x,H1,I1,r1,q1⟩:=zz
 exact thn (hr pos pins s1 σ H1 _ I1 q1) fun us s2 ⟨xs,H2,I2,r2,q2⟩=>⟨x::xs,H2,I2,.cons r1 r2,q2⟩
def tTup(t:TA):TE:=fun σ H Q=>t σ H fun xs H1=>xs.length<=sizeLine/\∀p,H1 p=none->Q (.ref p) (upd H1 p (.tup xs))
def tLst(t:TA):TE:=fun σ H Q=>t σ H fun xs H1=>xs.length<=sizeLine/\∀p,H1 p=none->Q (.ref p) (upd H1 p (.lst xs))
theorem aMB{x1}(h:PA X es t):PE X (.Tuple es x1 pos) (tTup t):=by
 intro pins s σ H Q I hq
 refine wpAny_Tuple_spliced (thn (h pos pins s σ H _ I hq) fun us s1 ⟨xs,H1,I1,r,z,q⟩=>⟨by rw[<-r.length];exact z,?_⟩)
 have hf:H1 s1.heap.objs.size=none:=I1.hok.fresh (bI _)
 refine⟨.ref s1.heap.objs.size,upd H1 s1.heap.objs.size (.tup xs),I1.laid (t':=s1.toks) (fun b u e=>Heap.get?_push_of_some _ e) (bI _) ?_,rfl,q _ hf⟩
 exact⟨z,us,r,⟨_,Heap.get?_push_size _ rfl,rfl,_,rfl⟩⟩
theorem aLY(h:PA X es t):PE X (.List es pos) (tLst t):=by
 intro pins s σ H Q I hq
 refine wpAny_List_spliced (thn (h pos pins s σ H _ I hq) fun us s1 ⟨xs,H1,I1,r,z,q⟩=>⟨by rw[<-r.length];exact z,?_⟩)
 have hf:H1 s1.heap.objs.size=none:=I1.hok.fresh (bI _)
 refine⟨.ref s1.heap.objs.size,upd H1 s1.heap.objs.size (.lst xs),I1.laid (t':=s1.toks) (fun b u e=>Heap.get?_push_of_some _ e) (bI _) ?_,rfl,q _ hf⟩
 exact⟨z,us,0,r,Heap.get?_push_size _ rfl⟩
end
abbrev Sp:=List V->Hp->VK->XK->Prop
abbrev CXT:=List Env->Hp->Shared->XK->Value->Shared->Prop
structure Env0(P:Program)(w:World)(K:aO)(mg:Str->Option Value)(base:Heap)(A:Around)(outer:List Env)(s:Shared)(H:Hp):Prop where
 frames:A.frames=some outer
 mod:Mod K mg base
 bs:∀b o,base.get? b=some o->s.heap.get? b=some o/\H b=none
 bsz:base.objs.size<=s.heap.objs.size
 funs:s.heap.FunFrames base outer
 frf:∀b∈frs outer,H b=none
 hok:HOk P w H s.heap
 bare:AllBare s.gens
def CE(outer:List Env)(P:Program)(w:World)(H:Hp)(s:Shared)(Q:VK)(u:Value)(s':Shared):Prop:=
 ∃v H',s'.os=s.os/\AllBare s'.gens/\Un (frs outer) [] H H' s.heap s'.heap/\HOk P w H' s'.heap/\RelV v u/\Q v H'
def CR(CX:CXT)(outer:List Env)(P:Program)(w:World)(H:Hp)(s:Shared)(Q:VK)(E:XK)(r:Result)(s':Shared):Prop:=
 match r with
 | .ok (.ret u)=>CE outer P w H s Q u s'
 | .ok _=>False
 | .error e=>CX outer H s E e s'
structure mV(P:Program)(w:World)(K:aO)(mg:Str->Option Value)(base:Heap)(CX:CXT)(k:Nat)(f:Addr)(fd:FuncData)(ps:List Str)(sp:Sp):Prop where
 len:∀vs H Q E,sp vs H Q E->vs.length=ps.length
 run:∀(A:Around)(outer:List Env)(s:Shared)(H:Hp)(args:Args)(us:List Value)(vs:List V)(Q:VK)(E:XK),Room k A->Env0 P w K mg base A outer s H->BindsTo s fd args (ps.zip us)->Vals vs us->sp vs H Q E->
  codeAny (model P w) A (.call (.ref f) args) (CR CX outer P w H s Q E) s
theorem Env0.make{P:Program}{w:World}{K:aO}{mg:Str->Option Value}{base:Heap}{A:Around}{outer:List Env}{s:Shared}{H:Hp}(e:Env0 P w K mg base A outer s H)(C:Addr)(us:List Value)(kw:List (Str×Value)):
 Env0 P w K mg base (A.under (.builtin "type.__call__" ⟨.ref C::us,kw⟩)) outer s H:=⟨by first|exact e.frames| (simpa[Around.under,Code.envs,Code.isFrame,pushEnvs]using e.frames),e.mod,e.bs,e.bsz,e.funs,e.frf,e.hok,e.bare⟩
section
variable {X:Cx}{pins:List (Addr×Obj)}{σ:St}{H:Hp}{s s':Shared}
theorem Inv.env0(I:Inv X pins σ H s):Env0 X.prog X.w X.K X.mg X.base X.A X.stack s H:=
 ⟨I.ok.frames,I.ok.mod,I.bs,cC I.ok.bsz I.sz,I.stack,I.stkFree,I.hok,I.bare⟩
theorem Inv.after{Q:VK}{u:Value}(I:Inv X pins σ H s)(h:CE X.stack X.prog X.w H s Q u s'):EP X pins σ Q u s':=by
 obtain⟨v,H',os,bare,un,hok,r,q⟩:=h;obtain⟨hh,g,d,t,os'⟩:=s';obtain rfl:os'=s.os:=os
 exact⟨v,H',I.call (h':=hh) (g':=g) (d':=d) (t':=t) (ch:=[]) un hok bare (fun b z=>absurd z (by simp)),r,q⟩
end
noncomputable def z7(sp:Sp)(dvs:List V)(E:XK)(t:TA):TE:=fun σ H Q=>t σ H fun vs H1=>sp (vs++dvs) H1 Q E
def aGO(C:Addr)(m:Str)(sp:Sp)(dvs:List V)(E:XK)(ta:TE)(t:TA):TE:=fun σ H Q=>ta σ H fun x H1=>∃a dx fs,x=.ref a/\H1 a=some (.ins C dx fs)/\fs.lookup m=none/\
 t σ H1 fun vs H2=>sp (x::(vs++dvs)) H2 Q E
def tMake(C:Addr)(sp:Sp)(dvs:List V)(E:XK)(t:TA):TE:=fun σ H Q=>t σ H fun vs H1=>∀x dx,H1 x=none->H1 dx=none->dx≠x->
 sp (.ref x::(vs++dvs)) (upd (upd H1 dx (.own x)) x (.ins C dx [])) (fun v H2=>v=.non/\Q (.ref x) H2) E
def Binds(K:aO)(fd:FuncData)(ps:List Str)(ds:List Value):Prop:=
 ∀(s:Shared)(us:List Value),K.In s.heap->(us++ds).length=ps.length->BindsTo s fd ⟨us,[]⟩ (ps.zip (us++ds))
theorem Binds.all{K:aO}{fd:FuncData}{ps:List Str}(h:∀us:List Value,us.length=ps.length->bindArgs fd ⟨us,[]⟩=pure (ps.zip us)):Binds K fd ps []:=fun s us _ hl=>by
 rw[aW]at hl|-
 exact .of_eq (h us hl)
def Passes(CX:CXT)(X:Cx)(E:XK):Prop:=∀(pins:List (Addr×Obj))(σ:St)(H:Hp)(s:Shared)(e:Value)(s':Shared),Inv X pins σ H s->CX X.stack H s E e s'->X.xe e s'
section
variable {X:Cx}{CX:CXT}{k:Nat}{f C:Addr}{fd:FuncData}{ps:List Str}{sp:Sp}{dvs:List V}{ds:List Value}{E:XK}{x m:Str}{p pos apos:Pos}{e o:Expr}{es:List Expr}{ta:TE}{t:TA}
variable{pins:List (Addr×Obj)}{σ:St}{Q:VK}{vs:List V}{pl:Sem Bool}
theorem aDn{H:Hp}{s:Shared}{us:List Value}(F:mV X.prog X.w X.K X.mg X.base CX k f fd ps sp)(hr:Room k X.A)(hb:Binds X.K fd ps ds)(hd:Vals dvs ds)(hx:Passes CX X E)
 (I:Inv X pins σ H s)(r:Vals vs us)(h:sp (vs++dvs) H Q E):wpAny (model X.prog X.w) X.A (call (.ref f) us) (EP X pins σ Q) X.xe s:=by
 have r2:Vals (vs++dvs) (us++ds):=r.append hd;have hl:(us++ds).length=ps.length:=by rw[<-r2.length];exact F.len _ _ _ _ h
 refine wpAny_call (codeAny_mono (F.run X.A X.stack s H ⟨us,[]⟩ (us++ds) (vs++dvs) Q E hr I.env0 (hb s us I.kIn hl) r2 h) fun r s' hq=>?_)
 cases r with
 |error e=>exact hx pins σ H s e s' I hq
 |ok fl=>
  cases fl with
  |ret u=>exact I.after hq
  |next=>exact False.elim hq
  |brk=>exact False.elim hq
  |cont=>exact False.elim hq
theorem tD(F:mV X.prog X.w X.K X.mg X.base CX k f fd ps sp)(hr:Room k X.A)(hg:Gl X x)(hm:X.mg x=some (.ref f))(hk:cF X.K (.ref f)=true)(hb:Binds X.K fd ps ds)(hd:Vals dvs ds)(hx:Passes CX X E)
 (ha:PA X (e::es) t)(hdb:(x==("__debug__":Str))=false:=by decide)(he:starEach (e::es) X.env=(false,eval e X.env)::starEach es X.env:=by rfl)(hpl:(backTo pos (starEach es X.env)).any (·.1)=false:=by rfl):
 PE X (.Call (.Name x p) (e::es) [] pos) (z7 sp dvs E t):=by
 intro pins s σ H Q I h
 refine wpAny_Call_Name_kw (aBs I hg hm ?_ hdb)
 refine aOQ (h₀:=X.base) I.ok.mod.kin hk (thn (ha pos pins s σ H _ I h) fun us s1 ⟨vs,H1,I1,r,q⟩=>⟨I1.kIn,?_⟩) he hpl
 exact aDn F hr hb hd hx I1 r q
theorem aJi(he:PE X o ta)(c:Cls X.K C)(hm:Meth X.K C m f)(F:mV X.prog X.w X.K X.mg X.base CX k f fd ps sp)(hr:Room k X.A)(hb:Binds X.K fd ps ds)(hd:Vals dvs ds)(hx:Passes CX X E)(ha:PA X (e::es) t)
 (hst:starEach (e::es) X.env=(false,eval e X.env)::starEach es X.env:=by rfl)(hpl:(backTo pos (starEach es X.env)).any (·.1)=false:=by rfl)
 (ht:eval (.Call (.Attribute o m apos) (e::es) [] pos) X.env=(do
  let ov<-eval o X.env
  standAt apos.atName
  let (f,first)<-holding [ov] (getMethod ov m pl)
  callWith pos f first (backTo pos (starEach (e::es) X.env)) (backToKw pos (keywordEach [] X.env))):=by rfl):
 PE X (.Call (.Attribute o m apos) (e::es) [] pos) (aGO C m sp dvs E ta t):=by
 intro pins s σ H Q I h
 refine aPf (pl:=pl) (thn (he pins s σ H _ I h) fun u s1 ⟨x,H1,I1,rx,a,dx,fs,ex,ea,l,q⟩=>?_) ht
 subst ex;obtain rfl:u=Value.ref a:=rx
 refine wM I1 ea c hm l ?_
 refine aOQ (first:=[.ref a]) (h₀:=X.base) I.ok.mod.kin hm.kp (thn (ha pos pins s1 σ H1 _ I1 q) fun us s2 ⟨vs,H2,I2,r,q2⟩=>⟨I2.kIn,?_⟩) hst hpl
 exact aDn (us:=.ref a::us) (vs:=.ref a::vs) F hr hb hd hx I2 (.cons rfl r) q2
theorem aH8(he:PE X o ta)(c:Cls X.K C)(hm:Meth X.K C m f)(F:mV X.prog X.w X.K X.mg X.base CX k f fd ps sp)(hr:Room k X.A)(hb:Binds X.K fd ps ds)(hd:Vals dvs ds)(hx:Passes CX X E)
 (ht:eval (.Call (.Attribute o m apos) [] [] pos) X.env=(do
  let ov<-eval o X.env
  standAt apos.atName
  let (f,first)<-holding [ov] (getMethod ov m pl)
  callWith pos f first (backTo pos (starEach [] X.env)) (backToKw pos (keywordEach [] X.env))):=by rfl):
 PE X (.Call (.Attribute o m apos) [] [] pos) (aGO C m sp dvs E ta aJY):=by
 intro pins s σ H Q I h
 refine aPf (pl:=pl) (thn (he pins s σ H _ I h) fun u s1 ⟨x,H1,I1,rx,a,dx,fs,ex,ea,l,q⟩=>?_) ht
 subst ex;obtain rfl:u=Value.ref a:=rx
 refine wM I1 ea c hm l ?_
 exact PySem.W.callWith_K0 (first:=[.ref a]) I1.kIn hm.kp (aDn (us:=[.ref a]) (vs:=[.ref a]) F hr hb hd hx I1 (.cons rfl .nil) q)
structure Mk(K:aO)(C f:Addr):Prop where
 makes:aPc K C=true
 init:bQ K (.ref C) "__init__"=some (some (.ref f))
 fn:aOs K (.ref f)=true
 kp:cF K (.ref C)=true
theorem aGJ{H:Hp}{s:Shared}{us:List Value}(M:Mk X.K C f)(F:mV X.prog X.w X.K X.mg X.base CX k f fd ps sp)(hr:Room (k+1) X.A)(hb:Binds X.K fd ps ds)(hd:Vals dvs ds)
 (hx:Passes CX X E)(I:Inv X pins σ H s)(r:Vals vs us)
 (h:∀x dx,H x=none->H dx=none->dx≠x->sp (.ref x::(vs++dvs)) (upd (upd H dx (.own x)) x (.ins C dx [])) (fun v H2=>v=.non/\Q (.ref x) H2) E):
 wpAny (model X.prog X.w) X.A (call (.ref C) us) (EP X pins σ Q) X.xe s:=by
 have hq:=h (s.heap.objs.size+1) s.heap.objs.size (I.hok.fresh (aQa _)) (I.hok.fresh (bI _)) (bT (dZ _));have I2:=Inv.made (C:=C) I;have r2:Vals (V.ref (s.heap.objs.size+1)::(vs++dvs)) (Value.ref (s.heap.objs.size+1)::(us++ds)):=.cons rfl (r.append hd);have hl:(Value.ref (s.heap.objs.size+1)::us++ds).length=ps.length:=by
  have e:=r2.length;rw[F.len _ _ _ _ hq]at e
  exact e.symm
 refine wpAny_call (aGQ (f:=f) I.kIn M.makes M.init (beq_iff_eq.mp M.fn) (codeAny_mono (F.run _ X.stack _ _ ⟨Value.ref (s.heap.objs.size+1)::us,[]⟩ (Value.ref (s.heap.objs.size+1)::(us++ds)) _ _ E (hr.make C us [])
  (I2.env0.make C us []) (hb _ (Value.ref (s.heap.objs.size+1)::us) I2.kIn hl) r2 hq) fun r s' hq'=>?_))
 cases r with
 |error e=>exact hx pins σ _ _ e s' I2 hq'
 |ok fl=>
  cases fl with
  |ret u=>
   obtain⟨v,H',I3,rv,ev,q3⟩:=I2.after hq';subst ev
   exact⟨rv,⟨V.ref (s.heap.objs.size+1),H',I3,rfl,q3⟩⟩
  |next=>exact False.elim hq'
  |brk=>exact False.elim hq'
  |cont=>exact False.elim hq'
theorem aIW(M:Mk X.K C f)(F:mV X.prog X.w X.K X.mg X.base CX k f fd ps sp)(hr:Room (k+1) X.A)(hg:Gl X x)(hm:X.mg x=some (.ref C))(hb:Binds X.K fd ps ds)(hd:Vals dvs ds)(hx:Passes CX X E)
 (ha:PA X (e::es) t)(hdb:(x==("__debug__":Str))=false:=by decide)(he:starEach (e::es) X.env=(false,eval e X.env)::starEach es X.env:=by rfl)(hpl:(backTo pos (starEach es X.env)).any (·.1)=false:=by rfl):
 PE X (.Call (.Name x p) (e::es) [] pos) (tMake C sp dvs E t):=by
 intro pins s σ H Q I h
 refine wpAny_Call_Name_kw (aBs I hg hm ?_ hdb)
 refine aOQ (h₀:=X.base) I.ok.mod.kin M.kp (thn (ha pos pins s σ H _ I h) fun us s1 ⟨vs,H1,I1,r,q⟩=>⟨I1.kIn,?_⟩) he hpl
 exact aGJ M F hr hb hd hx I1 r q
end
def PK(X:Cx)(kws:List Keyword)(t:TA):Prop:=
 ∀(pos:Pos)(pins:List (Addr×Obj))(s:Shared)(σ:St)(H:Hp)(Q:List V->Hp->Prop),Inv X pins σ H s->t σ H Q->wpAny (model X.prog X.w) X.A (evalAll ((backToKw pos (keywordEach kws X.env)).map (·.2))) (AP X pins σ Q) X.xe s
section
variable {X:Cx}{CX:CXT}{k:Nat}{f C:Addr}{fd:FuncData}{ps ks:List Str}{sp:Sp}{E:XK}{x m:Str}{p pos apos kpos:Pos}{e o:Expr}{es:List Expr}{kws:List Keyword}{te ta:TE}{t tk:TA}{nm:Option Str}
theorem aMO:PK X [] aJY:=fun _ _ _ _ H Q I h=>wpAny_evalAll_nil ⟨[],H,I,.nil,h⟩
theorem aJh(ha:PE X e te)(hr:PK X kws t):PK X (⟨nm,e,kpos⟩::kws) (aHX te t):=by
 intro pos pins s σ H Q I h;show wpAny _ _ (evalAll ((do let v<-eval e X.env;standAt pos;pure v)::(backToKw pos (keywordEach kws X.env)).map (·.2))) _ _ s
 refine wpAny_evalAll_cons (wpAny_bind (thn (ha pins s σ H _ I h) fun u s1 ⟨x,H1,I1,r1,q1⟩=>wpAny_bind (wpAny_standAt (wpAny_pure ?_))))
 exact thn (hr pos pins s1 σ H1 _ I1 q1) fun us s2 ⟨xs,H2,I2,r2,q2⟩=>⟨x::xs,H2,I2,.cons r1 r2,q2⟩
variable {g:List Value->List Value->List Value}{gV:List V->List V->List V}
end
variable{CX:CXT}{mg:Str->Option Value}{base:Heap}{N ps:List Str}{qual:Str}{scope:Scope}{f:Addr}
structure qX(N P:List Str)(sc:Scope):Prop where
 kind:sc.kind=.function
 co:sc.isCoroutine=false
 gen:sc.isGenerator=false
 nd:N.Nodup
 pre:N.take P.length=P
 par:∀x∈P,sc.names.lookup x=some .local\/sc.names.lookup x=some .cell
 nofree:∀y∈sc.names,y.2≠ .free
theorem aAb{kindOf:Str->Option NameKind}{x:Str}:∀{binds:List (Str×Value)}{m:Str->Option Value},(∀v,(x,v)∉binds)->bindL kindOf binds m x=m x
 | [],_,_=>rfl
 | (n,v)::r,m,h=>by
   unfold bindL;rw[aAb fun w hw=>h w (aZ _ hw)];split
   ·have:x≠n:=by rintro rfl;exact h v bF
    simp[this]
   ·rfl
theorem aAj{kindOf:Str->Option NameKind}{x:Str}:∀{binds:List (Str×Value)}{m:Str->Option Value},(∀v,(x,v)∉binds)->bindC kindOf binds m x=m x
 | [],_,_=>rfl
 | (n,v)::r,m,h=>by
   unfold bindC;rw[aAj fun w hw=>h w (aZ _ hw)];split
   ·rfl
   ·have:x≠n:=by rintro rfl;exact h v bF
    simp[this]
theorem zP{kindOf:Str->Option NameKind}{x:Str}{v:Value}:∀{P:List Str}{vs:List Value}{i:Nat}{m:Str->Option Value},P.Nodup->P[i]?=some x->vs[i]?=some v->kindOf x=some .local->
 bindL kindOf (P.zip vs) m x=some v
 | [],_,_,_,_,h,_,_=>by simp at h
 |_::_,[],_,_,_,_,h,_=>by simp at h
 |p::P,w::vs,0,m,nd,h1,h2,hk=>by
  simp at h1 h2;subst h1;subst h2;show bindL kindOf ((p,w)::P.zip vs) m p=_;unfold bindL;rw[aAb fun v hv=>(bW.mp nd).1 (aPd hv).1,if_pos hk];simp
 |p::P,w::vs,i+1,m,nd,h1,h2,hk=>by
  show bindL kindOf ((p,w)::P.zip vs) m x=_;unfold bindL
  exact zP (i:=i) (bW.mp nd).2 (by simpa using h1) (by simpa using h2) hk
theorem zZ{kindOf:Str->Option NameKind}{x:Str}{v:Value}:∀{P:List Str}{vs:List Value}{i:Nat}{m:Str->Option Value},P.Nodup->P[i]?=some x->vs[i]?=some v->kindOf x≠some .local->
 bindC kindOf (P.zip vs) m x=some v
 | [],_,_,_,_,h,_,_=>by simp at h
 |_::_,[],_,_,_,_,h,_=>by simp at h
 |p::P,w::vs,0,m,nd,h1,h2,hk=>by
  simp at h1 h2;subst h1;subst h2;show bindC kindOf ((p,w)::P.zip vs) m p=_;unfold bindC;rw[aAj fun v hv=>(bW.mp nd).1 (aPd hv).1,if_neg hk];simp
 |p::P,w::vs,i+1,m,nd,h1,h2,hk=>by
  show bindC kindOf ((p,w)::P.zip vs) m x=_;unfold bindC
  exact zZ (i:=i) (bW.mp nd).2 (by simpa using h1) (by simpa using h2) hk
noncomputable def start(N:List Str)(vs:List V):St:=vs.map some++aT (N.length - vs.length) none
def aBf(CX:CXT)(P:Program)(w:World)(K:aO)(mg:Str->Option Value)(base:Heap)(N:List Str)(qual:Str)(scope:Scope)(f:Addr)(cd:Value)(A:Around)(outer:List Env)(s:Shared)(H:Hp)(E:XK):Cx where
 prog:=P
 w:=w
 K:=K
 mg:=mg
 base:=base
 A:=A.deeper (envOfC qual scope s.heap.objs.size f cd)
 N:=N
 s₀:=s
 H₀:=H
 env:=envOfC qual scope s.heap.objs.size f cd
 outer:=outer
 stack:=envOfC qual scope s.heap.objs.size f cd::outer
 ex:=[]
 calm:=true
 fn:=fun _=>true
 pn:=[]
 xe:=fun e s'=>wpAny (model P w) (A.deeper (envOfC qual scope s.heap.objs.size f cd)) (leaving (envOfC qual scope s.heap.objs.size f cd) e) (fun _ s''=>CX outer H s E e s'') (fun e' s''=>CX outer H s E e' s'') s'
theorem aBO{sc:Scope}{n:Nat}{x:Str}(h:sc.names.lookup x=some .cell):∃c,(cellsFrom n sc.names []).lookup x=some c:=by
 have q:=aO8 sc.names n [] (.inl h)
 exact cP.mp q
theorem aF1{P:Program}{w:World}{K:aO}{cd:Value}{A:Around}{outer:List Env}{s s1:Shared}{H:Hp}{E:XK}{us:List Value}{vs:List V}
 (S:qX N ps scope)(hd:A.handled=none)(e0:Env0 P w K mg base A outer s H)(hl:vs.length=ps.length)(r:Vals vs us)
 (x:InCallC s s.heap.objs.size (bindL (envOfC qual scope s.heap.objs.size f cd).kindOf (ps.zip us) fun _=>none) (cellsFrom (s.heap.objs.size+1) scope.names []) (bindC (envOfC qual scope s.heap.objs.size f cd).kindOf (ps.zip us) fun _=>none) s1):
 Inv (aBf CX P w K mg base N qual scope f cd A outer s H E) [] (start N vs) H s1:=by
 have hpl:ps.length<=N.length:=by have:=congrArg aPM S.pre;rw[d4]at this;lia
 obtain⟨h1,tk,rfl,hk⟩:=x.done;have noA:∀b:Addr,b∉(aBf CX P w K mg base N qual scope f cd A outer s H E).ex:=fun b z=>absurd (show b∈([]:List Addr)from z) (by simp)
 refine⟨⟨e0.mod,S.kind,rfl,rfl,bI _,fun y z c h1 h2=>?_,fun y hy=>?_,fun y c _ h=>?_,fun _=>hd,Around.frames_deeper e0.frames,.inr ⟨rfl,rfl⟩,fun b z=>absurd z (noA b),e0.bs,e0.bsz,fun b _ _=>noA b,fun b z=>absurd z (noA b),e0.funs,e0.frf⟩,
  rfl,e0.bare,Un.kept hk,⟨_,x.toInCall.ns,fun i y v h1 h2 h3=>?_⟩,fun y c h=>⟨_,x.cell y c h⟩,e0.hok.fresh (bI _),fun y c h=>?_,fun p hp=>absurd (show p∈([]:List (Addr×Obj))from hp) (by simp),e0.hok.kept hk,?_⟩
 ·exact name_of_addr x.apart (PySem.mem_of_lookup h1) (PySem.mem_of_lookup h2)
 ·have hy:scope.names.lookup y=some .cell\/scope.names.lookup y=some .free:=hy;rcases hy with hy|hy
  ·exact aBO hy
  ·exact absurd rfl (S.nofree _ (PySem.mem_of_lookup hy))
 ·exact aPB (x.above y c (PySem.mem_of_lookup h))
 ·have hi:i<vs.length:=by
   unfold start at h2;by_cases hi:i<vs.length
   ·exact hi
   ·rw[bH (by simpa using hi)]at h2;rw[cM]at h2;split at h2<;>cases h2
  have ha:vs[i]?=some v:=by
   unfold start at h2;rw[aY (by simpa using hi),bJ]at h2;cases e:vs[i]?with
   |none=>rw[e]at h2;cases h2
   |some a=>rw[e]at h2;cases h2;rfl
  obtain⟨u,hu,rv⟩:=r.get ha;have hp:ps[i]?=some y:=by
   rw[<-S.pre,cZ (by lia)];exact h1
  have ndP:ps.Nodup:=by rw[<-S.pre];exact S.nd.sublist (List.take_sublist _ _)
  refine⟨u,rv,?_⟩
  rcases S.par y (bB hp)with k|k
  ·exact .inl ⟨k,zP ndP hp hu k⟩
  ·obtain⟨c,e⟩:=aBO (n:=s.heap.objs.size+1) k
   refine .inr ⟨.inl k,c,e,?_⟩
   have q:=x.cell y c e;rw[zZ ndP hp hu (by show scope.names.lookup y≠_;rw[k];decide)]at q
   exact q
 ·exact e0.hok.fresh (aPB (x.above y c (PySem.mem_of_lookup h)))
 ·unfold start;show _=N.length;rw[bC,aR,eN]
  lia
theorem aK9{P:Program}{w:World}{K:aO}{k:Nat}{name:Str}{params:Arguments}{body:List Stmt}{dV kV doc pm cdv ct oc:Value}{an od:Option Addr}
 {osl:Array (Option Value)}{sp:Sp}(lk:K.lookup f=some ⟨oc,od,.func (cK name qual params body scope dV kV doc pm an cdv ct),osl⟩)(hcd:dL K cdv qual=true)(S:qX N ps scope)
 (len:∀vs H Q E,sp vs H Q E->vs.length=ps.length)
 (hbody:∀(A:Around)(outer:List Env)(s:Shared)(H:Hp)(vs:List V)(Q:VK)(E:XK),Room k (A.deeper (envOfC qual scope s.heap.objs.size f cdv))->sp vs H Q E->
  ∃t,PSs (aBf CX P w K mg base N qual scope f cdv A outer s H E) body t/\t {nx:=fun _ H'=>Q .non H',rt:=Q} (start N vs) H):
 mV P w K mg base CX (k+1) f (cK name qual params body scope dV kV doc pm an cdv ct) ps sp:=by
 refine⟨len,fun A outer s H args us vs Q E hr e0 hb r hsp=>?_⟩
 have hl:=len _ _ _ _ hsp;have KX:K.In s.heap:=e0.mod.kin.keeps fun b o e=>(e0.bs b o e).1
 have lim:s.heap.NoLimit:=e0.mod.nolimit.keeps fun b o e=>(e0.bs b o e).1
 have hkind:∀y∈ps.zip us,scope.names.lookup y.1=some .local\/(scope.names.lookup y.1=some .cell/\((cellsFrom (s.heap.objs.size+1) scope.names []).lookup y.1).isSome=true):=fun⟨n,v⟩ hy=>by
  rcases S.par n (aPd hy).1 with q|q
  ·exact .inl q
  ·exact .inr ⟨q,aO8 _ _ _ (.inl q)⟩
 refine codeAny_call_function hr.depth (KX _ _ lk) rfl S.co S.gen rfl (PySem.W.codeRec_of KX hcd) (hb _ _ _ _ ?_)
 refine wpAny_newFunctionEnv_cells S.kind hkind fun env he s1 x=>?_
 subst he
 refine⟨lim.keeps x.toInCall.keep,codeAny_func ?_⟩
 obtain⟨t,ht,hq⟩:=hbody A outer s H vs Q E (hr.deeper _) hsp;have I:Inv (aBf CX P w K mg base N qual scope f cdv A outer s H E) [] (start N vs) H s1:=aF1 S hr.hd e0 hl r x
 refine wpAny_mono (ht [] s1 (start N vs) H _ I hq) (fun fl s' hs=>?_) fun e s' hs=>hs
 have fin:∀{σ':St}{H':Hp}{v:V}{u:Value},Inv (aBf CX P w K mg base N qual scope f cdv A outer s H E) [] σ' H' s'->RelV v u->Q v H'->CE outer P w H s Q u s':=
  fun {σ' H' v u} J rv q=>⟨v,H',J.os,J.bare,J.base,J.hok,rv,q⟩
 cases fl with
 |ret u=>
  obtain⟨v,σ',H',J,rv,q⟩:=hs
  exact fin J rv q
 |next=>
  obtain⟨σ',H',J,q⟩:=hs
  exact fin (v:=V.non) (u:=Value.none) J rfl q
 |brk=>
  obtain⟨_,_,_,q⟩:=hs
  exact False.elim q
 |cont=>
  obtain⟨_,_,_,q⟩:=hs
  exact False.elim q
section
variable {X:Cx}{x:Str}{p pos:Pos}{e:Expr}{es:List Expr}{t:TA}{id T:String}{r:List V->Hp->VK->Prop}
noncomputable def tCB(r:List V->Hp->VK->Prop)(t:TA):TE:=fun σ H Q=>t σ H fun vs H1=>r vs H1 Q
theorem aB2(hc:nC X (.builtin id) r)(hg:Gl X x)(hm:X.mg x=none)(hv:bootBuiltins x=some (.builtin id))(ha:PA X (e::es) t)(hn:x≠"__name__":=by decide)(hdb:(x==("__debug__":Str))=false:=by decide)
 (he:starEach (e::es) X.env=(false,eval e X.env)::starEach es X.env:=by rfl)(hpl:(backTo pos (starEach es X.env)).any (·.1)=false:=by rfl):PE X (.Call (.Name x p) (e::es) [] pos) (tCB r t):=by
 intro pins s σ H Q I h
 refine wpAny_Call_Name_kw (qH I hg hm hv ?_ hn hdb)
 exact aPH (thn (ha pos pins s σ H _ I h) fun us s1 ⟨vs,H1,I1,r1,q1⟩=>hc pins s1 σ H1 vs us Q I1 r1 q1) he hpl
theorem aAA(hc:nC X (.type T) r)(hg:Gl X x)(hm:X.mg x=none)(hv:bootBuiltins x=some (.type T))(ha:PA X (e::es) t)(hn:x≠"__name__":=by decide)(hdb:(x==("__debug__":Str))=false:=by decide)
 (he:starEach (e::es) X.env=(false,eval e X.env)::starEach es X.env:=by rfl)(hpl:(backTo pos (starEach es X.env)).any (·.1)=false:=by rfl):PE X (.Call (.Name x p) (e::es) [] pos) (tCB r t):=by
 intro pins s σ H Q I h
 refine wpAny_Call_Name_kw (qH I hg hm hv ?_ hn hdb)
 exact c9 (thn (ha pos pins s σ H _ I h) fun us s1 ⟨vs,H1,I1,r1,q1⟩=>hc pins s1 σ H1 vs us Q I1 r1 q1) he hpl
end
end L2
namespace HT
open PySem PyProof.Rows
section
open PySem.SeqAt
open PySem.AutoSeq1 (wpAny_loadPart')
open PySem.MeetsSeq PySem.MeetsSeq2 PySem.MeetsSeq3
end
section
variable {prog:Program}{w:World}{A:Around}{E:Value->Shared->Prop}{s:Shared}
noncomputable def sIx(n d:Nat):Option Int->Nat
 |none=>d
 |some v=>if v<0 then(v+(n:Int)).toNat else min v.toNat n
theorem aCJ(n d:Nat):sIx n d none=d:=rfl
end
end HT
namespace L2
open PySem PySem.Spec PyProof.Rows
abbrev TO:=St->Hp->(Option Int->Hp->Prop)->Prop
def PO(X:Cx)(e:Option Expr)(t:TO):Prop:=
 ∀(pins:List (Addr×Obj))(s:Shared)(σ:St)(H:Hp)(Q:Option Int->Hp->Prop),Inv X pins σ H s->t σ H Q->
  wpAny (model X.prog X.w) X.A (evalPart e X.env) (fun u s'=>∃o H',Inv X pins σ H' s'/\IsPart u o/\Q o H') X.xe s
noncomputable def tNoPart:TO:=fun _ H Q=>Q none H
noncomputable def tPart(t:TE):TO:=fun σ H Q=>t σ H fun x H1=>∃i,x=.int i/\Q (some i) H1
theorem oN{ns:List Int}:∀{us:List Value},Vals (ns.map V.int) us->IntsAre us ns:=by
 induction ns with
 |nil=>intro us r;rw[bD]at r;cases r;exact .nil
 |cons n ns ih=>
  intro us r;rw[aM]at r;cases r with
  |cons r1 r2=>
   obtain⟨t,e⟩:=r1;subst e
   exact .cons n t (ih r2)
section
variable {X:Cx}{e:Expr}{te:TE}{lo hi:Option Expr}{tl th:TO}{pos p2:Pos}
theorem aIP:PO X none tNoPart:=by
 intro pins s σ H Q I h;rw[evalPart_none]
 exact wpAny_pure ⟨none,H,I,.none,h⟩
theorem aBj(h:PE X e te):PO X (some e) (tPart te):=by
 intro pins s σ H Q I hw;rw[evalPart_some]
 refine thn (h pins s σ H _ I hw) fun u s1 zz=>?_
 obtain⟨x,H1,I1,r1,q1⟩:=zz;obtain⟨i,rfl,q⟩:=q1;obtain⟨t,rfl⟩:=r1
 exact⟨some i,H1,I1,.int i t,q⟩
def SlR(X:Cx)(r:V->Option Int->Option Int->Hp->VK->Prop):Prop:=
 ∀(pins:List (Addr×Obj))(s:Shared)(σ:St)(H:Hp)(x:V)(v vl vu:Value)(lo hi:Option Int)(sl:Addr)(Q:VK),Inv X pins σ H s->RelV x v->s.heap.IsSliceOf sl vl vu .none->IsPart vl lo->IsPart vu hi->r x lo hi H Q->
  ∃T id,typeLookup (.type T) "__getitem__"=pure (some (.builtin id))/\s.TypeIs v T/\wpAny (model X.prog X.w) X.A (getItem v (.ref sl)) (EP X pins σ Q) X.xe s
noncomputable def tSl(r:V->Option Int->Option Int->Hp->VK->Prop)(te:TE)(tl th:TO):TE:=fun σ H Q=>te σ H fun x H1=>tl σ H1 fun l H2=>th σ H2 fun u H3=>r x l u H3 Q
theorem aGj{r:V->Option Int->Option Int->Hp->VK->Prop}(hr:SlR X r)(he:PE X e te)(hl:PO X lo tl)(hu:PO X hi th):PE X (.Subscript e (.Slice lo hi none p2) pos) (tSl r te tl th):=by
 intro pins s σ H Q I h
 refine Subscript_ (thn (he pins s σ H _ I h) fun v s1 zz=>?_)
 obtain⟨x,H1,I1,r1,q1⟩:=zz
 refine wpAny_Slice (thn (hl pins s1 σ H1 _ I1 q1) fun vl s2 ⟨l,H2,I2,pl,q2⟩=>thn (hu pins s2 σ H2 _ I2 q2) fun vu s3 zz=>?_)
 obtain⟨u,H3,I3,pu,q3⟩:=zz;rw[evalPart_none]
 refine wpAny_pure ?_
 have I4:Inv X pins σ H3 {s3 with heap:=s3.heap.push {cls:=.type "slice",data:=.fields #[vl,vu,.none]}}:=I3.kept (t':=s3.toks) fun b ob q=>Heap.get?_push_of_some _ q
 obtain⟨T,id,hT,ht,hg⟩:=hr pins {s3 with heap:=s3.heap.push {cls:=.type "slice",data:=.fields #[vl,vu,.none]}} σ H3 x v vl vu l u s3.heap.objs.size Q I4 r1 (Heap.IsSliceOf.new ..) pl pu q3;show wpAny (model X.prog X.w) X.A (subscriptTail e (.Slice lo hi none p2) v (.ref s3.heap.objs.size)) (EP X pins σ Q) X.xe {s3 with heap:=s3.heap.push {cls:=.type "slice",data:=.fields #[vl,vu,.none]}}
 exact tail_any (ops:=[.ref s3.heap.objs.size,v]) ht hT hg (by with_unfolding_all rfl)
def aFq(xs:List V)(lo hi:Option Int):List V:=(xs.drop (HT.sIx xs.length 0 lo)).take (HT.sIx xs.length xs.length hi - HT.sIx xs.length 0 lo)
theorem aCi(xs:List V)(lo hi:Option Int):(aFq xs lo hi).length<=xs.length:=by
 unfold aFq;rw[d4,aO4]
 lia
end
variable{i:Int}{j:Nat}{α:Type}
noncomputable def ixN(n:Nat)(i:Int):Option Nat:=if 0<=i then(if i<n then some i.toNat else none)else if -(n:Int)<=i then some (i+n).toNat else none
def atI{α:Type}(xs:List α)(i:Int):Option α:=(ixN xs.length i).bind fun j=>xs[j]?
theorem aEp{n:Nat}(h:ixN n i=some j):seqIndex? i n=some j/\j<n/\ -(n:Int)<=i/\i<n:=by
 unfold ixN at h;by_cases h0:0<=i
 ·rw[if_pos h0]at h;by_cases h1:i<n
  ·rw[if_pos h1]at h;have e:i.toNat=j:=cN.inj h
   exact⟨by rw[seqIndex_of h0 h1,e],by lia,by lia,h1⟩
  ·rw[if_neg h1]at h;cases h
 ·rw[if_neg h0]at h;by_cases h1: -(n:Int)<=i
  ·rw[if_pos h1]at h;have e:(i+n).toNat=j:=cN.inj h
   exact⟨by rw[seqIndex_neg (by lia) h1,e],by lia,h1,by lia⟩
  ·rw[if_neg h1]at h;cases h
theorem aA1{xs:List α}{v:α}(h:atI xs i=some v):∃j,seqIndex? i xs.length=some j/\xs[j]?=some v/\j<xs.length/\ -(xs.length:Int)<=i/\i<xs.length:=by
 unfold atI at h;cases e:ixN xs.length i with
 |none=>rw[e]at h;cases h
 |some j=>
  rw[e]at h;obtain⟨h1,h2,h3,h4⟩:=aEp e
  exact⟨j,h1,h,h2,h3,h4⟩
theorem aER{xs:List α}{v:α}(h:xs[j]?=some v):atI xs (j:Int)=some v:=by
 have hj:j<xs.length:=(aP.mp h).1;have e:ixN xs.length (j:Int)=some j:=by
  unfold ixN;rw[if_pos (by lia),if_pos (by lia)];simp
 unfold atI;rw[e];exact h
def PlainIx(b:Expr):Prop:=∀o i,subscripted b false o i=operate [o,i] (getItem o i)
def IxR(X:Cx)(r:R2):Prop:=
 ∀(value slice:Expr)(pins:List (Addr×Obj))(s:Shared)(σ:St)(H:Hp)(x y:V)(v u:Value)(Q:VK),Inv X pins σ H s->RelV x v->RelV y u->r x y H Q->
  subscripted slice false v u=operate [v,u] (getItem v u)->wpAny (model X.prog X.w) X.A (subscriptTail value slice v u) (EP X pins σ Q) X.xe s
def MtR(X:Cx)(id:String)(r:V->List V->Hp->VK->Prop):Prop:=
 ∀(pins:List (Addr×Obj))(s:Shared)(σ:St)(H:Hp)(x:V)(xs:List V)(v:Value)(us:List Value)(Q:VK),Inv X pins σ H s->RelV x v->Vals xs us->r x xs H Q->
  wpAny (model X.prog X.w) X.A (call (.builtin id) (v::us)) (EP X pins σ Q) X.xe s
section
variable {X:Cx}{a b:Expr}{ta tb:TE}{pos:Pos}
variable{r:R2}{pins:List (Addr×Obj)}{σ:St}{H:Hp}{s:Shared}{p:Addr}{xs:List V}{x:V}{v:Value}
theorem IxR.or{r':R2}(h:IxR X r)(h':IxR X r'):IxR X (fun x y H Q=>r x y H Q\/r' x y H Q):=by
 intro value slice pins s σ H x y v u Q I rx ry q hs;rcases q with q|q
 ·exact h value slice pins s σ H x y v u Q I rx ry q hs
 ·exact h' value slice pins s σ H x y v u Q I rx ry q hs
theorem aNU(hr:IxR X r)(ha:PE X a ta)(hb:PE X b tb)(hs:PlainIx b):PE X (.Subscript a b pos) (tOp r ta tb):=by
 intro pins s σ H Q I h
 exact Subscript_ (aLV ha hb I h fun v u s2 x y H2 I2 rx ry q=>hr a b pins s2 σ H2 x y v u Q I2 rx ry q (hs _ _))
def rIxL(K:aO):R2:=fun x y H Q=>∃p xs i v,x=.ref p/\y=.int i/\SqL K H p xs/\atI xs i=some v/\Q v H
def rIxT(K:aO):R2:=fun x y H Q=>∃p xs i v,x=.ref p/\y=.int i/\SqT K H p xs/\atI xs i=some v/\Q v H
def rIxS:R2:=fun x y H Q=>∃z i c,x=.str z/\y=.int i/\z.length<=sizeLine/\atI z.cps.toList i=some c/\Q (.str ⟨#[c]⟩) H
theorem aJr:IxR X (rIxL X.K):=by
 intro value slice pins s σ H x y v u Q I rx ry h hs;obtain⟨p,xs,i,z,rfl,rfl,hq,he,q⟩:=h;cases rx;obtain⟨t,rfl⟩:=ry;obtain⟨its,r,pl,hz⟩:=I.list hq;obtain⟨j,h1,h2,h3,h4,h5⟩:=aA1 he;obtain⟨w,ew,rw'⟩:=r.get h2;have hl:=r.length;have hn:=line63;have fin:EP X pins σ Q w s:=⟨z,H,I,rw',q⟩;by_cases h0:0<=i
 ·have hj:i.toNat=j:=by
   rw[seqIndex_of h0 h5]at h1
   exact cN.inj h1
  exact item_listR pl.isList h0 (by lia) (by rw[hj];simpa using ew) fin hs
 ·have hj:(i+(its.toArray.size:Int)).toNat=j:=by
   rw[seqIndex_neg (by lia) h4]at h1;rw[bG,<-hl]
   exact cN.inj h1
  exact subscriptTail_builtinR (x:=w) pl.isList.typeIs slot_list_getitem.lookup
   (wpAny_getItem_list_neg (Q:=fun r s'=>r=w/\EP X pins σ Q r s') pl.isList (by lia) (by rw[bG]<;>lia) (by lia) (by rw[hj];simpa using ew) ⟨rfl,fin⟩) hs
theorem aNa:IxR X (rIxT X.K):=by
 intro value slice pins s σ H x y v u Q I rx ry h hs;obtain⟨p,xs,i,z,rfl,rfl,hq,he,q⟩:=h;cases rx;obtain⟨t,rfl⟩:=ry;obtain⟨its,r,pl,hz⟩:=I.tuple hq;obtain⟨j,h1,h2,h3,h4,h5⟩:=aA1 he;obtain⟨w,ew,rw'⟩:=r.get h2;have hl:=r.length;have hn:=line63;have fin:EP X pins σ Q w s:=⟨z,H,I,rw',q⟩
 exact subscriptTail_builtinR (x:=w) pl.typeIs slot_tuple_getitem.lookup
  (getItem_tuple (j:=j) (Q:=fun r s'=>r=w/\EP X pins σ Q r s') pl (by lia) (by lia) (by rw[bG,<-hl];exact h1) (by simpa using ew) ⟨rfl,fin⟩) hs
theorem aLQ:IxR X rIxS:=by
 intro value slice pins s σ H x y v u Q I rx ry h hs;obtain⟨z,i,c,rfl,rfl,hz,he,q⟩:=h;obtain⟨t,rfl⟩:=rx;obtain⟨t',rfl⟩:=ry;obtain⟨j,h1,h2,h3,h4,h5⟩:=aA1 he;have hl:z.cps.toList.length=z.length:=by simp[Str.length]
 rw[hl]at h1 h4 h5;have hn:=line63
 exact tail_any (typeIs_str s z t) slot_str_getitem.lookup (getItem_str (c:=c) (by
  have e1:decide (i< -(2^63:Int))=false:=decide_eq_false (by lia);have e2:decide (i>=2^63)=false:=decide_eq_false (by lia);rw[e1,e2,Bool.or_false]) (by rw[h1];simpa using h2) ⟨.str ⟨#[c]⟩,H,I.tok _,⟨_,rfl⟩,q⟩) hs
def rIx(K:aO):R2:=fun x y H Q=>rIxL K x y H Q\/rIxT K x y H Q\/rIxS x y H Q
theorem aLB:IxR X (rIx X.K):=aJr.or (aNa.or aLQ)
theorem aDA(its:List Value)(n j:Nat)(u:Value):Obj.mapSeq (·.setIfInBounds j u) {cls:=.type "list",data:=.seq its.toArray n}={cls:=.type "list",data:=.seq (its.set j u).toArray n}:=by
 simp[Obj.mapSeq]
theorem Inv.lst(I:Inv X pins σ H s)(h:H p=some (.lst xs)):
 ∃(its:List Value)(n:Nat),Vals xs its/\s.heap.get? p=some {cls:=.type "list",data:=.seq its.toArray n}/\xs.length<=sizeLine:=by
 obtain⟨z,its,n,r,e⟩:=I.hok p _ h
 exact⟨its,n,r,e,z⟩
theorem Inv.lstUpd{ys:List V}{its its':List Value}{n n':Nat}{f:Obj->Obj}(I:Inv X pins σ H s)(h:H p=some (.lst xs))
 (ho:s.heap.get? p=some {cls:=.type "list",data:=.seq its.toArray n})(hf:f {cls:=.type "list",data:=.seq its.toArray n}={cls:=.type "list",data:=.seq its'.toArray n'})(r:Vals ys its')(hz:ys.length<=sizeLine)(t:Nat):
 Inv X pins σ (upd H p (.lst ys)) {s with heap:=s.heap.update p f,toks:=t}:=by
 have e:(s.heap.update p f).get? p=some {cls:=.type "list",data:=.seq its'.toArray n'}:=by
  rw[Heap.get?_update_self f ho (by rw[hf]<;>rfl),hf]
 refine I.write (x:=p) (e:=p) (by rw[h];trivial) (.inl rfl) (fun b u hb q=>(Heap.get?_update_other _ _ (Ne.symm hb)).trans q) ⟨_,e⟩ ?_
 exact⟨hz,its',n',r,e⟩
def rSetL:V->V->V->Hp->(Hp->Prop)->Prop:=fun o i v H Q=>∃p xs k j,o=.ref p/\i=.int k/\H p=some (.lst xs)/\ixN xs.length k=some j/\Q (upd H p (.lst (xs.set j v)))
theorem aHV:PSet X rSetL:=by
 intro pins s σ H o i v ov iv u Q I ro ri rv h;obtain⟨p,xs,k,j,rfl,rfl,hp,hj,q⟩:=h;cases ro;obtain⟨t,rfl⟩:=ri;obtain⟨its,n,r,ho,hz⟩:=I.lst hp;obtain⟨h1,h2,h3,h4⟩:=aEp hj;have hl:=r.length;have hn:=line63;have I':Inv X pins σ (upd H p (.lst (xs.set j v))) {s with heap:=s.heap.update p (Obj.mapSeq (·.setIfInBounds j u))}:=
  I.lstUpd hp ho (aDA its n j u) (r.set rv j) (by rw[cL];exact hz) s.toks
 by_cases h0:0<=k
 ·have hk:k.toNat=j:=by
   rw[seqIndex_of h0 h4]at h1
   exact cN.inj h1
  exact PySem.W.ki_setAt ho h0 (by lia) (by rw[bG,<-hl];exact h4) (by rw[hk];exact⟨_,I',q⟩)
 ·have hk:(k+(its.toArray.size:Int)).toNat=j:=by
   rw[seqIndex_neg (by lia) h3]at h1;rw[bG,<-hl]
   exact cN.inj h1
  exact PySem.W.ki_setBack ho (by lia) (by rw[bG,<-hl];exact h3) (by lia) (by rw[hk];exact⟨_,I',q⟩)
theorem aAB(lo hi:Option Int)(n:Nat):(sliceBounds lo hi none n).1=((HT.sIx n 0 lo:Nat):Int)/\(sliceBounds lo hi none n).2.1=((HT.sIx n n hi:Nat):Int)/\(sliceBounds lo hi none n).2.2=1:=by
 refine⟨?_,?_,rfl⟩
 ·cases lo with
  |none=>simp[sliceBounds,HT.sIx]
  |some i=>
   simp only[sliceBounds,HT.sIx,aPI,show(1:Int)>0 by decide,if_true];by_cases h:i<0
   ·simp only[h,if_true]<;>lia
   ·simp only[h,if_false]<;>lia
 ·cases hi with
  |none=>simp[sliceBounds,HT.sIx]
  |some i=>
   simp only[sliceBounds,HT.sIx,aPI,show(1:Int)>0 by decide,if_true];by_cases h:i<0
   ·simp only[h,if_true]<;>lia
   ·simp only[h,if_false]<;>lia
theorem zG(its:List Value)(lo hi:Option Int):slicePick its.toArray lo hi none=((its.drop (HT.sIx its.length 0 lo)).take (HT.sIx its.length its.length hi - HT.sIx its.length 0 lo)).toArray:=by
 obtain⟨h1,h2,h3⟩:=aAB lo hi its.toArray.size;unfold slicePick;rw[h1,h2,h3];simp only[sliceRange_one,pick_run,bG]<;>rfl
def rSlL(K:aO):V->Option Int->Option Int->Hp->VK->Prop:=fun x lo hi H Q=>∃a xs,x=.ref a/\SqL K H a xs/\∀p,H p=none->Q (.ref p) (upd H p (.lst (aFq xs lo hi)))
theorem aJX:SlR X (rSlL X.K):=by
 intro pins s σ H x v vl vu lo hi sl Q I rx hs pl pu h;obtain⟨a,xs,rfl,hx,q⟩:=h;cases rx;obtain⟨its,r,ht,hz⟩:=I.list hx;have hlen:=r.length
 refine⟨"list",_,slot_list_getitem.lookup,ht.isList.typeIs,?_⟩
 refine wpAny_getItem_list_slice ht.isList hs pl pu .none (by simp) ?_ (by rw[bG]<;>lia)
 rw[zG,<-hlen]
 refine⟨.ref s.heap.objs.size,_,I.laid (t':=s.toks) (o:=.lst (aFq xs lo hi)) (fun b ob q=>Heap.get?_push_of_some _ q) (bI _) ?_,rfl,q _ (I.hok.fresh (bI _))⟩
 exact⟨cC (aCi xs lo hi) hz,_,0,(r.drop (HT.sIx xs.length 0 lo)).take (HT.sIx xs.length xs.length hi - HT.sIx xs.length 0 lo),Heap.get?_push_size _ rfl⟩
noncomputable def flatV:V->Bool
 | .non=>true
 | .bl _=>true
 | .int _=>true
 | .str _=>true
 |_=>false
noncomputable def eqV:V->V->Bool
 | .non,.non=>true
 | .bl a,.bl b=>a==b
 | .bl a,.int b=>(if a then 1 else 0)==b
 | .int a,.bl b=>a==(if b then 1 else 0)
 | .int a,.int b=>a==b
 | .str a,.str b=>a==b
 |_,_=>false
theorem aMV{A:Around}{y:V}{u:Value}(ry:RelV y u)(rx:RelV x v)(fy:flatV y=true)(fx:flatV x=true):SeqAt.EqAt A s u v (eqV y x):=by
 cases y with
 |non=>
  cases ry;cases x with
  |non=>cases rx;exact SeqAt.EqAt.same _
  |bl b=>cases rx;exact SeqAt.EqAt.none_bool b
  |int b=>obtain⟨t,rfl⟩:=rx;exact SeqAt.EqAt.none_int b t
  |str b=>obtain⟨t,rfl⟩:=rx;exact SeqAt.EqAt.none_str b t
  |_=>exact absurd (show false=true from fx) bY
 |bl a=>
  cases ry;cases x with
  |non=>cases rx;exact SeqAt.EqAt.bool_none a
  |bl b=>cases rx;exact SeqAt.EqAt.bool_bool a b
  |int b=>obtain⟨t,rfl⟩:=rx;exact SeqAt.EqAt.bool_int a b t
  |str b=>obtain⟨t,rfl⟩:=rx;exact SeqAt.EqAt.bool_str a b t
  |_=>exact absurd (show false=true from fx) bY
 |int a=>
  obtain⟨t',rfl⟩:=ry;cases x with
  |non=>cases rx;exact SeqAt.EqAt.int_none a t'
  |bl b=>cases rx;exact SeqAt.EqAt.int_bool a t' b
  |int b=>obtain⟨t,rfl⟩:=rx;exact SeqAt.EqAt.int_int a t' b t
  |str b=>obtain⟨t,rfl⟩:=rx;exact SeqAt.EqAt.int_str a t' b t
  |_=>exact absurd (show false=true from fx) bY
 |str a=>
  obtain⟨t',rfl⟩:=ry;cases x with
  |non=>cases rx;exact SeqAt.EqAt.str_none a t'
  |bl b=>cases rx;exact SeqAt.EqAt.str_bool a t' b
  |int b=>obtain⟨t,rfl⟩:=rx;exact SeqAt.EqAt.str_int a t' b t
  |str b=>obtain⟨t,rfl⟩:=rx;exact SeqAt.EqAt.str_str a t' b t
  |_=>exact absurd (show false=true from fx) bY
 |_=>exact absurd (show false=true from fy) bY
theorem aBA:nC X (.builtin "len") (fun xs H Q=>∃p ys,xs=[.ref p]/\(SqL X.K H p ys\/SqT X.K H p ys)/\Q (.int ys.length) H):=by
 intro pins s σ H xs us Q I r h;obtain⟨p,ys,rfl,hq,q⟩:=h;obtain⟨u,rfl,rx⟩:=vals1 r;cases rx;have hn:=line63;rcases hq with hq|hq
 ·obtain⟨its,r',pl,hz⟩:=I.list hq;have hlen:=r'.length
  exact Calls.call_len_list pl.isList (by simp only[bG]<;>lia) ⟨.int ys.length,H,I.tok _,⟨s.toks+1,by rw[bG,hlen]⟩,q⟩
 ·obtain⟨its,r',pl,hz⟩:=I.tuple hq;have hlen:=r'.length
  exact len_tuple pl (by simp only[bG]<;>lia) ⟨.int ys.length,H,I.tok _,⟨s.toks+1,by rw[bG,hlen]⟩,q⟩
theorem aBg:nC X (.type "list") (fun xs H Q=>∃p ys,xs=[.ref p]/\(SqL X.K H p ys\/SqT X.K H p ys)/\∀l,H l=none->Q (.ref l) (upd H l (.lst ys))):=by
 intro pins s σ H xs us Q I r h;obtain⟨p,ys,rfl,hq,q⟩:=h;obtain⟨u,rfl,rx⟩:=vals1 r;cases rx;have fin:∀(its:List Value),Vals ys its->ys.length<=sizeLine->∀(h':Heap)(c':Nat),(∀b o',s.heap.get? b=some o'->h'.get? b=some o')->
  h'.get? s.heap.objs.size=some {cls:=.type "list",dict:=none,data:=.seq its.toArray c',slots:=#[]}->EP X pins σ Q (.ref s.heap.objs.size) {s with heap:=h'}:=fun its r' hz h' c' kp e=>
  ⟨.ref s.heap.objs.size,_,I.laid (t':=s.toks) kp (bI _) (show jU X.prog X.w _ h' _ (.lst ys)from⟨hz,its,c',r',e⟩),rfl,q _ (I.hok.fresh (bI _))⟩
 rcases hq with hq|hq
 ·obtain⟨its,r',pl,hz⟩:=I.list hq;have hlen:=r'.length;obtain⟨o,ho,hc,n,hd⟩:=pl.isList
  exact call_list_seq p (.inl rfl) ho hc hd (fun h' c' kp e=>fin its r' hz h' c' kp e) (by simp only[bG]<;>lia)
 ·obtain⟨its,r',pl,hz⟩:=I.tuple hq;have hlen:=r'.length;obtain⟨o,ho,hc,n,hd⟩:=pl
  exact call_list_seq p (.inr rfl) ho hc hd (fun h' c' kp e=>fin its r' hz h' c' kp e) (by simp only[bG]<;>lia)
def tyV(K:aO)(T:String)(x:V)(H:Hp):Prop:=match x with
 | .str _=>T="str"
 | .int _=>T="int"
 | .ref p=>(T="list"/\∃xs,SqL K H p xs)\/(T="tuple"/\∃o,K.lookup p=some o/\o.cls=.type "tuple"/\o.dict=none)\/
  (T="dict"/\((∃kvs,H p=some (.dK kvs))\/∃kvs,H p=some (.dT kvs)))\/(T="set"/\∃S n,H p=some (.set S n))
 |_=>False
theorem aLJ{T:String}(I:Inv X pins σ H s)(r:RelV x v)(ty:tyV X.K T x H):
 s.TypeIs v T/\∀a,v=.ref a->∃ob,s.heap.get? a=some ob/\ob.dict=none:=by
 cases x with
 |str z=>
  obtain⟨t,rfl⟩:=r;cases (show T="str" from ty)
  exact⟨typeIs_str s z t,fun _ e=>nomatch e⟩
 |int i=>
  obtain⟨t,rfl⟩:=r;cases (show T="int" from ty)
  exact⟨typeIs_int s i t,fun _ e=>nomatch e⟩
 |ref p=>
  cases r;rcases ty with⟨rfl,xs,hq⟩| ⟨rfl,o,hk,hc,hd⟩| ⟨rfl,hk⟩| ⟨rfl,S,n,hk⟩
  ·obtain⟨its,_,pl,_⟩:=I.list hq
   refine⟨pl.isList.typeIs,fun a e=>?_⟩
   cases e;obtain⟨o,n,e,c,hd,_⟩:=pl
   exact⟨o,e,hd⟩
  ·refine⟨⟨o,I.kIn p o hk,hc⟩,fun a e=>?_⟩
   cases e
   exact⟨o,I.kIn _ o hk,hd⟩
  ·have z:∃o,s.heap.get? p=some o/\o.ExactDict:=by
    rcases hk with⟨kvs,hk⟩| ⟨kvs,hk⟩
    ·obtain⟨_,_,_,_,o,_,_,e,ex,_⟩:=I.hok p _ hk
     exact⟨o,e,ex⟩
    ·obtain⟨_,_,_,_,o,_,_,e,ex,_⟩:=I.hok p _ hk
     exact⟨o,e,ex⟩
   obtain⟨o,e,ex⟩:=z
   refine⟨⟨o,e,ex.1⟩,fun a e2=>?_⟩
   cases e2
   exact⟨o,e,ex.2.1⟩
  ·obtain⟨o,_,_,_,e,ex,_⟩:=I.hok p _ hk
   refine⟨⟨o,e,ex.1⟩,fun a e2=>?_⟩
   cases e2
   exact⟨o,e,ex.2.1⟩
 |_=>exact False.elim ty
noncomputable def tBM(K:aO)(T:String)(r:V->List V->Hp->VK->Prop)(to:TE)(t:TA):TE:=fun σ H Q=>to σ H fun x H1=>tyV K T x H1/\t σ H1 fun xs H2=>r x xs H2 Q
variable {o e:Expr}{es:List Expr}{to:TE}{t:TA}{name:Str}{apos cpos:Pos}{T id:String}{r:V->List V->Hp->VK->Prop}
theorem aLm(pa:PlainAttrs T)(slot:Slot T name id)(hty:typeOf (.builtin id)=pure (.type "method_descriptor"))(hm:MtR X id r)(ho:PE X o to)(ha:PA X (e::es) t)
 (hbase:attributeBase o name X.env (eval o X.env)=eval o X.env:=by rfl)
 (hfew:((backTo cpos (starEach (e::es) X.env)).all (fun x=> !x.1)&&(backToKw cpos (keywordEach [] X.env)).all (fun x=>x.1.isSome)
  &&decide ((e::es).length+([]:List Keyword).length+(if([]:List Keyword).isEmpty then 0 else 1)<30))=true:=by rfl)
 (hline:(apos.endLine==cpos.line)=true:=by rfl)(hs:starEach (e::es) X.env=(false,eval e X.env)::starEach es X.env:=by rfl)(hplain:(backTo cpos (starEach es X.env)).any (·.1)=false:=by rfl):
 PE X (.Call (.Attribute o name apos) (e::es) [] cpos) (tBM X.K T r to t):=by
 intro pins s σ H Q I h
 refine wpAny_Call_method_late hbase hfew hline rfl (thn (ho pins s σ H _ I h) fun v s1 zz=>?_)
 obtain⟨x,H1,I1,r1,ty,q1⟩:=zz;obtain⟨h1,h2⟩:=aLJ I1 r1 ty
 refine⟨T,id,pa,slot,hty,h1,h2,?_⟩
 have hA:=ha cpos pins s1 σ H1 _ I1 q1;rw[hs]at hA|-
 refine Calls.callWith_builtin (by show(false||(backTo cpos (starEach es X.env)).any (·.1))=false;rw[hplain]<;>rfl) (Calls.evalArgs_plain ?_)
 exact thn hA fun us s2 ⟨vs,H2,I2,r2,q2⟩=>hm pins s2 σ H2 x vs v us Q I2 r1 r2 q2
end
def MtM(X:Cx)(id:String)(r:V->List V->Hp->VK->Prop):Prop:=
 ∀(pins:List (Addr×Obj))(s:Shared)(σ:St)(H:Hp)(x:V)(xs:List V)(v:Value)(us:List Value)(Q:VK),Inv X pins σ H s->RelV x v->Vals xs us->r x xs H Q->
  wpAny (model X.prog X.w) X.A (call (.builtin id) (v::us)) (EP X pins σ Q) X.xe s
theorem Vals.one:∀{x:V}{us:List Value},Vals [x] us->∃u,us=[u]/\RelV x u
 |_,_,.cons r .nil=>⟨_,rfl,r⟩
theorem Vals.two{x y:V}{us:List Value}(h:Vals [x,y] us):∃u v,us=[u,v]/\RelV x u/\RelV y v:=by
 cases h with
 |cons r h=>
  cases h with
  |cons q h=>
   cases h
   exact⟨_,_,rfl,r,q⟩
section
variable {X:Cx}{pins:List (Addr×Obj)}{σ:St}{H:Hp}{s:Shared}{l b:Addr}{xs ys zs:List V}
variable{its:List Value}{t':Nat}
theorem Inv.lset{its':List Value}{n:Nat}{f:Array Value->Array Value}(I:Inv X pins σ H s)(hH:H l=some (.lst xs))
 (e:s.heap.get? l=some {cls:=.type "list",data:=.seq its.toArray n})(hf:f its.toArray=its'.toArray)(hv:Vals ys its')(hz:ys.length<=sizeLine):
 Inv X pins σ (upd H l (.lst ys)) {s with heap:=s.heap.update l (Obj.mapSeq f),toks:=t'}:=by
 have q:=PySem.IsL.update e f;rw[hf]at q
 refine I.write (x:=l) (e:=l) (by rw[hH];exact trivial) (.inl rfl) (fun b' u hb hu=>(Heap.get?_update_other s.heap (Obj.mapSeq f) (Ne.symm hb)).trans hu) ⟨_,q⟩ ?_
 exact⟨hz,its',_,hv,q⟩
theorem Inv.lnew(I:Inv X pins σ H s)(hv:Vals ys its)(hz:ys.length<=sizeLine):
 Inv X pins σ (upd H s.heap.objs.size (.lst ys)) {s with heap:=s.heap.push {cls:=.type "list",data:=.seq its.toArray},toks:=t'}:=
 I.laid (fun _ _ q=>Heap.get?_push_of_some _ q) (bI _) ⟨hz,its,0,hv,Heap.get?_push_size _ rfl⟩
theorem Inv.fresh(I:Inv X pins σ H s):H s.heap.objs.size=none:=I.hok.fresh (bI _)
theorem Inv.lstM(I:Inv X pins σ H s)(hH:H l=some (.lst xs)):xs.length<=sizeLine/\∃(its:List Value)(n:Nat),Vals xs its/\xs.length=its.length/\s.heap.get? l=some {cls:=.type "list",data:=.seq its.toArray n}:=by
 obtain⟨z,its,n,r,e⟩:=I.hok l _ hH
 exact⟨z,its,n,r,r.length,e⟩
end
section
variable {X:Cx}
def rAppend:V->List V->Hp->VK->Prop:=fun x vs H Q=>∃l xs y,x=.ref l/\vs=[y]/\H l=some (.lst xs)/\xs.length<sizeLine/\Q .non (upd H l (.lst (xs++[y])))
theorem aAo:MtM X "list.append" rAppend:=by
 intro pins s σ H x vs v us Q I rx rv h;obtain⟨l,xs,y,rfl,rfl,hH,hz,q⟩:=h;cases rx;obtain⟨u,rfl,ru⟩:=rv.one;obtain⟨z,its,n,r,hl,e⟩:=I.lstM hH
 refine call_meets F.slot_list_append ⟨_,e,rfl⟩ F.entry_list_append (F.args_list_append_2 _ _) (PySem.list_append l its.toArray n u (by rw[bG];lia)) ⟨e,?_⟩
 refine⟨.non,_,I.lset (its':=its++[u]) hH e (by simp) (r.append (.cons ru .nil)) ?_,rfl,q⟩
 rw[bC,List.length_singleton]
 lia
end
section
variable {prog:Program}{w:World}{A:Around}{E:Value->Shared->Prop}{s:Shared}
end
section
variable {X:Cx}
end
end L2
namespace Att
open PySem PySem.W PySem.Calls PyProof.Rows
variable{P:Params}{h:Heap}
theorem vI:∀(ns:List Int)(vs:List Value),WellAll P h vs (ns.map WData.int)->IntsAre vs ns:=by
 intro ns;induction ns with
 |nil=>
  intro vs w;rw[bD]at w;cases w
  exact .nil
 |cons n ns ih=>
  intro vs w;rw[aM]at w;cases w with
  |cons a b=>
   cases a
   exact .cons _ _ (ih _ b)
theorem aFW{l:OpenLaw}{n:Nat}(hn:l.most=some n){args:List WData}{vals:List Value}
 (hpre:l.row.toRowW.claim.pre args=true)(hwl:WellAll P h vals args):
 ∃a vs ns,vals=[Value.ref a]/\args=[WData.list (ns.map WData.int)]/\h.get? a=some {cls:=.type "list",data:=.seq vs.toArray}/\IntsAre vs ns/\ns.length<=n:=by
 have hsh:WShape.hasAll [] args [.list .int]=true:=(pre_splitW hpre).1;have hc:l.pre.holds [] {args:=args}=true:=(pre_splitW hpre).2;obtain⟨d,r,rfl,h1,h2⟩:=hasAllW_cons hsh;obtain rfl:=hasAllW_nil h2;obtain⟨xs,rfl,h3⟩:=hasW_list h1;obtain⟨ns,rfl⟩:=items_int h3;have hlen:ns.length<=n:=by
  unfold OpenLaw.pre at hc;have h4:(WTm.not (.lt (.lit (.int (n:Int))) (.len (.arg 0)))).holds [] {args:=[.list (ns.map .int)]}=true:=by
   have h4:=(holds_andW hc).1;rw[hn]at h4
   exact h4
  have h5:=condW_of h4 (w_not (w_lt w_lit (w_len_list (w_arg rfl))));rw[aR]at h5
  refine aOz fun q=>?_
  have q':(n:Int)<((ns.length:Nat):Int):=by lia
  first
   | (rw[decide_eq_true q']at h5;exact absurd h5 (by decide))
   | (simp at h5;lia)
 cases hwl with
 |cons w1 w2=>
  cases w2;cases w1 with
  |list ho hall=>exact⟨_,_,ns,rfl,rfl,ho,vI ns _ hall,hlen⟩
theorem aFf(l:OpenLaw)(args:List WData):l.row.toRowW.claim.post args (.bool true) args=true:=
 postW_of (r:=l.row.toRowW) (X:=(true==true))
  (show WShape.has [] (.bool true) .bool=true by first|rfl|decide|simp[WShape.has,WShape.arms,WShape.armsAll])
  (show(WTm.eq .res (.lit (.bool true))).value [] {args:=args,res:=some (.bool true),after:=args}=some (.bool (true==true))from w_eq_bool (w_res rfl) w_lit) rfl
section
variable {prog:Program}{w:World}{A:Around}{E:Value->Shared->Prop}{s:Shared}{K:Frag}
end
end Att
namespace L2
open PySem PySem.Spec PyProof.Rows
theorem aAt:∀{vs:List Value}{ns:List Int},IntsAre vs ns->Vals (ns.map V.int) vs
 |_,_,.nil=>.nil
 |_,_,.cons n t h=>.cons ⟨t,rfl⟩ (aAt h)
def Only(H:Hp):Prop:=∀b,H b=none\/∃o xs,H b=some (.frz o (.lst xs))
theorem aG9{P:Program}{w:World}{K:aO}{mg mb:Str->Option Value}{CX:CXT}{k:Nat}{fa a:Addr}{fd:FuncData}{x:Str}{sp:Sp}{s₁:Shared}{vs:List Value}{ns:List Int}
 (KX:K.In s₁.heap)(hns:s₁.heap.Ns mainGlobals mg)(hb:s₁.heap.Ns builtinsNs mb)(hbb:∀x:Str,x≠"__name__"->mb x=bootBuiltins x)(hlim:s₁.heap.NoLimit)(hg:s₁.gens=#[])
 (ha:s₁.heap.get? a=some {cls:=.type "list",data:=.seq vs.toArray})(hi:IntsAre vs ns)(hl:ns.length<=sizeLine)(hr:Room k callerA)
 (F:∀base:Heap,K.In base->base.Ns mainGlobals mg->mV P w K mg base CX k fa fd [x] sp)(hbind:∀(s:Shared)(u:Value),BindsTo s fd ⟨[u],[]⟩ [(x,u)])
 (hsp:∀H:Hp,Only H->SqL K H a (ns.map V.int)->sp [.ref a] H (fun v _=>v=.bl true) fun _ _ _=>False)
 (hCX:∀H e s',CX [] H s₁ (fun _ _ _=>False) e s'->False):
 codeAny (model P w) callerA (.call (.ref fa) ⟨[.ref a],[]⟩) (fun r s'=>r=.ok (.ret (.bool true))/\OldK s₁.heap s'.heap/\s'.os=s₁.os/\AllBare s'.gens) s₁:=by
 have rv:=aAt hi;have lenV:=hi.length;have core:∀H:Hp,Only H->SqL K H a (ns.map V.int)->HOk P w H s₁.heap->(∀b,H b≠none->b=a)->(H a≠none->K.lookup a=none)->
  codeAny (model P w) callerA (.call (.ref fa) ⟨[.ref a],[]⟩) (fun r s'=>r=.ok (.ret (.bool true))/\OldK s₁.heap s'.heap/\s'.os=s₁.os/\AllBare s'.gens) s₁:=by
  intro H hO hS hok hA hK;have base_of:∀{b:Addr}{o:Obj},s₁.heap.get? b=some o->H b=none->(aBo s₁.heap H).get? b=some o:=fun e n=>aHT e n
  have noA:∀{b:Addr}{o:Obj}{es:Array DictEntry}{ep:Nat},s₁.heap.get? b=some o->o.data=.dict es ep->H b=none:=fun {b o es ep} e d=>by
   cases q:H b with
   |none=>rfl
   |some u=>
    have e':b=a:=hA b (by rw[q];simp);subst e';rw[ha]at e;cases e;have d':Data.seq vs.toArray _=Data.dict es ep:=d;cases d'
  have nsK:∀{b:Addr}{m:Str->Option Value},s₁.heap.Ns b m->(aBo s₁.heap H).Ns b m:=fun {b m} ⟨o,es,ep,e,d,r⟩=>⟨o,es,ep,base_of e (noA e d),d,r⟩
  have hKb:K.In (aBo s₁.heap H):=fun b o e=>base_of (KX b o e) (by
   cases q:H b with
   |none=>rfl
   |some u=>
    have e':b=a:=hA b (by rw[q];simp);subst e';rw[hK (by rw[q];simp)]at e;cases e)
  have hM:Mod K mg (aBo s₁.heap H):=⟨hKb,nsK hns,⟨mb,nsK hb,hbb⟩,let ⟨mc,h1,h2⟩:=hlim;⟨mc,nsK h1,h2⟩⟩;have e0:Env0 P w K mg (aBo s₁.heap H) callerA [] s₁ H:=⟨rfl,hM,fun b o e=>aIT e,aPZ (aFK _ _),trivial,fun b hb=>absurd (show b∈([]:List Addr)from hb) (by simp),hok,.of_eq hg⟩
  refine codeAny_mono ((F _ hKb (nsK hns)).run callerA [] s₁ H ⟨[.ref a],[]⟩ [.ref a] [.ref a] _ _ hr e0 (hbind s₁ (.ref a)) (.cons rfl .nil) (hsp H hO hS)) fun r s' h=>?_
  cases r with
  |error e=>exact(hCX H e s' h).elim
  |ok fl=>
   cases fl with
   |next=>exact False.elim h
   |brk=>exact False.elim h
   |cont=>exact False.elim h
   |ret u=>
    obtain⟨v,H',os,bare,un,hok',r',q⟩:=h;have q':v=.bl true:=q;subst q';obtain rfl:u=Value.bool true:=r'
    refine⟨rfl,OldK.of_keep fun b o e=>?_,os,bare⟩
    cases q:H b with
    |none=>exact un.keep b o e q (by intro z;exact absurd (show b∈([]:List Addr)from z) (by simp)) (by simp)
    |some u=>
     rcases hO b with z| ⟨ob,xs,z⟩
     ·rw[q]at z;cases z
     ·have z2:=un.frzs b ob _ z;obtain⟨e1,_⟩:=hok b _ z;obtain⟨e2,_⟩:=hok' b _ z2;rw[e]at e1;cases e1
      exact e2
 cases hk:K.lookup a with
 |some o=>
  have e:=KX a o hk;rw[ha]at e;cases e
  refine core (fun _=>none) (fun _=>.inl rfl) (.inr ⟨_,vs.toArray,_,hk,rfl,rfl,rfl,by rw[bG,lenV];exact hl,by simpa using rv⟩) (fun b u z=>by have z':(none:Option HO)=some u:=z;cases z') (fun b z=>absurd rfl z) fun z=>absurd rfl z
 |none=>
  refine core (fun b=>if b=a then some (.frz {cls:=.type "list",data:=.seq vs.toArray} (.lst (ns.map V.int)))else none) (fun b=>?_) (.inl (.inr ⟨{cls:=.type "list",data:=.seq vs.toArray},if_pos rfl⟩)) (fun b u z=>?_) (fun b z=>?_) fun _=>hk
  ·by_cases hb:b=a
   ·exact .inr ⟨_,_,if_pos hb⟩
   ·exact .inl (if_neg hb)
  ·by_cases hb:b=a
   ·have z':=(if_pos hb).symm.trans z;cases z';subst hb
    exact⟨ha,by rw[aR];exact hl,vs,_,rv,ha⟩
   ·have z':=(if_neg hb).symm.trans z;cases z'
  ·by_cases hb:b=a
   ·exact hb
   ·exact absurd (if_neg hb) z
noncomputable abbrev KOf{K:aO}{h:Heap}(_:K.In h):aO:=K
end L2
namespace L2
open PySem PySem.Spec PyProof.Rows
noncomputable abbrev CX0:CXT:=fun _ _ _ _ _ _=>False
structure Fun(K:aO)(x qual:Str)(st:Stmt)(f:Addr)(fd:FuncData):Prop where
 ex:∃(oc:Value)(od:Option Addr)(kV doc pm:Value)(an:Option Addr)(cdv ct:Value)(osl:Array (Option Value)),
  fd=cK x qual (jX st) (jE st) (gQ st) .none kV doc pm an cdv ct/\K.lookup f=some ⟨oc,od,.func fd,osl⟩/\dL K cdv qual=true
 kp:cF K (.ref f)=true
section
variable {P:Program}{w:World}{K:aO}{mg:Str->Option Value}{base:Heap}
variable{x qual:Str}{st:Stmt}{f:Addr}{fd:FuncData}{ps:List Str}
theorem Fun.ok{N:List Str}{k:Nat}{sp:Sp}(F:Fun K x qual st f fd)(S:qX N ps (gQ st))(len:∀vs H Q E,sp vs H Q E->vs.length=ps.length)
 (hbody:∀(cdv:Value)(A:Around)(outer:List Env)(s:Shared)(H:Hp)(vs:List V)(Q:VK)(E:XK),Room k (A.deeper (envOfC qual (gQ st) s.heap.objs.size f cdv))->sp vs H Q E->
  ∃t,PSs (aBf CX0 P w K mg base N qual (gQ st) f cdv A outer s H E).nox (jE st) t/\t {nx:=fun _ H'=>Q .non H',rt:=Q} (start N vs) H):mV P w K mg base CX0 (k+1) f fd ps sp:=by
 obtain⟨oc,od,kV,doc,pm,an,cdv,ct,osl,rfl,lk,hcd⟩:=F.ex
 refine aK9 lk hcd S len fun A outer s H vs Q E hr hsp=>?_
 obtain⟨t,h,q⟩:=hbody cdv A outer s H vs Q E hr hsp
 exact⟨t,h.nox,q⟩
theorem Fun.binds(F:Fun K x qual st f fd)
 (h:∀(kV doc pm:Value)(an:Option Addr)(cdv ct:Value)(us:List Value),us.length=ps.length->bindArgs (cK x qual (jX st) (jE st) (gQ st) .none kV doc pm an cdv ct) ⟨us,[]⟩=pure (ps.zip us)):Binds K fd ps []:=by
 obtain⟨oc,od,kV,doc,pm,an,cdv,ct,osl,rfl,lk,hcd⟩:=F.ex
 exact .all (h kV doc pm an cdv ct)
theorem aDH{oc:Value}{od an:Option Addr}{osl:Array (Option Value)}{kV doc pm cdv ct:Value}(l:K.lookup f=some ⟨oc,od,.func (cK x qual (jX st) (jE st) (gQ st) .none kV doc pm an cdv ct),osl⟩)
 (c:dL K cdv qual=true)(k:cF K (.ref f)=true):Fun K x qual st f (cK x qual (jX st) (jE st) (gQ st) .none kV doc pm an cdv ct):=⟨⟨oc,od,kV,doc,pm,an,cdv,ct,osl,rfl,l,c⟩,k⟩
end
section
variable {X:Cx}
end
variable{H H':Hp}
def Same(H H':Hp):Prop:=∀b o,H b=some o->H' b=some o
theorem Same.refl(H:Hp):Same H H:=fun _ _ h=>h
theorem Same.trans{H1 H2:Hp}(a:Same H H1)(b:Same H1 H2):Same H H2:=fun c o h=>b c o (a c o h)
theorem Same.free(e:Same H H'){l:Addr}(h:H' l=aQb):H l=aQb:=by
 cases q:H l with
 |none=>rfl
 |some o=>
  rw[e l o q]at h;cases h
theorem Same.seq{K:aO}{a:Addr}{xs:List V}(e:Same H H')(h:SqL K H a xs):SqL K H' a xs:=by
 rcases h with(h| ⟨o,h⟩)|h
 ·exact .inl (.inl (e _ _ h))
 ·exact .inl (.inr ⟨o,e _ _ h⟩)
 ·exact .inr h
end L2
namespace PySem
section
variable {M:Model}{A:Around}{E:Value->Shared->Prop}
variable {nm q:Str}{C N:Addr}{bs bm:List Value}{hdct:Bool}{sn:List Str}{sub:List Value}{ab:Bool}{col:Option Bool}{dd:Option Addr}{k0 k1 k2 k3 k5:Option Value}{newId:String}
variable {nm' q':Str}{D N':Addr}{bs' bm':List Value}{hdct':Bool}{sn':List Str}{sub':List Value}{ab':Bool}{col':Option Bool}{dd':Option Addr}{k0' k1' k2' k3' k5':Option Value}{newId':String}
end
end PySem
namespace TL
open PySem L2
variable{H:Hp}{Z:Addr->Prop}{ρ:Rho}{a:Addr}{o:HO}
inductive T where
 |non|bl (b:Bool)|int (i:Int)|str (x:Str)|lst (xs:List T)|tup (xs:List T)|cell (c:Nat)|exc (c:String)
noncomputable abbrev TSt:=List (Option T)
inductive Kd where
 |l|o (cls:String) (ns:List Str)|dk (ks:List Key)|dt (ks:List (List Key))|dz (ks:List (List Key))
noncomputable abbrev Cl:=Kd×List T
abbrev Sto:=List Cl
noncomputable abbrev Rho:=List Addr
open Classical in
noncomputable def mask(H:Hp)(Z:Addr->Prop)(ρ:Rho):Hp:=fun a=>if Z a\/a∈ρ then none else H a
theorem lK:mask H Z ρ a=some o↔¬Z a/\a∉ρ/\H a=some o:=by
 unfold mask;constructor
 ·intro h;split at h
  ·cases h
  ·rename_i q
   exact⟨fun z=>q (.inl z),fun z=>q (.inr z),h⟩
 ·rintro⟨h1,h2,h3⟩;rw[if_neg (by
   rintro(z|z)
   ·exact h1 z
   ·exact h2 z)]
  exact h3
theorem mF(h1:¬Z a)(h2:a∉ρ)(h3:H a=some o):mask H Z ρ a=some o:=lK.mpr ⟨h1,h2,h3⟩
theorem nY:Same (mask H Z ρ) H:=fun a o h=>(lK.mp h).2.2
noncomputable def exO(a C:Addr):HO:=.ext fun h=>∃ob,h.get? a=some ob/\ob.cls=.ref C
mutual
def RT(K:aO)(M:Hp)(ρ:Rho):T->V->Prop
 | .non,v=>v=.non
 | .bl b,v=>v=.bl b
 | .int i,v=>v=.int i
 | .str x,v=>v=.str x
 | .lst ts,v=>∃a vs,v=.ref a/\SqL K M a vs/\RTs K M ρ ts vs
 | .tup ts,v=>∃a vs,v=.ref a/\M a=some (.tup vs)/\RTs K M ρ ts vs
 | .cell c,v=>∃a,v=.ref a/\ρ[c]?=some a
 | .exc c,v=>∃a C,v=.ref a/\bU K mainGlobals (Str.ofString c)=some (some (.ref C))/\M a=some (exO a C)
def RTs(K:aO)(M:Hp)(ρ:Rho):List T->List V->Prop
 | [],vs=>vs=[]
 |t::ts,vs=>∃v r,vs=v::r/\RT K M ρ t v/\RTs K M ρ ts r
end
theorem Same.tseq{K:aO}{H H':Hp}{a:Addr}{xs:List V}(e:Same H H')(h:SqT K H a xs):SqT K H' a xs:=by
 rcases h with(h| ⟨o,h⟩)|h
 ·exact .inl (.inl (e _ _ h))
 ·exact .inl (.inr ⟨o,e _ _ h⟩)
 ·exact .inr h
theorem aJE{ρ e:Rho}{c:Nat}{a:Addr}(h:ρ[c]?=some a):(ρ++e)[c]?=some a:=by
 rw[aY (aP.mp h).1];exact h
section
variable {K:aO}{M M':Hp}{ρ ρ':Rho}
mutual
theorem RT.mono(s:Same M M')(p:∀(c:Nat)(a:Addr),ρ[c]?=some a->ρ'[c]?=some a):∀{t:T}{v:V},RT K M ρ t v->RT K M' ρ' t v
 | .non,_,h=>by unfold RT at*;exact h
 | .bl _,_,h=>by unfold RT at*;exact h
 | .int _,_,h=>by unfold RT at*;exact h
 | .str _,_,h=>by unfold RT at*;exact h
 | .lst ts,v,h=>by
   unfold RT at*;obtain⟨a,vs,e,q,r⟩:=h
   exact⟨a,vs,e,s.seq q,RTs.mono s p r⟩
 | .tup ts,v,h=>by
   unfold RT at*;obtain⟨a,vs,e,q,r⟩:=h
   exact⟨a,vs,e,s _ _ q,RTs.mono s p r⟩
 | .cell c,v,h=>by
   unfold RT at*;obtain⟨a,e,q⟩:=h
   exact⟨a,e,p c a q⟩
 | .exc c,v,h=>by
   unfold RT at*;obtain⟨a,C,e,q,r⟩:=h
   exact⟨a,C,e,q,s _ _ r⟩
theorem RTs.mono(s:Same M M')(p:∀(c:Nat)(a:Addr),ρ[c]?=some a->ρ'[c]?=some a):∀{ts:List T}{vs:List V},RTs K M ρ ts vs->RTs K M' ρ' ts vs
 | [],_,h=>by unfold RTs at*;exact h
 |t::ts,vs,h=>by
  unfold RTs at*;obtain⟨v,r,e,h1,h2⟩:=h
  exact⟨v,r,e,RT.mono s p h1,RTs.mono s p h2⟩
end
variable{t:T}{ts:List T}{v:V}{vs:List V}
theorem RTs.nil:RTs K M ρ [] []:=by unfold RTs;rfl
theorem RTs.cons(h:RT K M ρ t v)(hs:RTs K M ρ ts vs):RTs K M ρ (t::ts) (v::vs):=by
 unfold RTs;exact⟨v,vs,rfl,h,hs⟩
theorem RTs.nil_inv(h:RTs K M ρ [] vs):vs=[]:=by unfold RTs at h;exact h
theorem RTs.cons_inv(h:RTs K M ρ (t::ts) vs):∃v r,vs=v::r/\RT K M ρ t v/\RTs K M ρ ts r:=by unfold RTs at h;exact h
theorem RTs.length:∀{ts:List T}{vs:List V},RTs K M ρ ts vs->vs.length=ts.length
 | [],_,h=>by rw[h.nil_inv];rfl
 |t::ts,vs,h=>by
  obtain⟨v,r,rfl,_,h2⟩:=h.cons_inv;simp[h2.length]
theorem RTs.get:∀{ts:List T}{vs:List V}{i:Nat}{t:T},RTs K M ρ ts vs->ts[i]?=some t->∃v,vs[i]?=some v/\RT K M ρ t v
 | [],_,_,_,_,e=>by simp at e
 |x::ts,vs,0,t,h,e=>by
  obtain⟨v,r,rfl,h1,h2⟩:=h.cons_inv;simp at e;subst e
  exact⟨v,rfl,h1⟩
 |x::ts,vs,i+1,t,h,e=>by
  obtain⟨v,r,rfl,h1,h2⟩:=h.cons_inv;obtain⟨u,q1,q2⟩:=RTs.get (i:=i) h2 (by simpa using e)
  exact⟨u,by simpa using q1,q2⟩
theorem RTs.append:∀{ts us:List T}{vs ws:List V},RTs K M ρ ts vs->RTs K M ρ us ws->RTs K M ρ (ts++us) (vs++ws)
 | [],_,_,_,h,h'=>by rw[h.nil_inv];exact h'
 |t::ts,_,_,_,h,h'=>by
  obtain⟨v,r,rfl,h1,h2⟩:=h.cons_inv
  exact .cons h1 (h2.append h')
theorem RTs.take:∀(n:Nat){ts:List T}{vs:List V},RTs K M ρ ts vs->RTs K M ρ (ts.take n) (vs.take n)
 |0,_,_,_=>by simpa using RTs.nil
 |n+1,[],_,h=>by rw[h.nil_inv];simpa using RTs.nil
 |n+1,t::ts,_,h=>by
  obtain⟨v,r,rfl,h1,h2⟩:=h.cons_inv
  exact .cons h1 (h2.take n)
theorem RTs.drop:∀(n:Nat){ts:List T}{vs:List V},RTs K M ρ ts vs->RTs K M ρ (ts.drop n) (vs.drop n)
 |0,_,_,h=>h
 |n+1,[],_,h=>by rw[h.nil_inv];simpa using RTs.nil
 |n+1,t::ts,_,h=>by
  obtain⟨v,r,rfl,h1,h2⟩:=h.cons_inv
  exact h2.drop n
theorem RTs.set(h0:RT K M ρ t v):∀(n:Nat){ts:List T}{vs:List V},RTs K M ρ ts vs->RTs K M ρ (ts.set n t) (vs.set n v)
 |_,[],_,h=>by rw[h.nil_inv];simpa using RTs.nil
 |0,x::ts,_,h=>by
  obtain⟨u,r,rfl,h1,h2⟩:=h.cons_inv
  exact .cons h0 h2
 |n+1,x::ts,_,h=>by
  obtain⟨u,r,rfl,h1,h2⟩:=h.cons_inv
  exact .cons h1 (h2.set h0 n)
end
variable{H H':Hp}{a:Addr}{K:aO}{ρ ρ':Rho}{Z:Addr->Prop}
def Hob(K:aO):Kd->List V->HO->Prop
 | .l,vs,o=>o=.lst vs
 | .o cls ns,vs,o=>ns.length=vs.length/\∃C dx,bU K mainGlobals (Str.ofString cls)=some (some (.ref C))/\o=.ins C dx (ns.zip vs)
 | .dk ks,vs,o=>ks.length=vs.length/\o=.dK (ks.zip vs)
 | .dt ks,vs,o=>ks.length=vs.length/\o=.dT (ks.zip vs)
 | .dz ks,vs,o=>ks.length=vs.length/\∃ob,o=.frz ob (.dT (ks.zip vs))
def NT:Option HO->Prop
 |some (.tup _)=>False
 |none=>False
 |_=>True
theorem NT.same(s:Same H H')(h:NT (H a)):NT (H' a):=by
 cases e:H a with
 |none=>rw[e]at h;exact False.elim h
 |some o=>rw[s a o e,<-e];exact h
theorem NT.some(h:NT (H a)):H a≠none:=fun z=>by rw[z]at h;exact h
theorem Hob.nt{k:Kd}{vs:List V}{o:HO}(h:Hob K k vs o):NT (some o):=by
 cases k with
 |l=>unfold Hob at h;subst h;trivial
 |o c ns=>unfold Hob at h;obtain⟨_,C,dx,_,rfl⟩:=h;trivial
 |dk ks=>unfold Hob at h;obtain⟨_,rfl⟩:=h;trivial
 |dt ks=>unfold Hob at h;obtain⟨_,rfl⟩:=h;trivial
 |dz ks=>unfold Hob at h;obtain⟨_,ob,rfl⟩:=h;trivial
def nfz:Option HO->Prop
 |some (.frz _ _)=>False
 |_=>True
structure Rel(K:aO)(H₀:Hp)(Z:Addr->Prop)(ρ:Rho)(τ:TSt)(C:Sto)(σ:St)(H:Hp):Prop where
 old:Same H₀ H
 frs:∀a∈ρ,H₀ a=none/\¬Z a
 nd:ρ.Nodup
 zd:∀a,Z a->NT (H a)
 loc:∀(i:Nat)(t:T),τ[i]?=some (some t)->∃v,σ[i]?=some (some v)/\RT K (mask H Z ρ) ρ t v
 cel:∀(c:Nat)(a:Addr),ρ[c]?=some a->∃x vs o,C[c]?=some x/\H a=some o/\Hob K x.1 vs o/\RTs K (mask H Z ρ) ρ x.2 vs
 len:ρ.length=C.length
 lnt:τ.length=σ.length
structure Step(H H':Hp)(ρ ρ':Rho):Prop where
 kept:∀(a:Addr)(o:HO),H a=some o->a∉ρ->a∉ρ'/\H' a=some o
 pre:∃e,ρ'=ρ++e
 fz:∀(a:Addr) ob u,H a=some (.frz ob u)->H' a=some (.frz ob u)
theorem Step.refl:Step H H ρ ρ:=⟨fun a o h n=>⟨n,h⟩,⟨[],by simp⟩,fun _ _ _ h=>h⟩
theorem Step.trans{H1 H2:Hp}{ρ1 ρ2:Rho}(a:Step H H1 ρ ρ1)(b:Step H1 H2 ρ1 ρ2):Step H H2 ρ ρ2:=by
 obtain⟨e,he⟩:=a.pre;obtain⟨f,hf⟩:=b.pre
 exact⟨fun x o h n=>(b.kept x o (a.kept x o h n).2 (a.kept x o h n).1),⟨e++f,by rw[hf,he,cJ]⟩,fun x ob u h=>b.fz x ob u (a.fz x ob u h)⟩
theorem Step.of{e:Rho}(s:Same H H')(h:∀a∈e,H a=none):Step H H' ρ (ρ++e):=
 ⟨fun a o q n=>⟨fun z=>(bM.mp z).elim n (fun z=>by rw[h a z]at q;cases q),s a o q⟩,⟨e,rfl⟩,fun a ob u h=>s a _ h⟩
theorem Step.of0(s:Same H H'):Step H H' ρ ρ:=⟨fun a o q n=>⟨n,s a o q⟩,⟨[],by simp⟩,fun a ob u h=>s a _ h⟩
theorem Step.idx(s:Step H H' ρ ρ'):∀(c:Nat)(a:Addr),ρ[c]?=some a->ρ'[c]?=some a:=fun c a h=>by
 obtain⟨e,he⟩:=s.pre;rw[he];exact aJE h
theorem Step.msk(s:Step H H' ρ ρ')(Z:Addr->Prop):Same (mask H Z ρ) (mask H' Z ρ'):=fun a o h=>by
 obtain⟨h1,h2,h3⟩:=lK.mp h
 exact mF h1 (s.kept a o h3 h2).1 (s.kept a o h3 h2).2
theorem RT.step{t:T}{v:V}(h:RT K (mask H Z ρ) ρ t v)(s:Step H H' ρ ρ'):RT K (mask H' Z ρ') ρ' t v:=h.mono (s.msk Z) s.idx
theorem RTs.step{t:List T}{v:List V}(h:RTs K (mask H Z ρ) ρ t v)(s:Step H H' ρ ρ'):RTs K (mask H' Z ρ') ρ' t v:=h.mono (s.msk Z) s.idx
abbrev SStep(Z:Addr->Prop)(H H':Hp)(ρ ρ':Rho):Prop:=Step H H' ρ ρ'
theorem Step.ss(s:Step H H' ρ ρ'):Step H H' ρ ρ':=s
section
variable {K:aO}{H₀ H H':Hp}{Z:Addr->Prop}{ρ ρ':Rho}{τ:TSt}{C:Sto}{σ:St}
variable{p:Addr}{kd:Kd}{ob:HO}{c:Nat}
theorem Rel.alloc(R:Rel K H₀ Z ρ τ C σ H){o:HO}(hp:H p=none):Rel K H₀ Z ρ τ C σ (upd H p o)/\Step H (upd H p o) ρ ρ:=by
 have sm:Same H (upd H p o):=fun b u h=>by rw[fQ (fun z=>by rw[z,hp]at h;cases h)];exact h
 have st:Step H (upd H p o) ρ ρ:=.of0 sm
 refine⟨⟨R.old.trans sm,R.frs,R.nd,fun a z=>(R.zd a z).same sm,fun i t e=>?_,fun c a e=>?_,R.len,R.lnt⟩,st⟩
 ·obtain⟨v,h1,h2⟩:=R.loc i t e
  exact⟨v,h1,h2.step st⟩
 ·obtain⟨x,vs,ob,h1,h2,h4,h3⟩:=R.cel c a e
  exact⟨x,vs,ob,h1,sm _ _ h2,h4,h3.step st⟩
theorem Rel.fresh_not(R:Rel K H₀ Z ρ τ C σ H)(hp:H p=none):¬Z p/\p∉ρ/\H₀ p=none:=by
 refine⟨fun z=>(R.zd p z).some hp,fun z=>?_,R.old.free hp⟩
 obtain⟨c,hc⟩:=bN.mp z;obtain⟨_,_,_,_,h,_⟩:=R.cel c p hc;rw[hp]at h;cases h
theorem Rel.alloc_lst(R:Rel K H₀ Z ρ τ C σ H){ts:List T}{vs:List V}(hp:H p=none)(h:RTs K (mask H Z ρ) ρ ts vs):
 RT K (mask (upd H p (.lst vs)) Z ρ) ρ (.lst ts) (.ref p):=by
 obtain⟨h1,h2,_⟩:=R.fresh_not hp;unfold RT
 exact⟨p,vs,rfl,.of (mF h1 h2 jC),h.step (R.alloc hp).2⟩
theorem Rel.alloc_tup(R:Rel K H₀ Z ρ τ C σ H){ts:List T}{vs:List V}(hp:H p=none)(h:RTs K (mask H Z ρ) ρ ts vs):
 RT K (mask (upd H p (.tup vs)) Z ρ) ρ (.tup ts) (.ref p):=by
 obtain⟨h1,h2,_⟩:=R.fresh_not hp;unfold RT
 exact⟨p,vs,rfl,(mF h1 h2 jC),h.step (R.alloc hp).2⟩
theorem Rel.alloc_cl(R:Rel K H₀ Z ρ τ C σ H){ts:List T}{vs:List V}(hp:H p=none)(hob:Hob K kd vs ob)(h:RTs K (mask H Z ρ) ρ ts vs):
 Rel K H₀ Z (ρ++[p]) τ (C++[(kd,ts)]) σ (upd H p ob)/\Step H (upd H p ob) ρ (ρ++[p])/\RT K (mask (upd H p ob) Z (ρ++[p])) (ρ++[p]) (.cell C.length) (.ref p):=by
 obtain⟨n1,n2,n3⟩:=R.fresh_not hp;have sm:Same H (upd H p ob):=fun b u h=>by rw[fQ (fun z=>by rw[z,hp]at h;cases h)];exact h
 have st:Step H (upd H p ob) ρ (ρ++[p]):=.of sm fun a ha=>by rw[bR.mp ha];exact hp
 refine⟨⟨R.old.trans sm,fun a ha=>?_,?_,fun a z=>(R.zd a z).same sm,fun i t e=>?_,fun c a e=>?_,by simp[R.len],R.lnt⟩,st,?_⟩
 ·rcases bM.mp ha with ha|ha
  ·exact R.frs a ha
  ·rw[bR.mp ha];exact⟨n3,n1⟩
 ·refine dR.mpr ⟨R.nd,by simp,fun a ha b hb=>?_⟩
  rw[bR.mp hb];rintro rfl
  exact n2 ha
 ·obtain⟨v,h1,h2⟩:=R.loc i t e
  exact⟨v,h1,h2.step st⟩
 ·by_cases hc:c<ρ.length
  ·rw[aY hc]at e;obtain⟨us,ws,o2,h1,h2,h4,h3⟩:=R.cel c a e
   exact⟨us,ws,o2,by rw[aY (by rw[<-R.len];exact hc)];exact h1,sm _ _ h2,h4,h3.step st⟩
  ·have hc':c=ρ.length:=by
    have:=(aP.mp e).1;simp at this;lia
   subst hc';rw[bH (bI _)]at e;simp at e;subst e
   exact⟨(kd,ts),vs,ob,by rw[R.len];simp,jC,hob,h.step st⟩
 ·unfold RT
  exact⟨p,rfl,by rw[<-R.len];simp⟩
theorem Rel.alloc_cell(R:Rel K H₀ Z ρ τ C σ H){ts:List T}{vs:List V}(hp:H p=none)(h:RTs K (mask H Z ρ) ρ ts vs):
 Rel K H₀ Z (ρ++[p]) τ (C++[(.l,ts)]) σ (upd H p (.lst vs))/\Step H (upd H p (.lst vs)) ρ (ρ++[p])/\RT K (mask (upd H p (.lst vs)) Z (ρ++[p])) (ρ++[p]) (.cell C.length) (.ref p):=R.alloc_cl hp rfl h
theorem Rel.celL(R:Rel K H₀ Z ρ τ C σ H){a:Addr}{ts:List T}(hc:ρ[c]?=some a)(e:C[c]?=some (.l,ts)):∃vs,H a=some (.lst vs)/\RTs K (mask H Z ρ) ρ ts vs:=by
 obtain⟨x,vs,ob,h1,h2,h4,h3⟩:=R.cel c a hc;rw[e]at h1;cases h1;have h4:ob=.lst vs:=h4;subst h4
 exact⟨vs,h2,h3⟩
theorem Rel.put0(R:Rel K H₀ Z ρ τ C σ H){a:Addr}{ts:List T}{vs:List V}(hc:ρ[c]?=some a)(hob:Hob K kd vs ob)(h:RTs K (mask H Z ρ) ρ ts vs):
 Rel K H₀ Z ρ τ (C.set c (kd,ts)) σ (upd H a ob)/\mask (upd H a ob) Z ρ=mask H Z ρ:=by
 have am:a∈ρ:=bB hc;have em:mask (upd H a ob) Z ρ=mask H Z ρ:=by
  funext b;unfold mask;split
  ·rfl
  ·rename_i q;rw[fQ (by rintro rfl;exact q (.inr am))]
 refine⟨⟨fun b o q=>?_,R.frs,R.nd,fun b z=>?_,fun i t e=>?_,fun d b e=>?_,by simp[R.len],R.lnt⟩,em⟩
 ·rw[fQ (by rintro rfl;rw[(R.frs b am).1]at q;cases q)]
  exact R.old b o q
 ·rw[fQ (by rintro rfl;exact(R.frs b am).2 z)];exact R.zd b z
 ·rw[em];exact R.loc i t e
 ·rw[em];by_cases hd:d=c
  ·subst hd;rw[hc]at e;cases e;have hl:d<C.length:=by rw[<-R.len];exact(aP.mp hc).1
   exact⟨(kd,ts),vs,ob,by rw[bO hl],jC,hob,h⟩
  ·obtain⟨us,ws,o2,h1,h2,h4,h3⟩:=R.cel d b e
   refine⟨us,ws,o2,by rw[aS (Ne.symm hd)];exact h1,?_,h4,h3⟩
   rw[fQ]
   ·exact h2
   ·rintro rfl;obtain⟨l1,e1⟩:=aP.mp e;obtain⟨l2,e2⟩:=aP.mp hc
    exact hd ((aO3 R.nd).mp (e1.trans e2.symm))
theorem Rel.put(R:Rel K H₀ Z ρ τ C σ H){a:Addr}{ts:List T}{vs:List V}(hc:ρ[c]?=some a)(hnf:nfz (H a))(hob:Hob K kd vs ob)(h:RTs K (mask H Z ρ) ρ ts vs):
 Rel K H₀ Z ρ τ (C.set c (kd,ts)) σ (upd H a ob)/\SStep Z H (upd H a ob) ρ ρ:=
 have am:a∈ρ:=bB hc
 ⟨(R.put0 hc hob h).1,⟨fun b o q n=>⟨n,by rw[fQ (by rintro rfl;exact n am)];exact q⟩,⟨[],by simp⟩,fun b ob u h=>by rw[fQ (by rintro rfl;rw[h]at hnf;exact hnf)];exact h⟩⟩
theorem Rel.write(R:Rel K H₀ Z ρ τ C σ H){a:Addr}{ts:List T}{vs:List V}(hc:ρ[c]?=some a)(hnf:nfz (H a))(h:RTs K (mask H Z ρ) ρ ts vs):
 Rel K H₀ Z ρ τ (C.set c (.l,ts)) σ (upd H a (.lst vs))/\SStep Z H (upd H a (.lst vs)) ρ ρ:=R.put hc hnf rfl h
theorem Rel.set(R:Rel K H₀ Z ρ τ C σ H){i:Nat}{t:T}{v:V}(h:RT K (mask H Z ρ) ρ t v):Rel K H₀ Z ρ (τ.set i (some t)) C (σ.set i (some v)) H:=by
 refine⟨R.old,R.frs,R.nd,R.zd,fun j u e=>?_,R.cel,R.len,by simp[R.lnt]⟩
 by_cases hj:j=i
 ·subst hj;have hτ:j<τ.length:=by
   have:=(aP.mp e).1;simpa using this
  rw[bO hτ]at e;cases e
  exact⟨v,by rw[bO (by rw[<-R.lnt];exact hτ)],h⟩
 ·rw[aS (Ne.symm hj)]at e;obtain⟨w,h1,h2⟩:=R.loc j u e
  exact⟨w,by rw[aS (Ne.symm hj)];exact h1,h2⟩
theorem Rel.weak(R:Rel K H₀ Z ρ τ C σ H){τ':TSt}(hl:τ'.length=τ.length)(h:∀(i:Nat) t,τ'[i]?=some (some t)->τ[i]?=some (some t)):Rel K H₀ Z ρ τ' C σ H:=
 ⟨R.old,R.frs,R.nd,R.zd,fun i t e=>R.loc i t (h i t e),R.cel,R.len,hl.trans R.lnt⟩
end
noncomputable def lim:Nat:=400000
abbrev FE:=TSt->Sto->Option (T×Sto)
abbrev FN:=TSt->Sto->Option (List T×Sto)
abbrev FB:=TSt->Sto->Option (Bool×Sto)
def trE(K:aO)(f:FE):TE:=fun σ H Q=>∃H₀ Z ρ τ C t C',Rel K H₀ Z ρ τ C σ H/\f τ C=some (t,C')/\
 ∀v H' ρ',Rel K H₀ Z ρ' τ C' σ H'->RT K (mask H' Z ρ') ρ' t v->Step H H' ρ ρ'->Q v H'
def trA(K:aO)(f:FN):TA:=fun σ H Q=>∃H₀ Z ρ τ C ts C',Rel K H₀ Z ρ τ C σ H/\f τ C=some (ts,C')/\
 ∀vs H' ρ',Rel K H₀ Z ρ' τ C' σ H'->RTs K (mask H' Z ρ') ρ' ts vs->Step H H' ρ ρ'->Q vs H'
def trN(K:aO)(f:FN):TE:=fun σ H Q=>∃H₀ Z ρ τ C ts C',Rel K H₀ Z ρ τ C σ H/\f τ C=some (ts,C')/\
 ∀p H' ρ' vs,Rel K H₀ Z ρ' τ C' σ H'->H' p=none->RTs K (mask H' Z ρ') ρ' ts vs->Step H H' ρ ρ'->Q (.ref p) (upd H' p (.lst vs))
noncomputable def trT(K:aO)(f:FB):TT:=fun σ H Q=>∃H₀ Z ρ τ C b C',Rel K H₀ Z ρ τ C σ H/\f τ C=some (b,C')/\
 ∀H' ρ',Rel K H₀ Z ρ' τ C' σ H'->Step H H' ρ ρ'->Q b H'
def trV(K:aO)(σ:St)(ts:List T)(vs:List V)(g:Sto->Option (T×Sto))(H:Hp)(Q:VK):Prop:=∃H₀ Z ρ τ C t C',Rel K H₀ Z ρ τ C σ H/\RTs K (mask H Z ρ) ρ ts vs/\g C=some (t,C')/\
 ∀v H' ρ',Rel K H₀ Z ρ' τ C' σ H'->RT K (mask H' Z ρ') ρ' t v->Step H H' ρ ρ'->Q v H'
def trW(K:aO)(σ:St)(ts:List T)(vs:List V)(g:Sto->Option (List T))(H:Hp)(Q:VK):Prop:=∃H₀ Z ρ τ C us,Rel K H₀ Z ρ τ C σ H/\RTs K (mask H Z ρ) ρ ts vs/\g C=some us/\
 ∀p H' ρ' ws,Rel K H₀ Z ρ' τ C σ H'->H' p=none->RTs K (mask H' Z ρ') ρ' us ws->Step H H' ρ ρ'->Q (.ref p) (upd H' p (.lst ws))
noncomputable def fA(i:Nat):FE:=fun τ C=>match τ[i]?with
 |some (some t)=>some (t,C)
 |_=>none
noncomputable def fC(t:T):FE:=fun _ C=>some (t,C)
noncomputable def i8(fa fb:FE)(g:T->T->Sto->Option (T×Sto)):FE:=fun τ C=>(fa τ C).bind fun p=>(fb τ p.2).bind fun q=>g p.1 q.1 q.2
noncomputable def fUn(fa:FE)(g:T->Sto->Option (T×Sto)):FE:=fun τ C=>(fa τ C).bind fun p=>g p.1 p.2
noncomputable def xF(fa fb:FE)(g:T->T->Sto->Option (List T)):FN:=fun τ C=>(fa τ C).bind fun p=>(fb τ p.2).bind fun q=>(g p.1 q.1 q.2).map fun us=>(us,q.2)
noncomputable def fJ:FN:=fun _ C=>some ([],C)
noncomputable def fB(fa:FE)(fr:FN):FN:=fun τ C=>(fa τ C).bind fun p=>(fr τ p.2).map fun q=>(p.1::q.1,q.2)
noncomputable def nB(fa:FN)(g:List T->Sto->Option (T×Sto)):FE:=fun τ C=>(fa τ C).bind fun p=>g p.1 p.2
noncomputable def rL(fa:FN)(g:List T->Sto->Option (List T)):FN:=fun τ C=>(fa τ C).bind fun p=>(g p.1 p.2).map fun us=>(us,p.2)
noncomputable def fV(f:FN):FE:=fun τ C=>(f τ C).map fun p=>(.lst p.1,p.2)
noncomputable def jB(f:FN):FE:=fun τ C=>(f τ C).map fun p=>(.cell p.2.length,p.2++[(.l,p.1)])
section
variable {K:aO}{σ:St}{H:Hp}{Q:VK}
variable{fa fb:FE}{g:Int->Int->V}{f:Int->Int->T}{C:Sto}{M H₀:Hp}{τ:TSt}{x y:V}
theorem aNC{i:Nat}(h:trE K (fA i) σ H Q):tVar i σ H Q:=by
 obtain⟨H₀,Z,ρ,τ,C,t,C',R,e,k⟩:=h;unfold fA at e;split at e
 ·rename_i u hu;cases e;obtain⟨v,h1,h2⟩:=R.loc i t hu
  exact⟨v,h1,k v H ρ R h2 .refl⟩
 ·cases e
theorem i_C{t:T}{v:V}(ht:∀M ρ,RT K M ρ t v)(h:trE K (fC t) σ H Q):tC v σ H Q:=by
 obtain⟨H₀,Z,ρ,τ,C,t,C',R,e,k⟩:=h;cases e
 exact k v H ρ R (ht _ _) .refl
theorem aEv{g:T->T->Sto->Option (T×Sto)}(h:trE K (i8 fa fb g) σ H Q):
 trE K fa σ H fun x H1=>trE K fb σ H1 fun y H2=>∃t1 t2,trV K σ [t1,t2] [x,y] (g t1 t2) H2 Q:=by
 obtain⟨H₀,Z,ρ,τ,C,t,C',R,e,k⟩:=h;unfold i8 at e;obtain⟨⟨t1,C1⟩,e1,e⟩:=aK.mp e;obtain⟨⟨t2,C2⟩,e2,e⟩:=aK.mp e
 refine⟨H₀,Z,ρ,τ,C,t1,C1,R,e1,fun x H1 ρ1 R1 h1 s1=>?_⟩
 refine⟨H₀,Z,ρ1,τ,C1,t2,C2,R1,e2,fun y H2 ρ2 R2 h2 s2=>?_⟩
 exact⟨t1,t2,H₀,Z,ρ2,τ,C2,t,C',R2,.cons (h1.step s2) (.cons h2 .nil),e,fun v H3 ρ3 R3 h3 s3=>k v H3 ρ3 R3 h3 ((s1.trans s2).trans s3)⟩
theorem aMd{g:T->Sto->Option (T×Sto)}(h:trE K (fUn fa g) σ H Q):
 trE K fa σ H fun x H1=>∃t1,trV K σ [t1] [x] (g t1) H1 Q:=by
 obtain⟨H₀,Z,ρ,τ,C,t,C',R,e,k⟩:=h;unfold fUn at e;obtain⟨⟨t1,C1⟩,e1,e⟩:=aK.mp e
 refine⟨H₀,Z,ρ,τ,C,t1,C1,R,e1,fun x H1 ρ1 R1 h1 s1=>?_⟩
 exact⟨t1,H₀,Z,ρ1,τ,C1,t,C',R1,.cons h1 .nil,e,fun v H3 ρ3 R3 h3 s3=>k v H3 ρ3 R3 h3 (s1.trans s3)⟩
theorem aM8{g:T->T->Sto->Option (List T)}(h:trN K (xF fa fb g) σ H Q):
 trE K fa σ H fun x H1=>trE K fb σ H1 fun y H2=>∃t1 t2,trW K σ [t1,t2] [x,y] (g t1 t2) H2 Q:=by
 obtain⟨H₀,Z,ρ,τ,C,ts,C',R,e,k⟩:=h;unfold xF at e;obtain⟨⟨t1,C1⟩,e1,e⟩:=aK.mp e;obtain⟨⟨t2,C2⟩,e2,e⟩:=aK.mp e;obtain⟨us,e3,e⟩:=aL.mp e;cases e
 refine⟨H₀,Z,ρ,τ,C,t1,C1,R,e1,fun x H1 ρ1 R1 h1 s1=>?_⟩
 refine⟨H₀,Z,ρ1,τ,C1,t2,_,R1,e2,fun y H2 ρ2 R2 h2 s2=>?_⟩
 exact⟨t1,t2,H₀,Z,ρ2,τ,_,_,R2,.cons (h1.step s2) (.cons h2 .nil),e3,fun p H3 ρ3 ws R3 n3 h3 s3=>k p H3 ρ3 ws R3 n3 h3 ((s1.trans s2).trans s3)⟩
theorem aK4{Q:List V->Hp->Prop}(h:trA K fJ σ H Q):aJY σ H Q:=by
 obtain⟨H₀,Z,ρ,τ,C,ts,C',R,e,k⟩:=h;cases e
 exact k [] H ρ R .nil .refl
theorem aMj{fr:FN}{Q:List V->Hp->Prop}(h:trA K (fB fa fr) σ H Q):aHX (trE K fa) (trA K fr) σ H Q:=by
 obtain⟨H₀,Z,ρ,τ,C,ts,C',R,e,k⟩:=h;unfold fB at e;obtain⟨⟨t1,C1⟩,e1,e⟩:=aK.mp e;obtain⟨⟨t2,C2⟩,e2,e⟩:=aL.mp e;cases e
 refine⟨H₀,Z,ρ,τ,C,t1,C1,R,e1,fun x H1 ρ1 R1 h1 s1=>?_⟩
 exact⟨H₀,Z,ρ1,τ,C1,t2,_,R1,e2,fun vs H2 ρ2 R2 h2 s2=>k (x::vs) H2 ρ2 R2 (.cons (h1.step s2) h2) (s1.trans s2)⟩
theorem aBY{fa:FN}{g:List T->Sto->Option (T×Sto)}(h:trE K (nB fa g) σ H Q):
 trA K fa σ H fun vs H1=>∃ts,trV K σ ts vs (g ts) H1 Q:=by
 obtain⟨H₀,Z,ρ,τ,C,t,C',R,e,k⟩:=h;unfold nB at e;obtain⟨⟨ts,C1⟩,e1,e⟩:=aK.mp e
 refine⟨H₀,Z,ρ,τ,C,ts,C1,R,e1,fun x H1 ρ1 R1 h1 s1=>?_⟩
 exact⟨ts,H₀,Z,ρ1,τ,C1,t,C',R1,h1,e,fun v H3 ρ3 R3 h3 s3=>k v H3 ρ3 R3 h3 (s1.trans s3)⟩
theorem aDO{fa:FN}{g:List T->Sto->Option (List T)}(h:trN K (rL fa g) σ H Q):
 trA K fa σ H fun vs H1=>∃ts,trW K σ ts vs (g ts) H1 Q:=by
 obtain⟨H₀,Z,ρ,τ,C,ts,C',R,e,k⟩:=h;unfold rL at e;obtain⟨⟨us,C1⟩,e1,e⟩:=aK.mp e;obtain⟨ws,e2,e⟩:=aL.mp e;cases e
 refine⟨H₀,Z,ρ,τ,C,us,_,R,e1,fun x H1 ρ1 R1 h1 s1=>?_⟩
 exact⟨us,H₀,Z,ρ1,τ,_,_,R1,h1,e2,fun p H3 ρ3 ws R3 n3 h3 s3=>k p H3 ρ3 ws R3 n3 h3 (s1.trans s3)⟩
theorem aIE{f:FN}(h:trE K (fV f) σ H Q):trN K f σ H Q:=by
 obtain⟨H₀,Z,ρ,τ,C,t,C',R,e,k⟩:=h;unfold fV at e;obtain⟨⟨us,C1⟩,e1,e⟩:=aL.mp e;cases e
 exact⟨H₀,Z,ρ,τ,C,us,_,R,e1,fun p H1 ρ1 vs R1 n1 h1 s1=>k _ _ ρ1 (R1.alloc n1).1 (R1.alloc_lst n1 h1) (s1.trans (R1.alloc n1).2)⟩
theorem aGY{f:FN}(h:trE K (jB f) σ H Q):trN K f σ H Q:=by
 obtain⟨H₀,Z,ρ,τ,C,t,C',R,e,k⟩:=h;unfold jB at e;obtain⟨⟨us,C1⟩,e1,e⟩:=aL.mp e;cases e
 refine⟨H₀,Z,ρ,τ,C,us,_,R,e1,fun p H1 ρ1 vs R1 n1 h1 s1=>?_⟩
 obtain⟨q1,q2,q3⟩:=R1.alloc_cell n1 h1
 exact k _ _ _ q1 q3 (s1.trans q2)
noncomputable def lc(C:Sto)(c:Nat):Option (List T):=(C[c]?).bind fun x=>match x.1 with
 | .l=>some x.2
 |_=>none
theorem gL{c:Nat}{ts:List T}:lc C c=some ts↔C[c]?=some (.l,ts):=by
 unfold lc;constructor
 ·intro h;obtain⟨⟨k,us⟩,e,h⟩:=aK.mp h;cases k<;>cases h
  exact e
 ·intro h;rw[h];rfl
def liT(C:Sto):T->Option (List T)
 | .lst ts=>some ts
 | .cell c=>lc C c
 |_=>none
def sqT(C:Sto):T->Option (List T)
 | .lst ts=>some ts
 | .cell c=>lc C c
 | .tup ts=>some ts
 |_=>none
theorem SqL.msk{Z:Addr->Prop}{ρ:Rho}{a:Addr}{vs:List V}(h:SqL K (mask M Z ρ) a vs):SqL K M a vs:=nY.seq h
theorem SqT.msk{Z:Addr->Prop}{ρ:Rho}{a:Addr}{vs:List V}(h:SqT K (mask M Z ρ) a vs):SqT K M a vs:=Same.tseq nY h
theorem Rel.li{Z:Addr->Prop}{ρ:Rho}(R:Rel K H₀ Z ρ τ C σ H){t:T}{v:V}{ts:List T}(h:RT K (mask H Z ρ) ρ t v)(e:liT C t=some ts):
 ∃a vs,v=.ref a/\SqL K H a vs/\RTs K (mask H Z ρ) ρ ts vs:=by
 cases t with
 |lst us=>
  cases e;unfold RT at h;obtain⟨a,vs,e,q,r⟩:=h
  exact⟨a,vs,e,SqL.msk q,r⟩
 |cell c=>
  unfold RT at h;obtain⟨a,e1,q⟩:=h;obtain⟨ws,h2,h3⟩:=R.celL q (gL.mp e)
  exact⟨a,ws,e1,.of h2,h3⟩
 |_=>cases e
theorem Rel.sq{Z:Addr->Prop}{ρ:Rho}(R:Rel K H₀ Z ρ τ C σ H){t:T}{v:V}{ts:List T}(h:RT K (mask H Z ρ) ρ t v)(e:sqT C t=some ts):
 ∃a vs,v=.ref a/\(SqL K H a vs\/SqT K H a vs)/\RTs K (mask H Z ρ) ρ ts vs:=by
 cases t with
 |lst us=>
  obtain⟨a,vs,h1,h2,h3⟩:=R.li h (show liT C (.lst us)=some ts from e)
  exact⟨a,vs,h1,.inl h2,h3⟩
 |cell c=>
  obtain⟨a,vs,h1,h2,h3⟩:=R.li h (show liT C (.cell c)=some ts from e)
  exact⟨a,vs,h1,.inl h2,h3⟩
 |tup us=>
  cases e;unfold RT at h;obtain⟨a,vs,e,q,r⟩:=h
  exact⟨a,vs,e,.inr (SqT.msk (.of q)),r⟩
 |_=>cases e
theorem RT.int_inv{ρ:Rho}{i:Int}{v:V}(h:RT K M ρ (.int i) v):v=.int i:=by unfold RT at h;exact h
theorem RT.bl_inv{ρ:Rho}{b:Bool}{v:V}(h:RT K M ρ (.bl b) v):v=.bl b:=by unfold RT at h;exact h
theorem RT.non_inv{ρ:Rho}{v:V}(h:RT K M ρ .non v):v=.non:=by unfold RT at h;exact h
theorem RT.int{M:Hp}{ρ:Rho}{i:Int}:RT K M ρ (.int i) (.int i):=by unfold RT;rfl
theorem RT.bl{M:Hp}{ρ:Rho}{i:Bool}:RT K M ρ (.bl i) (.bl i):=by unfold RT;rfl
theorem RT.non{M:Hp}{ρ:Rho}:RT K M ρ .non .non:=by unfold RT;rfl
noncomputable def gI(f:Int->Int->T):T->T->Sto->Option (T×Sto)
 | .int i,.int j,C=>some (f i j,C)
 |_,_,_=>none
noncomputable def gIc(c:Int->Int->Bool)(f:Int->Int->T):T->T->Sto->Option (T×Sto)
 | .int i,.int j,C=>if c i j=true then some (f i j,C)else none
 |_,_,_=>none
theorem o_I(hfg:∀i j M ρ,RT K M ρ (f i j) (g i j))(h:∃t1 t2,trV K σ [t1,t2] [x,y] (gI f t1 t2) H Q):
 ∃i j,x=.int i/\y=.int j/\Q (g i j) H:=by
 obtain⟨t1,t2,H₀,Z,ρ,τ,C,t,C',R,r,e,k⟩:=h;obtain⟨_,_,z,r1,r⟩:=r.cons_inv;cases z;obtain⟨_,_,z,r2,r⟩:=r.cons_inv;cases z;unfold gI at e;split at e
 ·cases e
  exact⟨_,_,r1.int_inv,r2.int_inv,k _ H ρ R (hfg _ _ _ _) .refl⟩
 ·cases e
theorem aGM{c:Int->Int->Bool}(hfg:∀i j M ρ,RT K M ρ (f i j) (g i j))(h:∃t1 t2,trV K σ [t1,t2] [x,y] (gIc c f t1 t2) H Q):
 ∃i j,x=.int i/\y=.int j/\c i j=true/\Q (g i j) H:=by
 obtain⟨t1,t2,H₀,Z,ρ,τ,C,t,C',R,r,e,k⟩:=h;obtain⟨_,_,z,r1,r⟩:=r.cons_inv;cases z;obtain⟨_,_,z,r2,r⟩:=r.cons_inv;cases z;unfold gIc at e;split at e
 ·split at e
  ·rename_i hc;cases e
   exact⟨_,_,r1.int_inv,r2.int_inv,hc,k _ H ρ R (hfg _ _ _ _) .refl⟩
  ·cases e
 ·cases e
end
inductive Fl where
 |nx|bk|ct|rt (t:T)|ex (c:String)
abbrev FS:=TSt->Sto->Option (Fl×TSt×Sto)
abbrev XW:=String->St->Hp->Prop
def EndF(K:aO)(W:XW)(D:Ends)(Z:Addr->Prop)(ρ:Rho)(fl:Fl)(σ:St)(H:Hp):Prop:=match fl with
 | .nx=>D.nx σ H
 | .bk=>D.bk σ H
 | .ct=>D.ct σ H
 | .rt t=>∀v,RT K (mask H Z ρ) ρ t v->D.rt v H
 | .ex c=>W c σ H
noncomputable def trS(K:aO)(W:XW)(F:FS):TS:=fun D σ H=>∃H₀ Z ρ τ C fl τ' C',Rel K H₀ Z ρ τ C σ H/\F τ C=some (fl,τ',C')/\
 ∀σ' H' ρ',Rel K H₀ Z ρ' τ' C' σ' H'->SStep Z H H' ρ ρ'->EndF K W D Z ρ' fl σ' H'
abbrev FG:=T->Sto->TSt->Option TSt
def trG(K:aO)(g:FG):TG:=fun v σ H Q=>∃H₀ Z ρ τ C t τ',Rel K H₀ Z ρ τ C σ H/\RT K (mask H Z ρ) ρ t v/\g t C τ=some τ'/\
 ∀σ',Rel K H₀ Z ρ τ' C σ' H->Q σ' H
noncomputable def iD:FS:=fun τ C=>some (.nx,τ,C)
noncomputable def aAK:FS:=fun _ _=>none
noncomputable def fO(F G:FS):FS:=fun τ C=>(F τ C).bind fun r=>match r with
 | (.nx,τ1,C1)=>G τ1 C1
 |r=>some r
noncomputable def fIf(c:FB)(F G:FS):FS:=fun τ C=>(c τ C).bind fun p=>if p.1=true then F τ p.2 else G τ p.2
def gW(f:FE):FS:=fun τ C=>(f τ C).map fun p=>(.rt p.1,τ,p.2)
noncomputable def m6(f:FE):FS:=fun τ C=>(f τ C).map fun p=>(.nx,τ,p.2)
noncomputable def fY(f:FE)(g:FG):FS:=fun τ C=>(f τ C).bind fun p=>(g p.1 p.2 τ).map fun τ'=>(.nx,τ',p.2)
noncomputable def gN(i:Nat):FG:=fun t _ τ=>some (τ.set i (some t))
noncomputable def setAll:List Nat->List T->TSt->TSt
 |i::is,t::ts,τ=>setAll is ts (τ.set i (some t))
 |_,_,τ=>τ
def gU(is:List Nat):FG:=fun t C τ=>(sqT C t).bind fun ts=>if ts.length=is.length then some (setAll is ts τ)else none
section
variable {K:aO}{W:XW}{σ:St}{H:Hp}{D:Ends}
variable{F G:FS}{c:FB}{f:FE}{g:FG}{H₀ H1:Hp}{τ:TSt}{C:Sto}{ρ1:Rho}{n:Nat}
theorem aGl(h:trS K W iD D σ H):aHJ D σ H:=by
 obtain⟨H₀,Z,ρ,τ,C,fl,τ',C',R,e,k⟩:=h;cases e
 exact k σ H ρ R .refl
theorem aJC(h:trS K W aAK D σ H):False:=by
 obtain⟨H₀,Z,ρ,τ,C,fl,τ',C',R,e,k⟩:=h;cases e
theorem aN8(h:trS K W (fO F G) D σ H):tSeq (trS K W F) (trS K W G) D σ H:=by
 obtain⟨H₀,Z,ρ,τ,C,fl,τ',C',R,e,k⟩:=h;unfold fO at e;obtain⟨⟨f1,τ1,C1⟩,e1,e⟩:=aK.mp e
 refine⟨H₀,Z,ρ,τ,C,f1,τ1,C1,R,e1,fun σ1 H1 ρ1 R1 s1=>?_⟩
 cases f1 with
 |nx=>exact⟨H₀,Z,ρ1,τ1,C1,fl,τ',C',R1,e,fun σ2 H2 ρ2 R2 s2=>k σ2 H2 ρ2 R2 (s1.trans s2)⟩
 |bk=>cases e;exact k σ1 H1 ρ1 R1 s1
 |ct=>cases e;exact k σ1 H1 ρ1 R1 s1
 |rt t=>cases e;exact k σ1 H1 ρ1 R1 s1
 |ex c=>cases e;exact k σ1 H1 ρ1 R1 s1
theorem aOk(h:trS K W (fIf c F G) D σ H):tIfS (trT K c) (trS K W F) (trS K W G) D σ H:=by
 obtain⟨H₀,Z,ρ,τ,C,fl,τ',C',R,e,k⟩:=h;unfold fIf at e;obtain⟨⟨b,C1⟩,e1,e⟩:=aK.mp e
 refine⟨H₀,Z,ρ,τ,C,b,C1,R,e1,fun H1 ρ1 R1 s1=>?_⟩
 cases b with
 |true=>
  rw[if_pos rfl]at e|-
  exact⟨H₀,Z,ρ1,τ,C1,fl,τ',C',R1,e,fun σ2 H2 ρ2 R2 s2=>k σ2 H2 ρ2 R2 (s1.ss.trans s2)⟩
 |false=>
  rw[if_neg (by simp)]at e|-
  exact⟨H₀,Z,ρ1,τ,C1,fl,τ',C',R1,e,fun σ2 H2 ρ2 R2 s2=>k σ2 H2 ρ2 R2 (s1.ss.trans s2)⟩
theorem aN7(h:trS K W (gW f) D σ H):tRet (trE K f) D σ H:=by
 obtain⟨H₀,Z,ρ,τ,C,fl,τ',C',R,e,k⟩:=h;unfold gW at e;obtain⟨⟨t,C1⟩,e1,e⟩:=aL.mp e;cases e
 exact⟨H₀,Z,ρ,τ,C,t,_,R,e1,fun v H1 ρ1 R1 h1 s1=>k σ H1 ρ1 R1 s1.ss v h1⟩
theorem aMl(h:trS K W (m6 f) D σ H):aED (trE K f) D σ H:=by
 obtain⟨H₀,Z,ρ,τ,C,fl,τ',C',R,e,k⟩:=h;unfold m6 at e;obtain⟨⟨t,C1⟩,e1,e⟩:=aL.mp e;cases e
 exact⟨H₀,Z,ρ,τ,C,t,_,R,e1,fun v H1 ρ1 R1 h1 s1=>k σ H1 ρ1 R1 s1.ss⟩
theorem aD6(h:trS K W (fY f g) D σ H):aCX (trE K f) (trG K g) D σ H:=by
 obtain⟨H₀,Z,ρ,τ,C,fl,τ',C',R,e,k⟩:=h;unfold fY at e;obtain⟨⟨t,C1⟩,e1,e⟩:=aK.mp e;obtain⟨τ1,e2,e⟩:=aL.mp e;cases e
 refine⟨H₀,Z,ρ,τ,C,t,_,R,e1,fun v H1 ρ1 R1 h1 s1=>?_⟩
 exact⟨H₀,Z,ρ1,τ,_,t,_,R1,h1,e2,fun σ' R'=>k σ' H1 ρ1 R' s1.ss⟩
theorem aBa{i:Nat}{v:V}{Q:St->Hp->Prop}(h:trG K (gN i) v σ H Q):rY i v σ H Q:=by
 obtain⟨H₀,Z,ρ,τ,C,t,τ',R,r,e,k⟩:=h;cases e
 exact k _ (R.set r)
theorem Rel.setAll{H₀:Hp}{Z:Addr->Prop}{ρ:Rho}{C:Sto}:∀{is:List Nat}{ts:List T}{vs:List V}{τ:TSt}{σ:St},Rel K H₀ Z ρ τ C σ H->RTs K (mask H Z ρ) ρ ts vs->ts.length=is.length->∀{Q:St->Hp->Prop},
 (∀σ',Rel K H₀ Z ρ (TL.setAll is ts τ) C σ' H->Q σ' H)->(is.foldr (fun i g=>aEU (rY i) g) aKL) vs σ H Q
 | [],[],vs,τ,σ,R,r,_,Q,k=>⟨r.nil_inv,k σ R⟩
 |i::is,t::ts,vs,τ,σ,R,r,hl,Q,k=>by
  obtain⟨v,r',rfl,h1,h2⟩:=r.cons_inv
  exact⟨v,r',rfl,Rel.setAll (is:=is) (ts:=ts) (R.set h1) h2 (by simpa using hl) k⟩
 | [],t::ts,_,_,_,_,_,hl,_,_=>by simp at hl
 |i::is,[],_,_,_,_,_,hl,_,_=>by simp at hl
open Classical in
def kH(P:Sto->Prop)(g:FG)(F:FS):List T->FS
 | [],τ,C=>some (.nx,τ,C)
 |t::ts,τ,C=>(g t C τ).bind fun τ1=>(F τ1 C).bind fun r=>match r with
  | (.nx,τ2,C2)=>if P C2 then kH P g F ts τ2 C2 else none
  | (.ct,τ2,C2)=>if P C2 then kH P g F ts τ2 C2 else none
  | (.bk,τ2,C2)=>some (.nx,τ2,C2)
  | (.rt v,τ2,C2)=>some (.rt v,τ2,C2)
  | (.ex c,τ2,C2)=>some (.ex c,τ2,C2)
def stays(t:T)(ts:List T)(C:Sto):Prop:=match t with
 | .cell c=>lc C c=some ts
 |_=>True
def oP(f:FE)(g:FG)(F:FS):FS:=fun τ C=>(f τ C).bind fun p=>(liT p.2 p.1).bind fun ts=>kH (stays p.1 ts) g F ts τ p.2
theorem Rel.same{H₀:Hp}{Z:Addr->Prop}{ρ:Rho}{τ:TSt}{C:Sto}{H':Hp}(R:Rel K H₀ Z ρ τ C σ H)(s:Same H H'):Rel K H₀ Z ρ τ C σ H'/\Step H H' ρ ρ:=by
 have st:Step H H' ρ ρ:=.of0 s
 refine⟨⟨R.old.trans s,R.frs,R.nd,fun a z=>(R.zd a z).same s,fun i t e=>?_,fun c a e=>?_,R.len,R.lnt⟩,st⟩
 ·obtain⟨v,h1,h2⟩:=R.loc i t e
  exact⟨v,h1,h2.step st⟩
 ·obtain⟨ts,vs,ob,h1,h2,h4,h3⟩:=R.cel c a e
  exact⟨ts,vs,ob,h1,s _ _ h2,h4,h3.step st⟩
structure Wlk(K:aO)(J:It)(Z:Addr->Prop)(H1:Hp)(ρ1:Rho)(ts:List T)(P:Sto->Prop):Prop where
 go:∀(i:Nat)(t:T)(H₀:Hp)(Z':Addr->Prop)(ρ':Rho)(τ:TSt)(C:Sto)(σ:St)(H:Hp),ts[i]?=some t->Rel K H₀ Z' ρ' τ C σ H->Same (mask H1 Z ρ1) (mask H Z' ρ')->
  (∀(c:Nat)(a:Addr),ρ1[c]?=some a->ρ'[c]?=some a)->(P C\/Same H1 H)->(∀a ob u,H1 a=some (.frz ob u)->H a=some (.frz ob u))->J.go i H/\∀x H',J.yld i H x H'->Same H H'/\RT K (mask H' Z' ρ') ρ' t x
 stop:∀(H₀:Hp)(Z':Addr->Prop)(ρ':Rho)(τ:TSt)(C:Sto)(σ:St)(H:Hp),Rel K H₀ Z' ρ' τ C σ H->Same (mask H1 Z ρ1) (mask H Z' ρ')->
  (∀(c:Nat)(a:Addr),ρ1[c]?=some a->ρ'[c]?=some a)->(P C\/Same H1 H)->(∀a ob u,H1 a=some (.frz ob u)->H a=some (.frz ob u))->J.stop ts.length H
theorem v3{J:It}{Z:Addr->Prop}{ρ:Rho}{τ':TSt}{C':Sto}{P:Sto->Prop}{ts:List T}{fl:Fl}{σ1:St}
 (R:Rel K H₀ Z ρ τ C σ1 H1)(hP:P C)(e:kH P g F ts τ C=some (fl,τ',C'))(w:Wlk K J Z H1 ρ ts P)
 (k:∀σ' H' ρ',Rel K H₀ Z ρ' τ' C' σ' H'->SStep Z H1 H' ρ ρ'->EndF K W D Z ρ' fl σ' H'):
 ∃V:Nat->Nat->St->Hp->Prop,(∃m,V 0 m σ1 H1)/\∀i m σ H,V i m σ H->
  (J.stop i H/\D.nx σ H)\/(J.go i H/\∃N:St->Hp->Prop,(∀σ' H',N σ' H'->∃m',m'<m/\V (i+1) m' σ' H')/\∀x H',J.yld i H x H'->trG K g x σ H' fun σ2 H2=>trS K W F {D with nx:=N,ct:=N,bk:=D.nx} σ2 H2):=by
 refine⟨fun i m σ H=>∃ρ' τ1 C1 rest,m=rest.length/\ts.drop i=rest/\i<=ts.length/\Rel K H₀ Z ρ' τ1 C1 σ H/\SStep Z H1 H ρ ρ'/\P C1/\kH P g F rest τ1 C1=some (fl,τ',C'),
  ⟨ts.length,ρ,τ,C,ts,rfl,rfl,dJ _,R,.refl,hP,e⟩,?_⟩
 rintro i m σ H ⟨ρ',τ1,C1,rest,rfl,hd,hi,R1,s1,hP1,e1⟩;cases rest with
 |nil=>
  have hi':i=ts.length:=by
   have:ts.length<=i:=by simpa using hd
   lia
  subst hi';cases e1
  exact .inl ⟨w.stop _ _ _ _ _ _ _ R1 (s1.msk _) s1.idx (.inl hP1) s1.fz,k σ H ρ' R1 s1⟩
 |cons t rest=>
  have ht:ts[i]?=some t:=by
   have:=congrArg (fun l=>l[0]?) hd;simpa using this
  have hlt:i<ts.length:=(aP.mp ht).1;have hd':ts.drop (i+1)=rest:=by
   have:=congrArg aQh hd;simpa using this
  obtain⟨g1,g2⟩:=w.go i t _ _ ρ' τ1 C1 σ H ht R1 (s1.msk _) s1.idx (.inl hP1) s1.fz;unfold kH at e1;obtain⟨τ2,eg,e1⟩:=aK.mp e1;obtain⟨⟨f3,τ3,C3⟩,eF,e1⟩:=aK.mp e1
  refine .inr ⟨g1,fun σ' H'=>∃ρ3 τ3 C3,Rel K H₀ Z ρ3 τ3 C3 σ' H'/\SStep Z H1 H' ρ ρ3/\P C3/\kH P g F rest τ3 C3=some (fl,τ',C'),?_,?_⟩
  ·rintro σ' H' ⟨ρ3,τ3,C3,R3,s3,hP3,e3⟩
   exact⟨rest.length,by simp,ρ3,τ3,C3,rest,rfl,hd',hlt,R3,s3,hP3,e3⟩
  ·intro x H' y;obtain⟨sm,rx⟩:=g2 x H' y;obtain⟨R1',st'⟩:=R1.same sm
   refine⟨H₀,Z,ρ',τ1,C1,t,τ2,R1',rx,eg,fun σ2 R2=>?_⟩
   refine⟨H₀,Z,ρ',τ2,C1,f3,τ3,C3,R2,eF,fun σ3 H3 ρ3 R3 s3=>?_⟩
   have s3':=(s1.trans st'.ss).trans s3;cases f3 with
   |nx=>
    dsimp only at e1;split at e1
    ·rename_i hP3
     exact⟨ρ3,τ3,C3,R3,s3',hP3,e1⟩
    ·cases e1
   |ct=>
    dsimp only at e1;split at e1
    ·rename_i hP3
     exact⟨ρ3,τ3,C3,R3,s3',hP3,e1⟩
    ·cases e1
   |bk=>
    cases e1
    exact k σ3 H3 ρ3 R3 s3'
   |rt v=>
    cases e1
    exact k σ3 H3 ρ3 R3 s3'
   |ex c=>
    cases e1
    exact k σ3 H3 ρ3 R3 s3'
theorem nW{t:T}{ts:List T}(e:liT C t=some ts):stays t ts C:=by
 cases t with
 |cell c=>exact e
 |_=>trivial
theorem aCr{Z:Addr->Prop}{σ:St}{t:T}{ts:List T}{a:Addr}(R1:Rel K H₀ Z ρ1 τ C σ H1)(h1:RT K (mask H1 Z ρ1) ρ1 t (.ref a))(e2:liT C t=some ts):
 Wlk K (Itl K a) Z H1 ρ1 ts (stays t ts):=by
 have there:∀{H₀:Hp}{Z':Addr->Prop}{ρ':Rho}{τ':TSt}{C':Sto}{σ:St}{H:Hp},Rel K H₀ Z' ρ' τ' C' σ H->Same (mask H1 Z ρ1) (mask H Z' ρ')->(∀(c:Nat)(a:Addr),ρ1[c]?=some a->ρ'[c]?=some a)->(stays t ts C'\/Same H1 H)->
  ∃ws,SqL K H a ws/\RTs K (mask H Z' ρ') ρ' ts ws:=by
  intro H₀ Z' ρ' τ' C' σ H R' sm ix st';rcases st' with st'|st'
  ·have h2:=h1.mono sm ix;have e3:liT C' t=some ts:=by
    cases t with
    |cell c=>exact st'
    |lst us=>exact e2
    |_=>cases e2
   obtain⟨a',ws,ev',q',r'⟩:=R'.li h2 e3;cases ev'
   exact⟨ws,q',r'⟩
  ·obtain⟨a',ws,ev',q',r'⟩:=R1.li h1 e2;cases ev'
   exact⟨ws,st'.seq q',r'.mono sm ix⟩
 refine⟨fun i t' H₀ Z' ρ' τ' C' σ H ht R' sm ix st' _=>?_,fun H₀ Z' ρ' τ' C' σ H R' sm ix st' _=>?_⟩
 ·obtain⟨ws,q',r'⟩:=there R' sm ix st';obtain⟨x,hx,rx⟩:=r'.get ht
  refine⟨⟨ws,x,q',hx⟩,fun y H' ⟨hy,z⟩=>?_⟩
  subst hy;have:=z ws q';rw[hx]at this;cases this
  exact⟨.refl _,rx⟩
 ·obtain⟨ws,q',r'⟩:=there R' sm ix st'
  exact⟨ws,q',by rw[r'.length];exact bI _⟩
noncomputable def vE(lo:Int)(n:Nat):List T:=(bK n).map fun(i:Nat)=>T.int (lo+(i:Int))
theorem tT{Z:Addr->Prop}{lo:Int}:Wlk K (Itr lo n) Z H1 ρ1 (vE lo n) (fun _=>True):=by
 refine⟨fun i t' H₀ Z' ρ' τ' C' σ H ht R' sm ix st' _=>?_,fun H₀ Z' ρ' τ' C' σ H R' sm ix st' _=>?_⟩
 ·unfold vE at ht;have hi:i<n:=by
   have:=(aP.mp ht).1;simpa using this
  rw[bJ,aPr hi]at ht;cases ht
  refine⟨hi,fun x H' ⟨h1,h2⟩=>?_⟩
  subst h1;rw[h2];exact⟨.refl _,.int⟩
 ·show n<=_;simp[vE]
theorem aNp(h:trS K W (oP f g F) D σ H):aIM (aGq K (trE K f)) (trG K g) (trS K W F) D σ H:=by
 obtain⟨H₀,Z,ρ,τ,C,fl,τ',C',R,e,k⟩:=h;unfold oP at e;obtain⟨⟨t,C1⟩,e1,e⟩:=aK.mp e;obtain⟨ts,e2,e⟩:=aK.mp e
 refine⟨H₀,Z,ρ,τ,C,t,C1,R,e1,fun v H1 ρ1 R1 h1 s1=>?_⟩
 obtain⟨a,vs,ev,q,r⟩:=R1.li h1 e2;subst ev
 exact⟨a,rfl,⟨vs,q⟩,v3 R1 (nW e2) e (aCr R1 h1 e2) fun σ' H' ρ' R' s'=>k σ' H' ρ' R' (s1.ss.trans s')⟩
def fForR(lo:Int)(n:Nat)(g:FG)(F:FS):FS:=kH (fun _=>True) g F (vE lo n)
def lF(f:FE)(g:FG)(F:FS):FS:=fun τ C=>(f τ C).bind fun p=>match p.1 with
 | .int j=>if -(2^62)<=j/\j<2^62 then fForR 0 j.toNat g F τ p.2 else none
 |_=>none
def pN(f1 f2:FE)(g:FG)(F:FS):FS:=fun τ C=>(f1 τ C).bind fun p=>(f2 τ p.2).bind fun q=>match p.1,q.1 with
 | .int i,.int j=>if -(2^62)<=i/\i<2^62/\ -(2^62)<=j/\j<2^62 then fForR i (j - i).toNat g F τ q.2 else none
 |_,_=>none
theorem aJ1(h:trS K W (lF f g F) D σ H):aIM (aHG (trA K (fB f fJ))) (trG K g) (trS K W F) D σ H:=by
 obtain⟨H₀,Z,ρ,τ,C,fl,τ',C',R,e,k⟩:=h;unfold lF at e;obtain⟨⟨t,C1⟩,e1,e⟩:=aK.mp e
 refine⟨H₀,Z,ρ,τ,C,[t],C1,R,by simp[fB,fJ,e1],fun vs H1 ρ1 R1 h1 s1=>?_⟩
 obtain⟨v,r,rfl,q1,q2⟩:=h1.cons_inv;rw[q2.nil_inv];dsimp only at e;split at e
 ·split at e
  ·rename_i hj
   exact⟨_,by rw[q1.int_inv],hj.1,hj.2,v3 (P:=fun _=>True) R1 trivial e tT fun σ' H' ρ' R' s'=>k σ' H' ρ' R' (s1.ss.trans s')⟩
  ·cases e
 ·cases e
theorem aJs{f1 f2:FE}(h:trS K W (pN f1 f2 g F) D σ H):aIM (iRng2 (trA K (fB f1 (fB f2 fJ)))) (trG K g) (trS K W F) D σ H:=by
 obtain⟨H₀,Z,ρ,τ,C,fl,τ',C',R,e,k⟩:=h;unfold pN at e;obtain⟨⟨t,C1⟩,e1,e⟩:=aK.mp e;obtain⟨⟨u,C2⟩,e2,e⟩:=aK.mp e
 refine⟨H₀,Z,ρ,τ,C,[t,u],C2,R,by simp[fB,fJ,e1,e2],fun vs H1 ρ1 R1 h1 s1=>?_⟩
 obtain⟨v,r,rfl,q1,q2⟩:=h1.cons_inv;obtain⟨v',r',rfl,q3,q4⟩:=q2.cons_inv;rw[q4.nil_inv];dsimp only at e;split at e
 ·split at e
  ·rename_i hj
   exact⟨_,_,by rw[q1.int_inv,q3.int_inv],hj,v3 (P:=fun _=>True) R1 trivial e tT fun σ' H' ρ' R' s'=>k σ' H' ρ' R' (s1.ss.trans s')⟩
  ·cases e
 ·cases e
def lU(c:FB)(F:FS):Nat->FS
 |0,_,_=>none
 |n+1,τ,C=>(c τ C).bind fun p=>if p.1=true then(F τ p.2).bind fun r=>match r with
  | (.nx,τ2,C2)=>lU c F n τ2 C2
  | (.ct,τ2,C2)=>lU c F n τ2 C2
  | (.bk,τ2,C2)=>some (.nx,τ2,C2)
  | (.rt v,τ2,C2)=>some (.rt v,τ2,C2)
  | (.ex v,τ2,C2)=>some (.ex v,τ2,C2)
  else some (.nx,τ,p.2)
theorem aJu(h:trS K W (lU c F n) D σ H):tWhile (trT K c) (trS K W F) D σ H:=by
 obtain⟨H₀,Z,ρ,τ,C,fl,τ',C',R,e,k⟩:=h
 refine⟨fun m σ1 H1=>∃ρ1 τ1 C1,Rel K H₀ Z ρ1 τ1 C1 σ1 H1/\SStep Z H H1 ρ ρ1/\lU c F m τ1 C1=some (fl,τ',C'),⟨n,ρ,τ,C,R,.refl,e⟩,?_⟩
 rintro m σ1 H1 ⟨ρ1,τ1,C1,R1,s1,e1⟩;cases m with
 |zero=>cases e1
 |succ m=>
  unfold lU at e1;obtain⟨⟨b,C2⟩,e2,e1⟩:=aK.mp e1
  refine⟨H₀,Z,ρ1,τ1,C1,b,C2,R1,e2,fun H2 ρ2 R2 s2=>?_⟩
  cases b with
  |false=>
   rw[if_neg (by simp)]at e1|-;cases e1
   exact k σ1 H2 ρ2 R2 (s1.trans s2.ss)
  |true=>
   rw[if_pos rfl]at e1|-;obtain⟨⟨f3,τ3,C3⟩,e3,e1⟩:=aK.mp e1
   refine⟨fun σ' H'=>∃ρ3 τ3 C3,Rel K H₀ Z ρ3 τ3 C3 σ' H'/\SStep Z H H' ρ ρ3/\lU c F m τ3 C3=some (fl,τ',C'),fun σ' H' z=>⟨m,dZ _,z⟩,?_⟩
   refine⟨H₀,Z,ρ2,τ1,C2,f3,τ3,C3,R2,e3,fun σ4 H4 ρ4 R4 s4=>?_⟩
   cases f3 with
   |nx=>exact⟨ρ4,τ3,C3,R4,(s1.trans s2.ss).trans s4,e1⟩
   |ct=>exact⟨ρ4,τ3,C3,R4,(s1.trans s2.ss).trans s4,e1⟩
   |bk=>cases e1;exact k σ4 H4 ρ4 R4 ((s1.trans s2.ss).trans s4)
   |rt v=>cases e1;exact k σ4 H4 ρ4 R4 ((s1.trans s2.ss).trans s4)
   |ex c=>cases e1;exact k σ4 H4 ρ4 R4 ((s1.trans s2.ss).trans s4)
end
section
variable {K:aO}{σ:St}{H:Hp}{Q:VK}
variable{M:Hp}{x y:V}{f fa fb fo:FE}{xs:List V}{d:FB}{D:Ends}
theorem aMW{ρ:Rho}{ts:List T}{vs:List V}{i:Int}{t:T}(h:RTs K M ρ ts vs)(e:atI ts i=some t):∃v,atI vs i=some v/\RT K M ρ t v:=by
 unfold atI at e|-;rw[h.length];cases q:ixN ts.length i with
 |none=>rw[q]at e;cases e
 |some j=>
  rw[q]at e
  exact h.get e
def gIx(t1 t2:T)(C:Sto):Option (T×Sto):=match t2 with
 | .int i=>(sqT C t1).bind fun ts=>(atI ts i).map fun t=>(t,C)
 |_=>none
theorem aOj(h:∃t1 t2,trV K σ [t1,t2] [x,y] (gIx t1 t2) H Q):rIx K x y H Q:=by
 obtain⟨t1,t2,H₀,Z,ρ,τ,C,t,C',R,r,e,k⟩:=h;obtain⟨_,_,z,r1,r⟩:=r.cons_inv;cases z;obtain⟨_,_,z,r2,r⟩:=r.cons_inv;cases z;unfold gIx at e;split at e
 ·obtain⟨ts,e1,e⟩:=aK.mp e;obtain⟨u,e2,e⟩:=aL.mp e;cases e;obtain⟨a,vs,ev,q,rr⟩:=R.sq r1 e1;obtain⟨v,h1,h2⟩:=aMW rr e2;have fin:=k v H ρ R h2 .refl;rcases q with q|q
  ·exact .inl ⟨a,vs,_,v,ev,r2.int_inv,q,h1,fin⟩
  ·exact .inr (.inl ⟨a,vs,_,v,ev,r2.int_inv,q,h1,fin⟩)
 ·cases e
abbrev FO:=TSt->Sto->Option (Option Int×Sto)
noncomputable def mS:FO:=fun _ C=>some (none,C)
noncomputable def rF(f:FE):FO:=fun τ C=>(f τ C).bind fun p=>match p.1 with
 | .int i=>some (some i,p.2)
 |_=>none
noncomputable def trO(K:aO)(f:FO):TO:=fun σ H Q=>∃H₀ Z ρ τ C o C',Rel K H₀ Z ρ τ C σ H/\f τ C=some (o,C')/\
 ∀H' ρ',Rel K H₀ Z ρ' τ C' σ H'->Step H H' ρ ρ'->Q o H'
theorem aGW{Q:Option Int->Hp->Prop}(h:trO K mS σ H Q):tNoPart σ H Q:=by
 obtain⟨H₀,Z,ρ,τ,C,o,C',R,e,k⟩:=h;cases e
 exact k H ρ R .refl
theorem aL1{Q:Option Int->Hp->Prop}(h:trO K (rF f) σ H Q):tPart (trE K f) σ H Q:=by
 obtain⟨H₀,Z,ρ,τ,C,o,C',R,e,k⟩:=h;unfold rF at e;obtain⟨⟨t,C1⟩,e1,e⟩:=aK.mp e;dsimp only at e;split at e
 ·cases e
  exact⟨H₀,Z,ρ,τ,C,_,_,R,e1,fun v H1 ρ1 R1 h1 s1=>⟨_,h1.int_inv,k H1 ρ1 R1 s1⟩⟩
 ·cases e
def aA3(xs:List T)(lo hi:Option Int):List T:=(xs.drop (HT.sIx xs.length 0 lo)).take (HT.sIx xs.length xs.length hi - HT.sIx xs.length 0 lo)
theorem RTs.cut{ρ:Rho}{ts:List T}{vs:List V}(h:RTs K M ρ ts vs)(lo hi:Option Int):RTs K M ρ (aA3 ts lo hi) (aFq vs lo hi):=by
 unfold aA3 aFq;rw[h.length]
 exact(h.drop _).take _
def fSl(f:FE)(lo hi:FO):FN:=fun τ C=>(f τ C).bind fun p=>(lo τ p.2).bind fun q=>(hi τ q.2).bind fun r=>(liT r.2 p.1).map fun ts=>(aA3 ts q.1 r.1,r.2)
theorem aOf{lo hi:FO}(h:trN K (fSl f lo hi) σ H Q):tSl (rSlL K) (trE K f) (trO K lo) (trO K hi) σ H Q:=by
 obtain⟨H₀,Z,ρ,τ,C,ts,C',R,e,k⟩:=h;unfold fSl at e;obtain⟨⟨t,C1⟩,e1,e⟩:=aK.mp e;obtain⟨⟨l,C2⟩,e2,e⟩:=aK.mp e;obtain⟨⟨u,C3⟩,e3,e⟩:=aK.mp e;obtain⟨us,e4,e⟩:=aL.mp e;cases e
 refine⟨H₀,Z,ρ,τ,C,t,C1,R,e1,fun v H1 ρ1 R1 h1 s1=>?_⟩
 refine⟨H₀,Z,ρ1,τ,C1,l,C2,R1,e2,fun H2 ρ2 R2 s2=>?_⟩
 refine⟨H₀,Z,ρ2,τ,C2,u,_,R2,e3,fun H3 ρ3 R3 s3=>?_⟩
 obtain⟨a,vs,ev,q,r⟩:=R3.li ((h1.step s2).step s3) e4
 exact⟨a,vs,ev,q,fun p hp=>k p H3 ρ3 _ R3 hp (r.cut l u) ((s1.trans s2).trans s3)⟩
def rCatL(K:aO):R2:=fun x y H Q=>∃l b xs zs,x=.ref l/\y=.ref b/\SqL K H l xs/\SqL K H b zs/\xs.length+zs.length<=lim/\∀p,H p=none->Q (.ref p) (upd H p (.lst (xs++zs)))
def aFQ(t1 t2:T)(C:Sto):Option (List T):=(liT C t1).bind fun ts=>(liT C t2).bind fun us=>if ts.length+us.length<=lim then some (ts++us)else none
theorem aNo(h:∃t1 t2,trW K σ [t1,t2] [x,y] (aFQ t1 t2) H Q):rCatL K x y H Q:=by
 obtain⟨t1,t2,H₀,Z,ρ,τ,C,us,R,r,e,k⟩:=h;obtain⟨_,_,z,r1,r⟩:=r.cons_inv;cases z;obtain⟨_,_,z,r2,r⟩:=r.cons_inv;cases z;unfold aFQ at e;obtain⟨ts,e1,e⟩:=aK.mp e;obtain⟨ws,e2,e⟩:=aK.mp e;split at e
 ·rename_i hl;cases e;obtain⟨a,vs,ea,qa,ra⟩:=R.li r1 e1;obtain⟨b,zs,eb,qb,rb⟩:=R.li r2 e2
  exact⟨a,b,vs,zs,ea,eb,qa,qb,by rw[ra.length,rb.length];exact hl,fun p hp=>k p H ρ _ R hp (ra.append rb) .refl⟩
 ·cases e
def gK(fa:FN):FN:=rL fa fun ts _=>if ts.length<=lim then some ts else none
theorem aLu{fa:FN}(hz:lim<=sizeLine)(h:trN K (gK fa) σ H Q):tLst (trA K fa) σ H Q:=by
 obtain⟨H₀,Z,ρ,τ,C,ts,C',R,e,k⟩:=aDO h
 refine⟨H₀,Z,ρ,τ,C,ts,C',R,e,fun vs H1 ρ1 R1 h1 s1=>?_⟩
 obtain⟨us,H₀',Z',ρ',τ',C1,ws,R',r,e,k⟩:=k vs H1 ρ1 R1 h1 s1;split at e
 ·rename_i hl;cases e
  exact⟨by rw[r.length];exact cC hl hz,fun p hp=>k p H1 ρ' _ R' hp r .refl⟩
 ·cases e
def aE1(ts:List T)(C:Sto):Option (List T):=match ts with
 | [t]=>sqT C t
 |_=>none
theorem aLt(h:∃ts,trW K σ ts xs (aE1 ts) H Q):∃p ys,xs=[.ref p]/\(SqL K H p ys\/SqT K H p ys)/\∀l,H l=none->Q (.ref l) (upd H l (.lst ys)):=by
 obtain⟨ts,H₀,Z,ρ,τ,C,us,R,r,e,k⟩:=h;unfold aE1 at e;split at e
 ·obtain⟨v,_,rfl,r1,r⟩:=r.cons_inv;rw[r.nil_inv];obtain⟨a,vs,ea,qa,ra⟩:=R.sq r1 e
  exact⟨a,vs,by rw[ea],qa,fun p hp=>k p H ρ _ R hp ra .refl⟩
 ·cases e
def aFd(ts:List T)(C:Sto):Option (T×Sto):=match ts with
 | [t]=>(sqT C t).map fun us=>(.int us.length,C)
 |_=>none
theorem aNP(h:∃ts,trV K σ ts xs (aFd ts) H Q):∃p ys,xs=[.ref p]/\(SqL K H p ys\/SqT K H p ys)/\Q (.int ys.length) H:=by
 obtain⟨ts,H₀,Z,ρ,τ,C,t,C',R,r,e,k⟩:=h;unfold aFd at e;split at e
 ·obtain⟨v,_,rfl,r1,r⟩:=r.cons_inv;rw[r.nil_inv];obtain⟨us,e1,e⟩:=aL.mp e;cases e;obtain⟨a,vs,ea,qa,ra⟩:=R.sq r1 e1
  exact⟨a,vs,by rw[ea],qa,k _ H ρ R (by rw[ra.length];exact .int) .refl⟩
 ·cases e
noncomputable def ints?:List T->Option (List Int)
 | []=>some []
 | .int i::ts=>(ints? ts).map (i:: ·)
 |_::_=>none
noncomputable def bls?:List T->Option (List Bool)
 | []=>some []
 | .bl i::ts=>(bls? ts).map (i:: ·)
 |_::_=>none
theorem aAx{ρ:Rho}:∀{ts:List T}{vs:List V}{ns:List Int},RTs K M ρ ts vs->ints? ts=some ns->vs=ns.map V.int:=by
 intro ts;induction ts with
 |nil=>intro _ _ r e;cases e;rw[r.nil_inv];rfl
 |cons t ts ih=>
  intro _ _ r e;cases t with
  |int i=>
   obtain⟨v,vs,rfl,r1,r⟩:=r.cons_inv;obtain⟨ns,e1,rfl⟩:=aL.mp e;rw[aM,r1.int_inv,ih r e1]
  |_=>cases e
theorem aGs{ρ:Rho}:∀{ts:List T}{vs:List V}{ns:List Bool},RTs K M ρ ts vs->bls? ts=some ns->vs=ns.map V.bl:=by
 intro ts;induction ts with
 |nil=>intro _ _ r e;cases e;rw[r.nil_inv];rfl
 |cons t ts ih=>
  intro _ _ r e;cases t with
  |bl i=>
   obtain⟨v,vs,rfl,r1,r⟩:=r.cons_inv;obtain⟨ns,e1,rfl⟩:=aL.mp e;rw[aM,r1.bl_inv,ih r e1]
  |_=>cases e
theorem qP(ns:List Int):ints? (ns.map T.int)=some ns:=by
 induction ns with
 |nil=>rfl
 |cons n ns ih=>simp[ints?,ih]
theorem aH2(ns:List Bool):bls? (ns.map T.bl)=some ns:=by
 induction ns with
 |nil=>rfl
 |cons n ns ih=>simp[bls?,ih]
def wJ(c:List Int->Bool)(f:List Int->Int)(ts:List T)(C:Sto):Option (T×Sto):=match ts with
 | [t]=>(liT C t).bind fun us=>(ints? us).bind fun ns=>if c ns=true then some (.int (f ns),C)else none
 |_=>none
def aCa(K:aO)(c:List Int->Bool)(f:List Int->Int):List V->Hp->VK->Prop:=fun xs H Q=>∃p ns,xs=[.ref p]/\SqL K H p (ns.map V.int)/\c ns=true/\Q (.int (f ns)) H
theorem aDZ{c:List Int->Bool}{f:List Int->Int}(h:∃ts,trV K σ ts xs (wJ c f ts) H Q):aCa K c f xs H Q:=by
 obtain⟨ts,H₀,Z,ρ,τ,C,t,C',R,r,e,k⟩:=h;unfold wJ at e;split at e
 ·obtain⟨v,_,rfl,r1,r⟩:=r.cons_inv;rw[r.nil_inv];obtain⟨us,e1,e⟩:=aK.mp e;obtain⟨ns,e2,e⟩:=aK.mp e;split at e
  ·rename_i hc;cases e;obtain⟨a,vs,ea,qa,ra⟩:=R.li r1 e1;have:=aAx ra e2;subst this
   exact⟨a,ns,by rw[ea],qa,hc,k _ H ρ R .int .refl⟩
  ·cases e
 ·cases e
def aIk(f:List Bool->Bool)(ts:List T)(C:Sto):Option (T×Sto):=match ts with
 | [t]=>(liT C t).bind fun us=>(bls? us).map fun ns=>(.bl (f ns),C)
 |_=>none
def rBls(K:aO)(f:List Bool->Bool):List V->Hp->VK->Prop:=fun xs H Q=>∃p ns,xs=[.ref p]/\SqL K H p (ns.map V.bl)/\Q (.bl (f ns)) H
theorem aNF{f:List Bool->Bool}(h:∃ts,trV K σ ts xs (aIk f ts) H Q):rBls K f xs H Q:=by
 obtain⟨ts,H₀,Z,ρ,τ,C,t,C',R,r,e,k⟩:=h;unfold aIk at e;split at e
 ·obtain⟨v,_,rfl,r1,r⟩:=r.cons_inv;rw[r.nil_inv];obtain⟨us,e1,e⟩:=aK.mp e;obtain⟨ns,e2,e⟩:=aL.mp e;cases e;obtain⟨a,vs,ea,qa,ra⟩:=R.li r1 e1;have:=aGs ra e2;subst this
  exact⟨a,ns,by rw[ea],qa,k _ H ρ R .bl .refl⟩
 ·cases e
noncomputable def gI2(f:Int->Int->Int)(ts:List T)(C:Sto):Option (T×Sto):=match ts with
 | [.int i,.int j]=>some (.int (f i j),C)
 |_=>none
theorem aNy{f:Int->Int->Int}(h:∃ts,trV K σ ts xs (gI2 f ts) H Q):∃i j,xs=[.int i,.int j]/\Q (.int (f i j)) H:=by
 obtain⟨ts,H₀,Z,ρ,τ,C,t,C',R,r,e,k⟩:=h;unfold gI2 at e;split at e
 ·obtain⟨v,_,rfl,r1,r⟩:=r.cons_inv;obtain⟨w,_,rfl,r2,r⟩:=r.cons_inv;rw[r.nil_inv,r1.int_inv,r2.int_inv];cases e
  exact⟨_,_,rfl,k _ H ρ R .int .refl⟩
 ·cases e
def aMx(C:Sto):T->Option Bool
 | .non=>some false
 | .bl b=>some b
 | .int i=>some (i !=0)
 | .lst ts=>some (!ts.isEmpty)
 | .tup ts=>some (!ts.isEmpty)
 | .cell c=>(lc C c).map fun ts=> !ts.isEmpty
 | .str _=>none
 | .exc _=>none
def mK(f:FE):FB:=fun τ C=>(f τ C).bind fun p=>(aMx p.2 p.1).map fun b=>(b,p.2)
theorem rT{ρ:Rho}{ts:List T}{vs:List V}(h:RTs K M ρ ts vs):vs.isEmpty=ts.isEmpty:=by
 cases ts with
 |nil=>rw[h.nil_inv];rfl
 |cons t ts=>obtain⟨v,r,rfl,_⟩:=h.cons_inv;rfl
theorem aNM{Q:Bool->Hp->Prop}(h:trT K (mK f) σ H Q):trE K f σ H fun x H1=>∃k,aNn K x H1 k/\Q k H1:=by
 obtain⟨H₀,Z,ρ,τ,C,b,C',R,e,k⟩:=h;unfold mK at e;obtain⟨⟨t,C1⟩,e1,e⟩:=aK.mp e;obtain⟨b',e2,e⟩:=aL.mp e;cases e
 refine⟨H₀,Z,ρ,τ,C,t,_,R,e1,fun v H1 ρ1 R1 h1 s1=>⟨b,?_,k H1 ρ1 R1 s1⟩⟩
 dsimp only at e2 R1;cases t with
 |non=>rw[h1.non_inv];cases e2;rfl
 |bl c=>rw[h1.bl_inv];cases e2;rfl
 |int i=>rw[h1.int_inv];cases e2;rfl
 |str x=>cases e2
 |exc x=>cases e2
 |lst ts=>
  obtain⟨a,vs,ea,qa,ra⟩:=R1.li h1 rfl;rw[ea];cases e2
  exact .inl ⟨vs,qa,by rw[rT ra]⟩
 |tup ts=>
  unfold RT at h1;obtain⟨a,vs,ea,qa,ra⟩:=h1;rw[ea];cases e2
  exact .inr (.inl ⟨vs,SqT.msk (.of qa),by rw[rT ra]⟩)
 |cell c=>
  obtain⟨ts,e3,e2⟩:=aL.mp e2;obtain⟨a,vs,ea,qa,ra⟩:=R1.li h1 e3;rw[ea];cases e2
  exact .inl ⟨vs,qa,by rw[rT ra]⟩
noncomputable def iC(f:FE):FB:=fun τ C=>(f τ C).bind fun p=>match p.1 with
 | .bl b=>some (b,p.2)
 |_=>none
theorem aGx{te:TE}{Q:Bool->Hp->Prop}(hi:∀σ H Q,trE K f σ H Q->te σ H Q)(h:trT K (iC f) σ H Q):tTest te σ H Q:=by
 obtain⟨H₀,Z,ρ,τ,C,b,C',R,e,k⟩:=h;unfold iC at e;obtain⟨⟨t,C1⟩,e1,e⟩:=aK.mp e;dsimp only at e;split at e
 ·cases e
  exact hi _ _ _ ⟨H₀,Z,ρ,τ,C,_,_,R,e1,fun v H1 ρ1 R1 h1 s1=>⟨_,h1.bl_inv,k H1 ρ1 R1 s1⟩⟩
 ·cases e
noncomputable def nV(c d:FB):FB:=fun τ C=>(c τ C).bind fun p=>if p.1=true then d τ p.2 else some (false,p.2)
noncomputable def oE(c d:FB):FB:=fun τ C=>(c τ C).bind fun p=>if p.1=true then some (true,p.2)else d τ p.2
noncomputable def k6(c:FB):FB:=fun τ C=>(c τ C).map fun p=>(!p.1,p.2)
theorem aM9{c:FB}{Q:Bool->Hp->Prop}(h:trT K (nV c d) σ H Q):tAnd (trT K c) (trT K d) σ H Q:=by
 obtain⟨H₀,Z,ρ,τ,C,b,C',R,e,k⟩:=h;unfold nV at e;obtain⟨⟨b1,C1⟩,e1,e⟩:=aK.mp e
 refine⟨H₀,Z,ρ,τ,C,b1,C1,R,e1,fun H1 ρ1 R1 s1=>?_⟩
 cases b1 with
 |true=>
  rw[if_pos rfl]at e|-
  exact⟨H₀,Z,ρ1,τ,C1,b,C',R1,e,fun H2 ρ2 R2 s2=>k H2 ρ2 R2 (s1.trans s2)⟩
 |false=>
  rw[if_neg (by simp)]at e|-;cases e
  exact k H1 ρ1 R1 s1
theorem aN3{c:FB}{Q:Bool->Hp->Prop}(h:trT K (oE c d) σ H Q):tOr (trT K c) (trT K d) σ H Q:=by
 obtain⟨H₀,Z,ρ,τ,C,b,C',R,e,k⟩:=h;unfold oE at e;obtain⟨⟨b1,C1⟩,e1,e⟩:=aK.mp e
 refine⟨H₀,Z,ρ,τ,C,b1,C1,R,e1,fun H1 ρ1 R1 s1=>?_⟩
 cases b1 with
 |false=>
  rw[if_neg (by simp)]at e|-
  exact⟨H₀,Z,ρ1,τ,C1,b,C',R1,e,fun H2 ρ2 R2 s2=>k H2 ρ2 R2 (s1.trans s2)⟩
 |true=>
  rw[if_pos rfl]at e|-;cases e
  exact k H1 ρ1 R1 s1
theorem aLN{c:FB}{Q:Bool->Hp->Prop}(h:trT K (k6 c) σ H Q):tNot (trT K c) σ H Q:=by
 obtain⟨H₀,Z,ρ,τ,C,b,C',R,e,k⟩:=h;unfold k6 at e;obtain⟨⟨b1,C1⟩,e1,e⟩:=aL.mp e;cases e
 exact⟨H₀,Z,ρ,τ,C,b1,_,R,e1,fun H1 ρ1 R1 s1=>k H1 ρ1 R1 s1⟩
noncomputable def wZ(fa fb:FE):FE:=fun τ C=>(fa τ C).bind fun p=>match p.1 with
 | .bl true=>fb τ p.2
 | .bl false=>some (.bl false,p.2)
 |_=>none
noncomputable def aAy(fa:FE):FE:=fun τ C=>(fa τ C).bind fun p=>match p.1 with
 | .bl b=>some (.bl (!b),p.2)
 |_=>none
theorem aMq(h:trE K (wZ fa fb) σ H Q):tAndV (trE K fa) (trE K fb) σ H Q:=by
 obtain⟨H₀,Z,ρ,τ,C,t,C',R,e,k⟩:=h;unfold wZ at e;obtain⟨⟨t1,C1⟩,e1,e⟩:=aK.mp e
 refine⟨H₀,Z,ρ,τ,C,t1,C1,R,e1,fun v H1 ρ1 R1 h1 s1=>?_⟩
 dsimp only at e;split at e
 ·refine⟨true,h1.bl_inv,?_⟩
  rw[if_pos rfl]
  exact⟨H₀,Z,ρ1,τ,C1,t,C',R1,e,fun v H2 ρ2 R2 h2 s2=>k v H2 ρ2 R2 h2 (s1.trans s2)⟩
 ·refine⟨false,h1.bl_inv,?_⟩
  rw[if_neg (by simp)];cases e
  exact k _ H1 ρ1 R1 .bl s1
 ·cases e
theorem aLA(h:trE K (aAy fa) σ H Q):tNotV (trE K fa) σ H Q:=by
 obtain⟨H₀,Z,ρ,τ,C,t,C',R,e,k⟩:=h;unfold aAy at e;obtain⟨⟨t1,C1⟩,e1,e⟩:=aK.mp e
 refine⟨H₀,Z,ρ,τ,C,t1,C1,R,e1,fun v H1 ρ1 R1 h1 s1=>?_⟩
 dsimp only at e;split at e
 ·cases e
  exact⟨_,h1.bl_inv,k _ H1 ρ1 R1 .bl s1⟩
 ·cases e
noncomputable def aL8(c:FB)(fa fb:FE):FE:=fun τ C=>(c τ C).bind fun p=>if p.1=true then fa τ p.2 else fb τ p.2
noncomputable def tZ(fa fb fc:FE)(p q:Int->Int->Bool):FE:=fun τ C=>(fa τ C).bind fun x=>(fb τ x.2).bind fun y=>match x.1,y.1 with
 | .int i,.int j=>if p i j=true then(fc τ y.2).bind fun z=>match z.1 with
  | .int l=>some (.bl (q j l),z.2)
  |_=>none
   else some (.bl false,y.2)
 |_,_=>none
theorem aJK{fc:FE}{p q:Int->Int->Bool}(h:trE K (tZ fa fb fc p q) σ H Q):
 tChain (fun x y H Q=>∃i j,x=.int i/\y=.int j/\Q (.bl (p i j)) H) (fun x y H Q=>∃i j,x=.int i/\y=.int j/\Q (.bl (q i j)) H) (trE K fa) (trE K fb) (trE K fc) σ H Q:=by
 obtain⟨H₀,Z,ρ,τ,C,t,C',R,e,k⟩:=h;unfold tZ at e;obtain⟨⟨t1,C1⟩,e1,e⟩:=aK.mp e;obtain⟨⟨t2,C2⟩,e2,e⟩:=aK.mp e
 refine⟨H₀,Z,ρ,τ,C,t1,C1,R,e1,fun x H1 ρ1 R1 h1 s1=>?_⟩
 refine⟨H₀,Z,ρ1,τ,C1,t2,C2,R1,e2,fun y H2 ρ2 R2 h2 s2=>?_⟩
 dsimp only at e;split at e
 ·refine⟨_,_,h1.int_inv,h2.int_inv,_,rfl,?_⟩
  split at e
  ·rename_i hp;rw[if_pos hp];obtain⟨⟨t3,C3⟩,e3,e⟩:=aK.mp e
   refine⟨H₀,Z,ρ2,τ,C2,t3,C3,R2,e3,fun z H3 ρ3 R3 h3 s3=>?_⟩
   dsimp only at e;split at e
   ·cases e
    exact⟨_,_,h2.int_inv,h3.int_inv,k _ H3 ρ3 R3 .bl ((s1.trans s2).trans s3)⟩
   ·cases e
  ·rename_i hp;rw[if_neg hp];cases e
   exact k _ H2 ρ2 R2 .bl (s1.trans s2)
 ·cases e
def rM(fe fo fi:FE):FS:=fun τ C=>(fe τ C).bind fun p=>(fo τ p.2).bind fun q=>(fi τ q.2).bind fun r=>match q.1,r.1 with
 | .cell c,.int i=>(lc r.2 c).bind fun ts=>(ixN ts.length i).map fun j=>(.nx,τ,r.2.set c (.l,ts.set j p.1))
 |_,_=>none
theorem aLx{fe fi:FE}(h:trS K W (rM fe fo fi) D σ H):aCX (trE K fe) (gSub (trE K fo) (trE K fi) rSetL) D σ H:=by
 obtain⟨H₀,Z,ρ,τ,C,fl,τ',C',R,e,k⟩:=h;unfold rM at e;obtain⟨⟨t1,C1⟩,e1,e⟩:=aK.mp e;obtain⟨⟨t2,C2⟩,e2,e⟩:=aK.mp e;obtain⟨⟨t3,C3⟩,e3,e⟩:=aK.mp e
 refine⟨H₀,Z,ρ,τ,C,t1,C1,R,e1,fun x H1 ρ1 R1 h1 s1=>?_⟩
 refine⟨H₀,Z,ρ1,τ,C1,t2,C2,R1,e2,fun y H2 ρ2 R2 h2 s2=>?_⟩
 refine⟨H₀,Z,ρ2,τ,C2,t3,C3,R2,e3,fun z H3 ρ3 R3 h3 s3=>?_⟩
 dsimp only at e;split at e
 ·obtain⟨ts,e4,e⟩:=aK.mp e;obtain⟨j,e5,e⟩:=aL.mp e;cases e;have h2':=h2.step s3;unfold RT at h2';obtain⟨a,ea,qa⟩:=h2';obtain⟨vs,c2,c3⟩:=R3.celL qa (gL.mp e4);obtain⟨w1,w2⟩:=R3.write qa (by rw[c2];trivial) (c3.set ((h1.step s2).step s3) j)
  exact⟨a,vs,_,j,ea,h3.int_inv,c2,by rw[c3.length];exact e5,k σ _ ρ3 w1 (((s1.trans s2).trans s3).ss.trans w2)⟩
 ·cases e
def aFi(fo:FE)(fa:FN)(g:List T->List T->Option (List T)):FS:=fun τ C=>(fo τ C).bind fun p=>(fa τ p.2).bind fun q=>match p.1 with
 | .cell c=>(lc p.2 c).bind fun _=>(lc q.2 c).bind fun ts=>(g ts q.1).map fun us=>(.nx,τ,q.2.set c (.l,us))
 |_=>none
def aMJ(g:List V->List V->Option (List V)):V->List V->Hp->VK->Prop:=fun x vs H Q=>∃l xs ys,x=.ref l/\H l=some (.lst xs)/\g xs vs=some ys/\Q .non (upd H l (.lst ys))
theorem aKY{fa:FN}{g:List T->List T->Option (List T)}{gv:List V->List V->Option (List V)}
 (hg:∀M ρ ts us ws vs xs,RTs K M ρ ts vs->RTs K M ρ us xs->g ts us=some ws->∃ys,gv vs xs=some ys/\RTs K M ρ ws ys)
 (h:trS K W (aFi fo fa g) D σ H):aED (tBM K "list" (aMJ gv) (trE K fo) (trA K fa)) D σ H:=by
 obtain⟨H₀,Z,ρ,τ,C,fl,τ',C',R,e,k⟩:=h;unfold aFi at e;obtain⟨⟨t1,C1⟩,e1,e⟩:=aK.mp e;obtain⟨⟨t2,C2⟩,e2,e⟩:=aK.mp e
 refine⟨H₀,Z,ρ,τ,C,t1,C1,R,e1,fun x H1 ρ1 R1 h1 s1=>?_⟩
 dsimp only at e;split at e
 ·obtain⟨_,e3,e⟩:=aK.mp e;obtain⟨ts,e4,e⟩:=aK.mp e;obtain⟨us,e5,e⟩:=aL.mp e;cases e
  refine⟨?_,H₀,Z,ρ1,τ,C1,t2,C2,R1,e2,fun xs H2 ρ2 R2 h2 s2=>?_⟩
  ·have h1':=h1;unfold RT at h1';obtain⟨a,ea,qa⟩:=h1';obtain⟨vs,c2,c3⟩:=R1.celL qa (gL.mp e3);rw[ea]
   exact .inl ⟨rfl,vs,.of c2⟩
  ·have h1':=h1.step s2;unfold RT at h1';obtain⟨a,ea,qa⟩:=h1';obtain⟨vs,c2,c3⟩:=R2.celL qa (gL.mp e4);obtain⟨ys,y1,y2⟩:=hg _ _ _ _ _ _ _ c3 h2 e5;obtain⟨w1,w2⟩:=R2.write qa (by rw[c2];trivial) y2
   exact⟨a,vs,ys,ea,c2,y1,k σ _ ρ2 w1 ((s1.trans s2).ss.trans w2)⟩
 ·cases e
end
mutual
def CF:T->Bool
 | .cell _=>false
 | .lst ts=>CFs ts
 | .tup ts=>CFs ts
 |_=>true
def CFs:List T->Bool
 | []=>true
 |t::ts=>CF t&&CFs ts
end
theorem v4{ts:List T}:CFs ts=true↔∀t∈ts,CF t=true:=by
 induction ts with
 |nil=>simp[CFs]
 |cons t ts ih=>simp[CFs,ih]
section
variable {K:aO}{σ:St}{H:Hp}{Q:VK}
mutual
theorem RT.cf{M:Hp}{ρ ρ':Rho}:∀{t:T}{v:V},CF t=true->RT K M ρ t v->RT K M ρ' t v
 | .non,_,_,h=>by unfold RT at*;exact h
 | .bl _,_,_,h=>by unfold RT at*;exact h
 | .int _,_,_,h=>by unfold RT at*;exact h
 | .str _,_,_,h=>by unfold RT at*;exact h
 | .exc _,_,_,h=>by unfold RT at*;exact h
 | .lst ts,v,c,h=>by
   unfold RT at*;obtain⟨a,vs,e,q,r⟩:=h
   exact⟨a,vs,e,q,RTs.cf (by unfold CF at c;exact c) r⟩
 | .tup ts,v,c,h=>by
   unfold RT at*;obtain⟨a,vs,e,q,r⟩:=h
   exact⟨a,vs,e,q,RTs.cf (by unfold CF at c;exact c) r⟩
 | .cell c,_,h,_=>by unfold CF at h;cases h
theorem RTs.cf{M:Hp}{ρ ρ':Rho}:∀{ts:List T}{vs:List V},CFs ts=true->RTs K M ρ ts vs->RTs K M ρ' ts vs
 | [],_,_,h=>by unfold RTs at*;exact h
 |t::ts,vs,c,h=>by
  unfold CFs at c;rw[aOA]at c;unfold RTs at*;obtain⟨v,r,e,h1,h2⟩:=h
  exact⟨v,r,e,RT.cf c.1 h1,RTs.cf c.2 h2⟩
end
variable{H₀ M M':Hp}{τ:TSt}{C:Sto}{neg:Bool}{x y:V}{n m k:Nat}{F:List T->Option (List T)}{E:XK}{α:Type}{D:Addr}{is:List Nat}{g:FG}{tc:FB}{fe f:FE}
noncomputable def mapO(f:T->Option T):List T->Option (List T)
 | []=>some []
 |t::ts=>(f t).bind fun u=>(mapO f ts).map (u:: ·)
def dr:Nat->Sto->T->Option T
 |0,_,t=>if CF t=true then some t else none
 |n+1,C,.cell c=>(lc C c).bind fun ts=>(mapO (dr n C) ts).map T.lst
 |n+1,C,.lst ts=>if CFs ts=true then some (.lst ts)else(mapO (dr n C) ts).map T.lst
 |n+1,C,.tup ts=>if CFs ts=true then some (.tup ts)else(mapO (dr n C) ts).map T.tup
 |_+1,_,t=>if CF t=true then some t else none
theorem qU{Z:Addr->Prop}{ρ:Rho}:Same (mask H Z ρ) (mask H Z []):=fun a o h=>by
 obtain⟨h1,h2,h3⟩:=lK.mp h
 exact mF h1 (by simp) h3
theorem RTs.mapO{M M':Hp}{ρ ρ':Rho}{f:T->Option T}(hf:∀t v t',RT K M ρ t v->f t=some t'->RT K M' ρ' t' v):∀{ts:List T}{vs:List V}{us:List T},RTs K M ρ ts vs->TL.mapO f ts=some us->RTs K M' ρ' us vs
 | [],_,_,h,e=>by cases e;rw[h.nil_inv];exact .nil
 |t::ts,_,us,h,e=>by
  obtain⟨v,r,rfl,h1,h2⟩:=h.cons_inv;unfold TL.mapO at e;obtain⟨u,e1,e⟩:=aK.mp e;obtain⟨us,e2,rfl⟩:=aL.mp e
  exact .cons (hf t v u h1 e1) (RTs.mapO hf h2 e2)
theorem Rel.dr{Z:Addr->Prop}{ρ:Rho}(R:Rel K H₀ Z ρ τ C σ H):∀(n:Nat)(t:T)(v:V)(t':T),RT K (mask H Z ρ) ρ t v->TL.dr n C t=some t'->RT K (mask H Z []) [] t' v:=by
 intro n;induction n with
 |zero=>
  intro t v t' h e;unfold TL.dr at e;split at e
  ·rename_i hc;cases e
   exact(h.cf hc).mono qU (fun c a z=>z)
  ·cases e
 |succ n ih=>
  intro t v t' h e;by_cases hc:∃c,t=.cell c
  ·obtain⟨c,rfl⟩:=hc;unfold TL.dr at e;obtain⟨ts,e1,e⟩:=aK.mp e;obtain⟨us,e2,rfl⟩:=aL.mp e;unfold RT at h;obtain⟨a,ea,qa⟩:=h;obtain⟨vs,c2,c3⟩:=R.celL qa (gL.mp e1);unfold RT
   exact⟨a,vs,ea,.of (mF (R.frs a (bB qa)).2 (by simp) c2),c3.mapO ih e2⟩
  ·have fin:CF t=true->t=t'->RT K (mask H Z []) [] t' v:=fun hc z=>by
    subst z
    exact(h.cf hc).mono qU (fun c a z=>z)
   have e'':∀{p:Bool}{u:T},(if p=true then some u else none)=some t'->p=true/\u=t':=fun {p u} z=>by
    cases p with
    |true=>exact⟨rfl,cN.inj z⟩
    |false=>cases z
   cases t with
   |cell c=>exact absurd ⟨c,rfl⟩ hc
   |lst ts=>
    unfold TL.dr at e;split at e
    ·rename_i hc
     exact fin (by unfold CF;exact hc) (cN.inj e)
    ·obtain⟨us,e2,rfl⟩:=aL.mp e;unfold RT at h;obtain⟨a,vs,ea,qa,ra⟩:=h;unfold RT
     exact⟨a,vs,ea,qU.seq qa,ra.mapO ih e2⟩
   |tup ts=>
    unfold TL.dr at e;split at e
    ·rename_i hc
     exact fin (by unfold CF;exact hc) (cN.inj e)
    ·obtain⟨us,e2,rfl⟩:=aL.mp e;unfold RT at h;obtain⟨a,vs,ea,qa,ra⟩:=h;unfold RT
     exact⟨a,vs,ea,qU _ _ qa,ra.mapO ih e2⟩
   |non=>exact fin (e'' e).1 (e'' e).2
   |bl _=>exact fin (e'' e).1 (e'' e).2
   |int _=>exact fin (e'' e).1 (e'' e).2
   |str _=>exact fin (e'' e).1 (e'' e).2
   |exc _=>exact fin (e'' e).1 (e'' e).2
noncomputable def eqF:T->T->Option Bool
 | .bl a,.bl b=>some (a==b)
 | .int a,.int b=>some (a==b)
 | .str a,.str b=>some (a==b)
 |_,_=>none
noncomputable def eqL(e:T->T->Option Bool):List T->List T->Option Bool
 | [],[]=>some true
 |x::xs,y::ys=>(e x y).bind fun a=>(eqL e xs ys).map fun b=>a&&b
 |_,_=>none
def eqT:Nat->T->T->Option Bool
 |n+1,.lst xs,.lst ys=>if xs.length=ys.length then eqL (eqT n) xs ys else some false
 |_,a,b=>eqF a b
def aNj(K:aO)(neg:Bool):R2:=fun x y H Q=>∃t1 t2 b,RT K H [] t1 x/\RT K H [] t2 y/\eqT 5 t1 t2=some b/\Q (.bl (if neg then !b else b)) H
def gEq(neg:Bool)(t1 t2:T)(C:Sto):Option (T×Sto):=(dr 3 C t1).bind fun u1=>(dr 3 C t2).bind fun u2=>(eqT 5 u1 u2).map fun b=>(.bl (if neg then !b else b),C)
theorem aLK(h:∃t1 t2,trV K σ [t1,t2] [x,y] (gEq neg t1 t2) H Q):aNj K neg x y H Q:=by
 obtain⟨t1,t2,H₀,Z,ρ,τ,C,t,C',R,r,e,k⟩:=h;obtain⟨_,_,z,r1,r⟩:=r.cons_inv;cases z;obtain⟨_,_,z,r2,r⟩:=r.cons_inv;cases z;unfold gEq at e;obtain⟨u1,e1,e⟩:=aK.mp e;obtain⟨u2,e2,e⟩:=aK.mp e;obtain⟨b,e3,e⟩:=aL.mp e;cases e
 exact⟨u1,u2,b,(R.dr _ _ _ _ r1 e1).mono nY (fun c a z=>z),(R.dr _ _ _ _ r2 e2).mono nY (fun c a z=>z),e3,k _ H ρ R .bl .refl⟩
noncomputable def inL(e:T->Option Bool):List T->Option Bool
 | []=>some false
 |x::xs=>(e x).bind fun a=>(inL e xs).map fun b=>a||b
def aMr(K:aO)(neg:Bool):R2:=fun x y H Q=>∃t p vs ts b,RT K H [] t x/\y=.ref p/\SqL K H p vs/\RTs K H [] ts vs/\inL (fun u=>eqT 5 u t) ts=some b/\Q (.bl (if neg then !b else b)) H
def gIn(neg:Bool)(t1 t2:T)(C:Sto):Option (T×Sto):=(dr 3 C t1).bind fun u1=>(liT C t2).bind fun ts=>(mapO (dr 3 C) ts).bind fun us=>(inL (fun u=>eqT 5 u u1) us).map fun b=>(.bl (if neg then !b else b),C)
theorem aM1(h:∃t1 t2,trV K σ [t1,t2] [x,y] (gIn neg t1 t2) H Q):aMr K neg x y H Q:=by
 obtain⟨t1,t2,H₀,Z,ρ,τ,C,t,C',R,r,e,k⟩:=h;obtain⟨_,_,z,r1,r⟩:=r.cons_inv;cases z;obtain⟨_,_,z,r2,r⟩:=r.cons_inv;cases z;unfold gIn at e;obtain⟨u1,e1,e⟩:=aK.mp e;obtain⟨ts,e2,e⟩:=aK.mp e;obtain⟨us,e4,e⟩:=aK.mp e;obtain⟨b,e3,e⟩:=aL.mp e;cases e;obtain⟨a,vs,ea,qa,ra⟩:=R.li r2 e2
 exact⟨u1,a,vs,us,b,(R.dr _ _ _ _ r1 e1).mono nY (fun c a z=>z),ea,qa,ra.mapO (fun t v t' h e=>(R.dr _ _ _ _ h e).mono nY (fun c a z=>z)) e4,e3,k _ H ρ R .bl .refl⟩
def spT(K:aO)(n:Nat)(F:List T->Option T):Sp:=fun vs H Q _=>∃Z ts t,ts.length=n/\(∀a,Z a->NT (H a))/\RTs K (mask H Z []) [] ts vs/\F ts=some t/\
 ∀v H',Same H H'->RT K (mask H' Z []) [] t v->Q v H'
def spN(K:aO)(n:Nat)(F:List T->Option (List T)):Sp:=fun vs H Q _=>∃Z ts us,ts.length=n/\(∀a,Z a->NT (H a))/\RTs K (mask H Z []) [] ts vs/\F ts=some us/\
 ∀p H' ws,Same H H'->H' p=none->RTs K (mask H' Z []) [] us ws->Q (.ref p) (upd H' p (.lst ws))
theorem iA{F:List T->Option T}:∀vs H Q E,spT K n F vs H Q E->vs.length=n:=fun vs H Q E zz=>by obtain⟨Z,ts,t,h,_,r,_⟩:=zz;rw[r.length,h]
theorem aKO:∀vs H Q E,spN K n F vs H Q E->vs.length=n:=fun vs H Q E zz=>by obtain⟨Z,ts,t,h,_,r,_⟩:=zz;rw[r.length,h]
noncomputable def sca:T->Bool
 | .non=>true
 | .bl _=>true
 | .int _=>true
 | .str _=>true
 |_=>false
theorem RT.sca{ρ ρ':Rho}{t:T}{v:V}(hs:TL.sca t=true)(h:RT K M ρ t v):RT K M' ρ' t v:=by
 cases t with
 |non=>unfold RT at*;exact h
 |bl _=>unfold RT at*;exact h
 |int _=>unfold RT at*;exact h
 |str _=>unfold RT at*;exact h
 |_=>cases hs
theorem RTs.sca{ρ ρ':Rho}:∀{ts:List T}{vs:List V},ts.all TL.sca=true->RTs K M ρ ts vs->RTs K M' ρ' ts vs
 | [],_,_,h=>by rw[h.nil_inv];exact .nil
 |t::ts,_,hs,h=>by
  obtain⟨v,r,rfl,h1,h2⟩:=h.cons_inv;rw[aPT,aOA]at hs
  exact .cons (h1.sca hs.1) (h2.sca hs.2)
def jZ(n:Nat)(F:List T->Option T)(ts:List T)(C:Sto):Option (T×Sto):=if ts.length=n then
 if CFs ts=true then(F ts).map fun t=>(t,C)
 else(mapO (dr 3 C) ts).bind fun us=>(F us).bind fun t=>if sca t=true then some (t,C)else none
 else none
def uA(n:Nat)(F:List T->Option (List T))(ts:List T)(C:Sto):Option (List T):=if ts.length=n then
 if CFs ts=true then F ts
 else(mapO (dr 3 C) ts).bind fun us=>(F us).bind fun t=>if t.all sca=true then some t else none
 else none
theorem sY{Z:Addr->Prop}{ρ:Rho}:mask H (fun a=>Z a\/a∈ρ) []=mask H Z ρ:=by
 funext a;unfold mask;by_cases h:Z a\/a∈ρ
 ·rw[if_pos (.inl h),if_pos h]
 ·rw[if_neg (by rintro(z|z);·exact h z
                ·cases z),if_neg h]
theorem wC{f:T->Option T}:∀{ts us:List T},mapO f ts=some us->us.length=ts.length
 | [],_,e=>by cases e;rfl
 |t::ts,us,e=>by
  unfold mapO at e;obtain⟨u,e1,e⟩:=aK.mp e;obtain⟨us,e2,rfl⟩:=aL.mp e;simp[wC e2]
theorem Rel.cel_some{Z:Addr->Prop}{ρ:Rho}(R:Rel K H₀ Z ρ τ C σ H){a:Addr}(ha:a∈ρ):NT (H a):=by
 obtain⟨c,hc⟩:=bN.mp ha;obtain⟨_,_,_,_,h,hb,_⟩:=R.cel c a hc;rw[h];exact hb.nt
theorem aLE{F:List T->Option T}{vs:List V}(h:∃ts,trV K σ ts vs (jZ n F ts) H Q):spT K n F vs H Q E:=by
 obtain⟨ts,H₀,Z,ρ,τ,C,t,C',R,r,e,k⟩:=h;unfold jZ at e;split at e
 ·rename_i hn;split at e
  ·rename_i hc;obtain⟨u,e1,e⟩:=aL.mp e;cases e
   refine⟨fun a=>Z a\/a∈ρ,ts,_,hn,fun a z=>?_,by rw[sY];exact r.cf hc,e1,fun v H' sm rv=>?_⟩
   ·rcases z with z|z
    ·exact R.zd a z
    ·exact R.cel_some z
   ·obtain⟨R',st⟩:=R.same sm;rw[sY]at rv
    exact k v H' ρ R' (rv.mono (.refl _) (fun c a z=>by cases z)) st
  ·obtain⟨us,e1,e⟩:=aK.mp e;obtain⟨u,e2,e⟩:=aK.mp e;split at e
   ·rename_i hs;cases e
    refine⟨Z,us,_,(wC e1).trans hn,R.zd,r.mapO (fun t v t' h e=>R.dr _ _ _ _ h e) e1,e2,fun v H' sm rv=>?_⟩
    obtain⟨R',st⟩:=R.same sm
    exact k v H' ρ R' (rv.sca hs) st
   ·cases e
 ·cases e
theorem aKo{vs:List V}(h:∃ts,trW K σ ts vs (uA n F ts) H Q):spN K n F vs H Q E:=by
 obtain⟨ts,H₀,Z,ρ,τ,C,us,R,r,e,k⟩:=h;unfold uA at e;split at e
 ·rename_i hn;split at e
  ·rename_i hc
   refine⟨fun a=>Z a\/a∈ρ,ts,_,hn,fun a z=>?_,by rw[sY];exact r.cf hc,e,fun p H' ws sm hp rv=>?_⟩
   ·rcases z with z|z
    ·exact R.zd a z
    ·exact R.cel_some z
   ·obtain⟨R',st⟩:=R.same sm;rw[sY]at rv
    exact k p H' ρ ws R' hp (rv.mono (.refl _) (fun c a z=>by cases z)) st
  ·obtain⟨ws,e1,e⟩:=aK.mp e;obtain⟨u,e2,e⟩:=aK.mp e;split at e
   ·rename_i hs;cases e
    refine⟨Z,ws,_,(wC e1).trans hn,R.zd,r.mapO (fun t v t' h e=>R.dr _ _ _ _ h e) e1,e2,fun p H' ws sm hp rv=>?_⟩
    obtain⟨R',st⟩:=R.same sm
    exact k p H' ρ ws R' hp (rv.sca hs) st
   ·cases e
 ·cases e
noncomputable def st0(m:Nat)(ts:List T):TSt:=ts.map some++aT (m - ts.length) none
theorem Rel.start{Z:Addr->Prop}{ts:List T}{vs:List V}(hz:∀a,Z a->NT (H a))(h:RTs K (mask H Z []) [] ts vs):
 Rel K H Z [] (st0 m ts) [] (vs.map some++aT (m - vs.length) none) H:=by
 refine⟨.refl _,(fun a ha=>nomatch ha),aPQ,hz,fun i t e=>?_,(fun c a e=>nomatch e),rfl,by simp[st0,h.length]⟩
 unfold st0 at e;have hi:i<ts.length:=by
  by_cases hi:i<ts.length
  ·exact hi
  ·rw[bH (by simpa using hi),cM]at e;split at e<;>cases e
 rw[aY (by simpa using hi),bJ]at e;cases q:ts[i]?with
 |none=>rw[q]at e;cases e
 |some u=>
  rw[q]at e;cases e;obtain⟨v,h1,h2⟩:=h.get q
  refine⟨v,?_,h2⟩
  rw[aY (by simpa[h.length]using hi),bJ,h1];rfl
def EndT(t:T):Fl×TSt×Sto->Prop
 | (.rt r,_,C)=>dr 3 C r=some t
 | (.nx,_,_)=>t=.non
 |_=>False
def EndN(us:List T):Fl×TSt×Sto->Prop
 | (.rt (.cell c),_,C)=>lc C c=some us/\CFs us=true
 |_=>False
theorem iO{G:List T->Option T}{F:FS}{vs:List V}(hG:∀ts t,ts.length=n->G ts=some t->∃r,F (st0 m ts) []=some r/\EndT t r)(h:spT K n G vs H Q E):
 trS K W F {nx:=fun _ H'=>Q .non H',rt:=Q} (vs.map some++aT (m - vs.length) none) H:=by
 obtain⟨Z,ts,t,hn,hz,r,e,k⟩:=h;obtain⟨⟨fl,τ',C'⟩,e1,e2⟩:=hG ts t hn e
 refine⟨H,Z,[],st0 m ts,[],fl,τ',C',Rel.start hz r,e1,fun σ' H' ρ' R' _=>?_⟩
 cases fl with
 |nx=>
  have:t=.non:=e2;subst this
  exact k .non H' R'.old .non
 |bk=>exact False.elim e2
 |ct=>exact False.elim e2
 |rt u=>exact fun v hv=>k v H' R'.old (R'.dr _ _ _ _ hv e2)
 |ex c=>exact False.elim e2
theorem aLs{G:List T->Option (List T)}{F:FS}{vs:List V}(hG:∀ts t,ts.length=n->G ts=some t->∃r,F (st0 m ts) []=some r/\EndN t r)(h:spN K n G vs H Q E):
 trS K W F {nx:=fun _ H'=>Q .non H',rt:=Q} (vs.map some++aT (m - vs.length) none) H:=by
 obtain⟨Z,ts,us,hn,hz,r,e,k⟩:=h;obtain⟨⟨fl,τ',C'⟩,e1,e2⟩:=hG ts us hn e
 refine⟨H,Z,[],st0 m ts,[],fl,τ',C',Rel.start hz r,e1,fun σ' H' ρ' R' _=>?_⟩
 cases fl with
 |nx=>exact False.elim e2
 |bk=>exact False.elim e2
 |ct=>exact False.elim e2
 |ex c=>exact False.elim e2
 |rt u=>
  cases u with
  |cell c=>
   obtain⟨e2,e3⟩:=e2;intro v hv;unfold RT at hv;obtain⟨a,ea,qa⟩:=hv;obtain⟨ws,c2,c3⟩:=R'.celL qa (gL.mp e2);subst ea;have am:=bB qa;have hn:(fun b=>if b=a then none else H' b) a=none:=if_pos rfl;have hu:upd (fun b=>if b=a then none else H' b) a (.lst ws)=H':=by
    funext b;unfold upd;by_cases hb:b=a
    ·subst hb;rw[if_pos rfl,c2]
    ·rw[if_neg hb];exact if_neg hb
   have q:=k a (fun b=>if b=a then none else H' b) ws (fun b o z=>?_) hn ((c3.cf e3).mono (fun b o z=>?_) (fun c a z=>z))
   ·rw[hu]at q;exact q
   ·have hb:b≠a:=by
     rintro rfl;rw[(R'.frs b am).1]at z;cases z
    show(if b=a then none else H' b)=some o;rw[if_neg hb]
    exact R'.old b o z
   ·obtain⟨h1,h2,h3⟩:=lK.mp z
    refine mF h1 (by simp) ?_
    show(if b=a then none else H' b)=some o;rw[if_neg (by rintro rfl;exact h2 am)]
    exact h3
  |_=>exact False.elim e2
def xK(wi:TI)(sc:St->St)(g:TG)(tc:TT)(te:TE):TE:=fun σ H Q=>wi σ H fun J H1=>∀D,H1 D=none->∃W:Nat->Nat->St->Hp->Prop,(∃m,W 0 m (sc σ) (upd H1 D (.lst [])))/\∀i m σc H,W i m σc H->
 (J.stop i H/\Q (.ref D) H)\/(J.go i H/\∀x H',J.yld i H x H'->g x σc H' fun σ2 H2=>tc σ2 H2 fun b H3=>
  if b=true then te σ2 H3 fun y H4=>∃ys m',H4 D=some (.lst ys)/\ys.length<lim/\m'<m/\W (i+1) m' σ2 (upd H4 D (.lst (ys++[y])))else∃m',m'<m/\W (i+1) m' σ2 H3)
open Classical in
noncomputable def kp{α:Type}(C D:Sto)(x:Option α):Option α:=if C<+:D then x else none
theorem aIb{D:Sto}{x:Option α}(h:C<+:D):kp C D x=x:=if_pos h
theorem aEE{x:Option α}:kp C C x=x:=aIb (aPJ _)
theorem aEs{D:Sto}{x:Option α}{y:α}(h:kp C D x=some y):C<+:D/\x=some y:=by
 unfold kp at h;split at h
 ·exact⟨by assumption,h⟩
 ·cases h
def jG(g:FG)(tc:FB)(fe:FE)(τ:TSt):List T->Sto->Option (List T×Sto)
 | [],C=>some ([],C)
 |t::ts,C=>(g t C τ).bind fun τ1=>(tc τ1 C).bind fun b=>if b.1=true then(fe τ1 b.2).bind fun y=>kp C y.2 ((jG g tc fe τ ts y.2).map fun r=>(y.1::r.1,r.2))else kp C b.2 (jG g tc fe τ ts b.2)
noncomputable def scT(k:Nat)(is:List Nat)(τ:TSt):TSt:=aT k none++is.map fun i=>(τ[i]?).getD none
noncomputable def scV(k:Nat)(is:List Nat)(σ:St):St:=aT k none++is.map fun i=>(σ[i]?).getD none
def Own(k:Nat)(g:FG):Prop:=∀t C τ τ1,g t C τ=some τ1->τ1.length=τ.length/\∀j,k<=j->τ1[j]?=τ[j]?
theorem Rel.writeZ{Z:Addr->Prop}{ρ:Rho}{o:HO}(R:Rel K H₀ Z ρ τ C σ H)(hz:Z D)(h0:H₀ D=none)(ho:NT (some o)):Rel K H₀ Z ρ τ C σ (upd H D o)/\mask (upd H D o) Z ρ=mask H Z ρ:=by
 have em:mask (upd H D o) Z ρ=mask H Z ρ:=by
  funext b;unfold mask;split
  ·rfl
  ·rename_i q;rw[fQ (by rintro rfl;exact q (.inl hz))]
 refine⟨⟨fun b u q=>?_,R.frs,R.nd,fun b z=>?_,fun i t e=>?_,fun d b e=>?_,R.len,R.lnt⟩,em⟩
 ·rw[fQ (by rintro rfl;rw[h0]at q;cases q)]
  exact R.old b u q
 ·by_cases hb:b=D
  ·subst hb;rw[jC];exact ho
  ·rw[fQ hb];exact R.zd b z
 ·rw[em];exact R.loc i t e
 ·rw[em];obtain⟨us,ws,ob,h1,h2,h4,h3⟩:=R.cel d b e
  refine⟨us,ws,ob,h1,?_,h4,h3⟩
  rw[fQ]
  ·exact h2
  ·rintro rfl
   exact(R.frs b (bB e)).2 hz
theorem aCb{τ1:TSt}(hl:τ1.length=(scT k is τ).length)(h:∀j,k<=j->τ1[j]?=(scT k is τ)[j]?):∀(i:Nat) t,(scT k is τ)[i]?=some (some t)->τ1[i]?=some (some t):=fun i t e=>by
 by_cases hi:i<k
 ·unfold scT at e;rw[aY (by simpa using hi),cM,if_pos hi]at e;cases e
 ·rw[h i (by lia)];exact e
theorem qF{J:It}{Z:Addr->Prop}{ρ:Rho}{C':Sto}{P:Sto->Prop}{ts ys:List T}{H1:Hp}
 (R:Rel K H₀ Z ρ τ C σ H1)(hg:Own k g)(w:Wlk K J Z H1 ρ ts P)(hP:P C)(hPm:∀C C2:Sto,C<+:C2->P C->P C2)(hl:ts.length<lim)(e:jG g tc fe (scT k is τ) ts C=some (ys,C'))(hD:H1 D=none)
 (q:∀p H' ρ' vs,Rel K H₀ Z ρ' τ C' σ H'->H' p=none->RTs K (mask H' Z ρ') ρ' ys vs->Step H1 H' ρ ρ'->Q (.ref p) (upd H' p (.lst vs))):
 ∃W:Nat->Nat->St->Hp->Prop,(∃m,W 0 m (scV k is σ) (upd H1 D (.lst [])))/\∀i m σc H,W i m σc H->
  (J.stop i H/\Q (.ref D) H)\/(J.go i H/\∀x H',J.yld i H x H'->trG K g x σc H' fun σ2 H2=>trT K tc σ2 H2 fun b H3=>
   if b=true then trE K fe σ2 H3 fun y H4=>∃ys m',H4 D=some (.lst ys)/\ys.length<lim/\m'<m/\W (i+1) m' σ2 (upd H4 D (.lst (ys++[y])))else∃m',m'<m/\W (i+1) m' σ2 H3):=by
 obtain⟨nz,nr,n0⟩:=R.fresh_not hD;have hZD:∀a,Z a->a≠D:=fun a z h=>by subst h;exact nz z
 refine⟨fun i m σc H=>∃ρ' C1 done rest vs,m=rest.length/\ts.drop i=rest/\i<=ts.length/\done.length<=i/\Rel K H₀ (fun a=>Z a\/a=D) ρ' (scT k is τ) C1 σc H/\H D=some (.lst vs)/\
  RTs K (mask H (fun a=>Z a\/a=D) ρ') ρ' done vs/\Step H1 H ρ ρ'/\P C1/\∃yr,jG g tc fe (scT k is τ) rest C1=some (yr,C')/\ys=done++yr,?_,?_⟩
 ·refine⟨ts.length,ρ,C,[],ts,[],rfl,rfl,dJ _,bI _,?_,jC,.nil,?_,hP,ys,e,rfl⟩
  ·have sm:Same (mask H1 Z ρ) (mask (upd H1 D (.lst [])) (fun a=>Z a\/a=D) ρ):=fun a o z=>by
    obtain⟨h1,h2,h3⟩:=lK.mp z;have ne:a≠D:=fun z=>by rw[z,hD]at h3;cases h3
    exact mF (by rintro(z|z);·exact h1 z
                 ·exact ne z) h2 (by rw[fQ ne];exact h3)
   refine⟨fun b o z=>?_,fun a ha=>⟨(R.frs a ha).1,?_⟩,R.nd,fun a z=>?_,fun i t z=>?_,fun c a z=>?_,R.len,by simp[scT,scV]⟩
   ·rw[fQ (by rintro rfl;rw[n0]at z;cases z)]
    exact R.old b o z
   ·rintro(z|z)
    ·exact(R.frs a ha).2 z
    ·subst z;exact nr ha
   ·by_cases ha:a=D
    ·subst ha;rw[jC];trivial
    ·rw[fQ ha];rcases z with z|z
     ·exact R.zd a z
     ·exact absurd z ha
   ·unfold scT at z;by_cases hi:i<k
    ·rw[aY (by simpa using hi),cM,if_pos hi]at z;cases z
    ·rw[bH (by simpa using aOz hi),bJ]at z;obtain⟨j,hj,z⟩:=aL.mp z;have hτ:τ[j]?=some (some t):=by
      cases q:τ[j]?with
      |none=>rw[q]at z;cases z
      |some u=>rw[q]at z;exact congrArg some z
     obtain⟨v,h1,h2⟩:=R.loc j t hτ
     refine⟨v,?_,h2.mono sm (fun c a z=>z)⟩
     unfold scV;rw[bH (by simpa using aOz hi),bJ];simp only[eN]at hj|-;rw[hj];simp[h1]
   ·obtain⟨us,vs,ob,h1,h2,h4,h3⟩:=R.cel c a z
    refine⟨us,vs,ob,h1,?_,h4,h3.mono sm (fun c a z=>z)⟩
    rw[fQ (by rintro rfl;rw[hD]at h2;cases h2)]
    exact h2
  ·exact .of0 fun b o z=>by
    rw[fQ (by rintro rfl;rw[hD]at z;cases z)]
    exact z
 ·rintro i m σc H ⟨ρ',C1,done,rest,vs,rfl,hd,hi,hdl,R1,hDv,rd,sm1,hP1,yr,e1,hys⟩;have ix:∀(c:Nat)(a:Addr),ρ[c]?=some a->ρ'[c]?=some a:=sm1.idx;have smm:Same (mask H1 Z ρ) (mask H (fun a=>Z a\/a=D) ρ'):=fun a o z=>by
   obtain⟨h1,h2,h3⟩:=lK.mp z;have ne:a≠D:=fun z=>by rw[z,hD]at h3;cases h3
   refine mF (by rintro(z|z);·exact h1 z
                 ·exact ne z) (sm1.kept a o h3 h2).1 (sm1.kept a o h3 h2).2
  cases rest with
  |nil=>
   have hi':i=ts.length:=by
    have:ts.length<=i:=by simpa using hd
    lia
   subst hi';cases e1
   refine .inl ⟨w.stop _ _ _ _ _ _ _ R1 smm ix (.inl hP1) sm1.fz,?_⟩
   have hm:mask (fun b=>if b=D then none else H b) Z ρ'=mask H (fun a=>Z a\/a=D) ρ':=by
    funext a;unfold mask;by_cases ha:a=D
    ·subst ha;rw[if_pos (show(Z a\/a=a)\/a∈ρ' from .inl (.inr rfl))];split
     ·rfl
     ·exact if_pos rfl
    ·by_cases hz:Z a\/a∈ρ'
     ·rw[if_pos hz,if_pos (by rcases hz with z|z;·exact .inl (.inl z)
                              ·exact .inr z)]
     ·rw[if_neg hz,if_neg (by rintro((z|z)|z);·exact hz (.inl z)
                              ·exact ha z
                              ·exact hz (.inr z))]
      exact if_neg ha
   have hu:upd (fun b=>if b=D then none else H b) D (.lst vs)=H:=by
    funext b;unfold upd;by_cases hb:b=D
    ·subst hb;rw[if_pos rfl,hDv]
    ·rw[if_neg hb];exact if_neg hb
   have st:Step H1 (fun b=>if b=D then none else H b) ρ ρ':=⟨fun b o z n=>⟨(sm1.kept b o z n).1,by
    show(if b=D then none else H b)=some o;rw[if_neg (by rintro rfl;rw[hD]at z;cases z)]
    exact(sm1.kept b o z n).2⟩,sm1.pre,fun b ob u z=>by
    show(if b=D then none else H b)=_;rw[if_neg (by rintro rfl;rw[hD]at z;cases z)]
    exact sm1.fz b ob u z⟩
   have R2:Rel K H₀ Z ρ' τ C' σ (fun b=>if b=D then none else H b):=by
    refine⟨fun b o z=>by
     show(if b=D then none else H b)=some o;rw[if_neg (by rintro rfl;rw[n0]at z;cases z)]
     exact R1.old b o z,fun a ha=>⟨(R1.frs a ha).1,fun z=>(R1.frs a ha).2 (.inl z)⟩,R1.nd,fun a z=>(by
     show NT (if a=D then none else H a);rw[if_neg (hZD a z)];exact R1.zd a (.inl z)),fun j t z=>?_,fun c a z=>?_,R1.len,R.lnt⟩
    ·obtain⟨v,h1,h2⟩:=R.loc j t z
     exact⟨v,h1,h2.step st⟩
    ·obtain⟨us,ws,ob,h1,h2,h4,h3⟩:=R1.cel c a z
     refine⟨us,ws,ob,h1,?_,h4,by rw[hm];exact h3⟩
     show(if a=D then none else H a)=_;rw[if_neg (fun z'=>(R1.frs a (bB z)).2 (.inr z'))]
     exact h2
   have fin:=q D (fun b=>if b=D then none else H b) ρ' vs R2 (if_pos rfl) (by rw[hm,hys,aW];exact rd) st;rw[hu]at fin
   exact fin
  |cons t rest=>
   have ht:ts[i]?=some t:=by
    have:=congrArg (fun l=>l[0]?) hd;simpa using this
   have hlt:i<ts.length:=(aP.mp ht).1;have hd':ts.drop (i+1)=rest:=by
    have:=congrArg aQh hd;simpa using this
   obtain⟨g1,g2⟩:=w.go i t _ _ ρ' _ C1 σc H ht R1 smm ix (.inl hP1) sm1.fz
   refine .inr ⟨g1,fun x H' hy=>?_⟩
   obtain⟨smy,rx⟩:=g2 x H' hy;obtain⟨R1',st'⟩:=R1.same smy;unfold jG at e1;obtain⟨τ1,eg,e1⟩:=aK.mp e1;obtain⟨⟨b,C2⟩,et,e1⟩:=aK.mp e1;obtain⟨o1,o2⟩:=hg _ _ _ _ eg
   refine⟨_,_,ρ',_,C1,t,τ1,R1',rx,eg,fun σ2 R2=>?_⟩
   refine⟨_,_,ρ',τ1,C1,b,C2,R2,et,fun H3 ρ3 R3 s3=>?_⟩
   have s13:=st'.trans s3;have nD:D∉ρ':=fun z=>(R1.frs D z).2 (.inr rfl)
   cases b with
   |false=>
    rw[if_neg (by simp)]at e1;obtain⟨hpx,e1⟩:=aEs e1;dsimp only;rw[if_neg (by simp)]
    exact⟨rest.length,by simp,ρ3,C2,done,rest,vs,rfl,hd',hlt,Nat.le_succ_of_le hdl,R3.weak (by rw[o1]) (aCb o1 o2),(s13.kept _ _ hDv nD).2,rd.step s13,sm1.trans s13,hPm _ _ hpx hP1,yr,e1,hys⟩
   |true=>
    rw[if_pos rfl]at e1;dsimp only;rw[if_pos rfl];obtain⟨⟨ty,C3⟩,ee,e1⟩:=aK.mp e1;obtain⟨hpx,e1⟩:=aEs e1;obtain⟨⟨yr',C4⟩,e3,e2⟩:=aL.mp e1;cases e2
    refine⟨_,_,ρ3,τ1,C2,ty,C3,R3,ee,fun y H4 ρ4 R4 hy4 s4=>?_⟩
    have s14:=s13.trans s4;have rd4:=rd.step s14;obtain⟨R5,em⟩:=R4.writeZ (D:=D) (o:=.lst (vs++[y])) (.inr rfl) n0 trivial
    refine⟨vs,rest.length,(s14.kept _ _ hDv nD).2,by rw[rd.length];lia,by simp,ρ4,C3,done++[ty],rest,vs++[y],rfl,hd',hlt,by simp;lia,R5.weak (by rw[o1]) (aCb o1 o2),jC,?_,?_,hPm _ _ hpx hP1,yr',e3,by rw[hys];simp⟩
    ·rw[em]
     exact rd4.append (.cons hy4 .nil)
    ·exact⟨fun b o z n=>⟨((sm1.trans s14).kept b o z n).1,by
      rw[fQ (by rintro rfl;rw[hD]at z;cases z)]
      exact((sm1.trans s14).kept b o z n).2⟩,(sm1.trans s14).pre,fun b ob u z=>by
      rw[fQ (by rintro rfl;rw[hD]at z;cases z)]
      exact(sm1.trans s14).fz b ob u z⟩
theorem aHE{C2:Sto}{c:Nat}{ts:List T}(h:C<+:C2)(e:lc C c=some ts):lc C2 c=some ts:=by
 obtain⟨D,rfl⟩:=h;rw[gL]at e|-;rw[aY (aP.mp e).1];exact e
theorem qZ{t:T}{ts:List T}(C C2:Sto)(h:C<+:C2)(e:stays t ts C):stays t ts C2:=by
 unfold stays at*;split
 ·exact aHE h e
 ·trivial
def jQ(f:FE)(k:Nat)(is:List Nat)(g:FG)(tc:FB)(fe:FE):FN:=fun τ C=>(f τ C).bind fun p=>(liT p.2 p.1).bind fun ts=>if ts.length<lim then jG g tc fe (scT k is τ) ts p.2 else none
theorem aHh(hg:Own k g)(h:trN K (jQ f k is g tc fe) σ H Q):xK (aGq K (trE K f)) (scV k is) (trG K g) (trT K tc) (trE K fe) σ H Q:=by
 obtain⟨H₀,Z,ρ,τ,C,ys,C',R,e,q⟩:=h;unfold jQ at e;obtain⟨⟨t,C1⟩,e1,e⟩:=aK.mp e;obtain⟨ts,e2,e⟩:=aK.mp e;split at e
 ·rename_i hl
  refine⟨H₀,Z,ρ,τ,C,t,C1,R,e1,fun v H1 ρ1 R1 h1 s1=>?_⟩
  obtain⟨a,vs,ev,qa,r⟩:=R1.li h1 e2;subst ev
  exact⟨a,rfl,⟨vs,qa⟩,fun D hD=>qF R1 hg (aCr R1 h1 e2) (nW e2) qZ hl e hD fun p H' ρ' vs R' hp rv s'=>q p H' ρ' vs R' hp rv (s1.trans s')⟩
 ·cases e
def j3(f:FE)(k:Nat)(is:List Nat)(g:FG)(tc:FB)(fe:FE):FN:=fun τ C=>(f τ C).bind fun p=>match p.1 with
 | .int j=>if j<50000/\ -(2^62)<=j then jG g tc fe (scT k is τ) (vE 0 j.toNat) p.2 else none
 |_=>none
theorem yU(hg:Own k g)(h:trN K (j3 f k is g tc fe) σ H Q):xK (aHG (trA K (fB f fJ))) (scV k is) (trG K g) (trT K tc) (trE K fe) σ H Q:=by
 obtain⟨H₀,Z,ρ,τ,C,ys,C',R,e,q⟩:=h;unfold j3 at e;obtain⟨⟨t,C1⟩,e1,e⟩:=aK.mp e;dsimp only at e;split at e
 ·split at e
  ·rename_i hj
   refine⟨H₀,Z,ρ,τ,C,_,C1,R,by simp[fB,fJ,e1];rfl,fun vs H1 ρ1 R1 h1 s1=>?_⟩
   obtain⟨v,r,rfl,q1,q2⟩:=h1.cons_inv;rw[q2.nil_inv]
   refine⟨_,by rw[q1.int_inv],hj.2,by lia,fun D hD=>qF (P:=fun _=>True) R1 hg tT trivial (fun _ _ _ _=>trivial) (by simp[vE,lim];lia) e hD fun p H' ρ' vs R' hp rv s'=>q p H' ρ' vs R' hp rv (s1.trans s')⟩
  ·cases e
 ·cases e
theorem jF{i:Nat}(h:i<k):Own k (gN i):=fun t C τ τ1 e=>by
 cases e
 refine⟨by simp,fun j hj=>?_⟩
 rw[aS (by lia)]
theorem yL{k:Nat}:∀(is:List Nat)(ts:List T)(τ:TSt),(∀i∈is,i<k)->(setAll is ts τ).length=τ.length/\∀j,k<=j->(setAll is ts τ)[j]?=τ[j]?
 | [],_,_,_=>by simp[setAll]
 |i::is,[],_,_=>by simp[setAll]
 |i::is,t::ts,τ,h=>by
  obtain⟨h1,h2⟩:=yL (k:=k) is ts (τ.set i (some t)) (fun j hj=>h j (aZ _ hj));have hi:=h i bF
  refine⟨by simp[setAll,h1],fun j hj=>?_⟩
  show(setAll is ts (τ.set i (some t)))[j]?=_;rw[h2 j hj,aS (by lia)]
theorem aA5(h:∀i∈is,i<k):Own k (gU is):=fun t C τ τ1 e=>by
 unfold gU at e;obtain⟨ts,e1,e⟩:=aK.mp e;split at e
 ·cases e
  exact yL is ts τ h
 ·cases e
end
section
variable {K:aO}{σ:St}{H:Hp}
variable{Q:VK}{fa:FN}{fb:FE}{r:List V->Hp->VK->Prop}
theorem iX{f:FE}{Q':VK}(h:trE K f σ H Q)(hq:∀v H',Q v H'->Q' v H'):trE K f σ H Q':=by
 obtain⟨H₀,Z,ρ,τ,C,t,C',R,e,k⟩:=h
 exact⟨H₀,Z,ρ,τ,C,t,C',R,e,fun v H' ρ' a b c=>hq _ _ (k v H' ρ' a b c)⟩
theorem oF{f:FN}{Q Q':List V->Hp->Prop}(h:trA K f σ H Q)(hq:∀v H',Q v H'->Q' v H'):trA K f σ H Q':=by
 obtain⟨H₀,Z,ρ,τ,C,t,C',R,e,k⟩:=h
 exact⟨H₀,Z,ρ,τ,C,t,C',R,e,fun v H' ρ' a b c=>hq _ _ (k v H' ρ' a b c)⟩
theorem wF{fa:FE}{g:T->T->Sto->Option (T×Sto)}{r:R2}(ho:∀σ H Q x y,(∃t1 t2,trV K σ [t1,t2] [x,y] (g t1 t2) H Q)->r x y H Q)(h:trE K (i8 fa fb g) σ H Q):tOp r (trE K fa) (trE K fb) σ H Q:=
 iX (aEv h) fun _ _ q=>iX q fun _ _ q=>ho _ _ _ _ _ q
theorem aNs{fa:FE}{g:T->T->Sto->Option (List T)}{r:R2}(ho:∀σ H Q x y,(∃t1 t2,trW K σ [t1,t2] [x,y] (g t1 t2) H Q)->r x y H Q)(h:trN K (xF fa fb g) σ H Q):tOp r (trE K fa) (trE K fb) σ H Q:=
 iX (aM8 h) fun _ _ q=>iX q fun _ _ q=>ho _ _ _ _ _ q
theorem aN1{g:List T->Sto->Option (T×Sto)}(ho:∀σ H Q xs,(∃ts,trV K σ ts xs (g ts) H Q)->r xs H Q)(h:trE K (nB fa g) σ H Q):tCB r (trA K fa) σ H Q:=
 oF (aBY h) fun _ _ q=>ho _ _ _ _ q
theorem aNv{g:List T->Sto->Option (List T)}(ho:∀σ H Q xs,(∃ts,trW K σ ts xs (g ts) H Q)->r xs H Q)(h:trN K (rL fa g) σ H Q):tCB r (trA K fa) σ H Q:=
 oF (aDO h) fun _ _ q=>ho _ _ _ _ q
theorem aMC{n:Nat}{F:List T->Option T}{E:XK}(h:trE K (nB fa (jZ n F)) σ H Q):z7 (spT K n F) [] E (trA K fa) σ H Q:=
 oF (aBY h) fun vs _ q=>by rw[aW];exact aLE q
theorem aKx{n:Nat}{F:List T->Option (List T)}{E:XK}(h:trN K (rL fa (uA n F)) σ H Q):z7 (spN K n F) [] E (trA K fa) σ H Q:=
 oF (aDO h) fun vs _ q=>by rw[aW];exact aKo q
noncomputable def gDm(ts:List T)(C:Sto):Option (T×Sto):=match ts with
 | [.int i,.int j]=>if 0<j/\j<1073741824 then some (.tup [.int (i/j),.int (i%j)],C)else none
 |_=>none
noncomputable def aEl(ts:List T)(C:Sto):Option (T×Sto):=match ts with
 | [.int i]=>some (.int i,C)
 | [.bl k]=>some (.int (if k then 1 else 0),C)
 |_=>none
theorem aMK{xs:List V}(h:∃ts,trV K σ ts xs (aEl ts) H Q):(∃i,xs=[.int i]/\Q (.int i) H)\/∃k,xs=[.bl k]/\Q (.int (if k then 1 else 0)) H:=by
 obtain⟨ts,H₀,Z,ρ,τ,C,t,C',R,r,e,k⟩:=h;unfold aEl at e;split at e
 ·obtain⟨v,_,rfl,r1,r⟩:=r.cons_inv;rw[r.nil_inv,r1.int_inv];cases e
  exact .inl ⟨_,rfl,k _ H ρ R .int .refl⟩
 ·obtain⟨v,_,rfl,r1,r⟩:=r.cons_inv;rw[r.nil_inv,r1.bl_inv];cases e
  exact .inr ⟨_,rfl,k _ H ρ R .int .refl⟩
 ·cases e
noncomputable def aG6(t:T)(C:Sto):Option (T×Sto):=match t with
 | .int i=>some (.int (-i),C)
 |_=>none
theorem aNK{x:V}(h:∃t,trV K σ [t] [x] (aG6 t) H Q):∃i,x=.int i/\Q (.int (-i)) H:=by
 obtain⟨t0,H₀,Z,ρ,τ,C,t,C',R,r,e,k⟩:=h;obtain⟨_,_,z,r1,r⟩:=r.cons_inv;cases z;unfold aG6 at e;split at e
 ·cases e
  exact⟨_,r1.int_inv,k _ H ρ R .int .refl⟩
 ·cases e
end
noncomputable def kA(i j:Int):Bool:= !(decide (Builtin.Int.intBits i>shortFactorBits)&&decide (Builtin.Int.intBits j>shortFactorBits)&&Builtin.Int.intTooBig (Builtin.Int.intBits i+Builtin.Int.intBits j))
noncomputable def insAt{α:Type}(xs:List α)(i:Int)(y:α):List α:=xs.take (if i<0 then(i+(xs.length:Int)).toNat else min i.toNat xs.length)++y::xs.drop (if i<0 then(i+(xs.length:Int)).toNat else min i.toNat xs.length)
def aB5(xs vs:List T):Option (List T):=match vs with
 | [y]=>if xs.length<lim then some (xs++[y])else none
 |_=>none
def aCP(xs vs:List T):Option (List T):=match vs with
 | [.int i,y]=>if xs.length<lim/\ -(2^63)<=i/\i<2^63 then some (insAt xs i y)else none
 |_=>none
noncomputable def tR:List Int->Int
 | []=>0
 |n::ns=>ns.foldl (fun a b=>if b>a then b else a) n
noncomputable def uJ:List Int->Int
 | []=>0
 |n::ns=>ns.foldl (fun a b=>if b<a then b else a) n
abbrev i7(a b:FE):FE:=i8 a b (gI fun i j=>.int (i+j))
abbrev pH(a b:FE):FE:=i8 a b (gI fun i j=>.int (i - j))
abbrev lW(a b:FE):FE:=i8 a b (gIc kA fun i j=>.int (i*j))
abbrev iI(a b:FE):FE:=i8 a b (gIc (fun _ j=>decide (0<j)) fun i j=>.int (i%j))
abbrev lY(a b:FE):FE:=i8 a b (gIc (fun _ j=>decide (0<j/\j<1073741824)) fun i j=>.int (i/j))
abbrev aKr(a b:FE):FE:=i8 a b (gIc (fun i j=>decide (0<=j/\j<=1000000/\i.natAbs<2^64)) fun i j=>.int (i^j.toNat))
abbrev fNeg(a:FE):FE:=fUn a aG6
abbrev fLt(a b:FE):FE:=i8 a b (gI fun i j=>.bl (decide (i<j)))
abbrev fGt(a b:FE):FE:=i8 a b (gI fun i j=>.bl (decide (j<i)))
abbrev fGe(a b:FE):FE:=i8 a b (gI fun i j=>.bl (decide (j<=i)))
abbrev fEq(a b:FE):FE:=i8 a b (gEq false)
abbrev fNe(a b:FE):FE:=i8 a b (gEq true)
abbrev fIn(a b:FE):FE:=i8 a b (gIn false)
abbrev aHz(a b:FE):FE:=i8 a b (gIn true)
abbrev fLeLt(a b c:FE):FE:=tZ a b c (fun i j=>decide (i<=j)) (fun i j=>decide (i<j))
abbrev fIx(a b:FE):FE:=i8 a b gIx
abbrev aJB(a b:FE):FN:=xF a b aFQ
abbrev mX(a:FN):FE:=nB a aFd
abbrev aCs(a:FN):FN:=rL a aE1
abbrev aIK(a:FN):FE:=nB a (wJ (fun _=>true) aQj)
abbrev fMaxL(a:FN):FE:=nB a (wJ (fun ns=> !ns.isEmpty) tR)
abbrev aGy(a:FN):FE:=nB a (wJ (fun ns=> !ns.isEmpty) uJ)
abbrev aKC(a:FN):FE:=nB a (aIk fun bs=>bs.all id)
abbrev fMax2(a:FN):FE:=nB a (gI2 fun i j=>if j>i then j else i)
abbrev nO(a:FN):FE:=nB a (gI2 fun i j=>if j<i then j else i)
abbrev pJ(a:FN):FE:=nB a aEl
abbrev f8(n:Nat)(F:List T->Option T)(a:FN):FE:=nB a (jZ n F)
abbrev fCallN(n:Nat)(F:List T->Option (List T))(a:FN):FN:=rL a (uA n F)
noncomputable def aMc(c:String):T->Option Bool
 | .non=>some (c=="NoneType")
 | .bl _=>some (c=="bool"||c=="int")
 | .int _=>some (c=="int")
 | .str _=>some (c=="str")
 | .lst _=>some (c=="list")
 | .cell _=>none
 | .tup _=>some (c=="tuple")
 | .exc _=>none
def uD(c:String)(a:FE):FE:=fUn a fun t C=>(aMc c t).map fun b=>(.bl b,C)
abbrev vH(o:FE)(a:FN):FS:=aFi o a aB5
abbrev aIJ(o:FE)(a:FN):FS:=aFi o a aCP
noncomputable def gZ:FB:=fun _ C=>some (true,C)
def jK(B:FS)(m:Nat)(ts:List T):Option T:=match B (st0 m ts) []with
 |some (.rt r,_,C)=>dr 3 C r
 |some (.nx,_,_)=>some .non
 |_=>none
def runN(B:FS)(m:Nat)(ts:List T):Option (List T):=match B (st0 m ts) []with
 |some (.rt (.cell c),_,C)=>(lc C c).bind fun us=>if CFs us=true then some us else none
 |_=>none
theorem hV{B:FS}{m n:Nat}:∀ts t,ts.length=n->jK B m ts=some t->∃r,B (st0 m ts) []=some r/\EndT t r:=fun ts t _ e=>by
 unfold jK at e;split at e
 ·rename_i h;exact⟨_,h,e⟩
 ·rename_i h;cases e;exact⟨_,h,rfl⟩
 ·cases e
theorem aI3{B:FS}{m n:Nat}:∀ts t,ts.length=n->runN B m ts=some t->∃r,B (st0 m ts) []=some r/\EndN t r:=fun ts t _ e=>by
 unfold runN at e;split at e
 ·rename_i h;obtain⟨us,e1,e⟩:=aK.mp e;split at e
  ·rename_i hc;cases e
   exact⟨_,h,e1,hc⟩
  ·cases e
 ·cases e
end TL
namespace L2
open PySem PySem.Spec PyProof.Rows
variable{X:Cx}{e:Expr}{t':TT}
theorem PE.imp{t t':TE}(h:PE X e t)(hi:∀σ H Q,t' σ H Q->t σ H Q):PE X e t':=fun pins s σ H Q I q=>h pins s σ H Q I (hi σ H Q q)
theorem PT.imp{t:TT}(h:PT X e t)(hi:∀σ H Q,t' σ H Q->t σ H Q):PT X e t':=fun pins s σ H Q I q=>h pins s σ H Q I (hi σ H Q q)
theorem PW.imp{t:TT}(h:PW X e t)(hi:∀σ H Q,t' σ H Q->t σ H Q):PW X e t':=fun wh pins s σ H Q I q=>h wh pins s σ H Q I (hi σ H Q q)
theorem PA.imp{e:List Expr}{t t':TA}(h:PA X e t)(hi:∀σ H Q,t' σ H Q->t σ H Q):PA X e t':=fun pos pins s σ H Q I q=>h pos pins s σ H Q I (hi σ H Q q)
theorem PS.imp{e:Stmt}{t t':TS}(h:PS X e t)(hi:∀D σ H,t' D σ H->t D σ H):PS X e t':=fun pins s σ H D I q=>h pins s σ H D I (hi D σ H q)
theorem PSs.imp{e:List Stmt}{t t':TS}(h:PSs X e t)(hi:∀D σ H,t' D σ H->t D σ H):PSs X e t':=fun pins s σ H D I q=>h pins s σ H D I (hi D σ H q)
theorem PG.imp{t t':TG}(h:PG X e t)(hi:∀v σ H Q,t' v σ H Q->t v σ H Q):PG X e t':=fun pins s σ H v u Q I r q=>h pins s σ H v u Q I r (hi v σ H Q q)
theorem PO.imp{e:Option Expr}{t t':TO}(h:PO X e t)(hi:∀σ H Q,t' σ H Q->t σ H Q):PO X e t':=fun pins s σ H Q I q=>h pins s σ H Q I (hi σ H Q q)
end L2
namespace TL
open PySem PySem.Spec PyProof.Rows L2
theorem lM:lim<=sizeLine:=by unfold lim;rw[sizeLine_eq];decide
section
variable {X:Cx}
theorem aIR:OpR X (binaryOp .Add) (rCatL X.K):=by
 intro pins s σ H x y v u Q I rx ry h;obtain⟨l,b,xs,zs,rfl,rfl,hH,hB,hz,q⟩:=h;cases rx;cases ry;obtain⟨its,r,p,hl⟩:=I.list hH;obtain⟨its2,r2,p2,hl2⟩:=I.list hB;obtain⟨⟨cls,dd,data,sl⟩,ho,hc,n,hd⟩:=id p.isList;obtain⟨⟨cls2,dd2,data2,sl2⟩,ho2,hc2,n2,hd2⟩:=id p2.isList;simp only at hc hd hc2 hd2;subst hc hd hc2 hd2;have e1:=r.length;have e2:=r2.length;have hlim:=lM;have ea:its.toArray++its2.toArray=(its++its2).toArray:=by simp
 refine concat_meets ⟨_,ho,rfl⟩ ⟨_,ho2,rfl⟩ noFill_list_add seq_list_add PySem.F.slot_list_add PySem.F.entry_list_add (PySem.F.args_list_add_2 _ _)
  (list_addW l b its.toArray its2.toArray n n2 dd dd2 sl sl2 (by rw[bG,bG];lia)) ⟨ho,ho2,?_⟩
 rw[ea]
 exact⟨.ref _,_,I.lnew (t':=s.toks) (r.append r2) (by rw[bC];lia),rfl,q _ I.fresh⟩
def aHn(xs vs:List V):Option (List V):=match vs with
 | [y]=>if xs.length<lim then some (xs++[y])else none
 |_=>none
theorem aMt{K:aO}:∀M ρ ts us ws vs xs,RTs K M ρ ts vs->RTs K M ρ us xs->aB5 ts us=some ws->∃ys,aHn vs xs=some ys/\RTs K M ρ ws ys:=by
 intro M ρ ts us ws vs xs h1 h2 e;unfold aB5 at e;split at e
 ·obtain⟨v,_,rfl,r1,r2⟩:=h2.cons_inv;rw[r2.nil_inv];split at e
  ·rename_i hl;cases e
   refine⟨vs++[v],?_,h1.append (.cons r1 .nil)⟩
   show(if vs.length<lim then some (vs++[v])else none)=_;rw[if_pos (by rw[h1.length];exact hl)]
  ·cases e
 ·cases e
theorem aMw:MtR X "list.append" (aMJ aHn):=by
 intro pins s σ H x vs v us Q I rx rv h;obtain⟨l,xs,ys,ex,hH,e,q⟩:=h;unfold aHn at e;split at e
 ·split at e
  ·rename_i hl;cases e
   exact aAo pins s σ H x _ v us Q I rx rv ⟨l,xs,_,ex,rfl,hH,bP hl lM,q⟩
  ·cases e
 ·cases e
def aGo(xs vs:List V):Option (List V):=match vs with
 | [.int i,y]=>if xs.length<lim/\ -(2^63)<=i/\i<2^63 then some (insAt xs i y)else none
 |_=>none
theorem aLv{K:aO}:∀M ρ ts us ws vs xs,RTs K M ρ ts vs->RTs K M ρ us xs->aCP ts us=some ws->∃ys,aGo vs xs=some ys/\RTs K M ρ ws ys:=by
 intro M ρ ts us ws vs xs h1 h2 e;unfold aCP at e;split at e
 ·obtain⟨v,_,rfl,r1,r2⟩:=h2.cons_inv;obtain⟨v',_,rfl,r2,r3⟩:=r2.cons_inv;rw[r3.nil_inv,r1.int_inv];split at e
  ·rename_i hl;cases e
   refine⟨insAt vs _ v',by
    show(if vs.length<lim/\_ then some (insAt vs _ v')else none)=_;rw[if_pos (by rw[h1.length];exact hl)],?_⟩
   unfold insAt;rw[h1.length]
   exact(h1.take _).append (.cons r2 (h1.drop _))
  ·cases e
 ·cases e
theorem aGb{α:Type}(xs:List α)(i:Int)(y:α):(insAt xs i y).length=xs.length+1:=by
 unfold insAt;rw[bC,aN,d4,aO4]
 lia
theorem Vals.insAt{xs:List V}{us:List Value}{y:V}{u:Value}(h:Vals xs us)(r:RelV y u)(i:Int):Vals (TL.insAt xs i y) (aPj us i u):=by
 unfold TL.insAt aPj;rw[h.length]
 exact(L2.Vals.take _ h).append (.cons r (L2.Vals.drop _ h))
theorem aLF:MtR X "list.insert" (aMJ aGo):=by
 intro pins s σ H x vs v us Q I rx rv h;obtain⟨l,xs,ys,ex,hH,e,q⟩:=h;subst ex;cases rx;unfold aGo at e;split at e
 ·split at e
  ·rename_i hl;cases e;obtain⟨u1,u2,rfl,r1,r2⟩:=rv.two;obtain⟨t,rfl⟩:=r1;obtain⟨z,its,n,r,hl2,eo⟩:=I.lstM hH;have hlim:=lM
   refine call_meets PySem.F.slot_list_insert ⟨_,eo,rfl⟩ PySem.F.entry_list_insert (PySem.F.args_list_insert_3 _ _ _) (PySem.AutoSeq1.list_insert_list_int_val_1 l its.toArray n _ t u2 (by rw[fitsIndex_both hl.2.1 hl.2.2];exact bY) (by rw[bG];lia)) ⟨eo,?_⟩
   refine⟨.non,_,I.lset (its':=aPj its _ u2) hH eo ?_ (Vals.insAt r r2 _) ?_,rfl,q⟩
   ·show(its.toArray.extract 0 _).push u2++its.toArray.extract _=_;rw[PySem.W.kl_ins_eq,bG];rfl
   ·rw[aGb];lia
  ·cases e
 ·cases e
theorem aFx(hc:X.calm=true):nC X (.builtin "sum") (aCa X.K (fun _=>true) (fun ns=>ns.sum)):=by
 intro pins s σ H xs us Q I r h;obtain⟨p,ns,rfl,hq,_,q⟩:=h;obtain⟨u,rfl,ru⟩:=vals1 r;cases ru;obtain⟨its,rv,pl,hz⟩:=I.list hq;have hi:=oN rv;obtain⟨ys,hx⟩:=hi.allInts.items;have hl':s.heap.IsList p (intItems ys):=hx ▸ pl.isList
 refine sum_intListG (I.ok.hd hc) hl' fun h' tk t' hk=>?_
 have e1:ns=ys.toList.map (·.1):=by
  rw[<-nums_intItems,<-hx]
  exact(show numsOf its.toArray.toList=ns from hi.numsOf).symm
 have e2:preSum (numAt ys) ys.size=ns.sum:=by
  rw[preSum_eq,dN (by simp),e1]
 rw[e2]
 exact⟨.int ns.sum,H,I.kept hk,⟨_,rfl⟩,q⟩
theorem aAh:∀{ns:List Int},ns≠[]->tR ns∈ns/\∀a∈ns,a<=tR ns:=by
 have key:∀(ns:List Int)(n:Int),(ns.foldl (fun a b=>if b>a then b else a) n=n\/ns.foldl (fun a b=>if b>a then b else a) n∈ns)/\n<=ns.foldl (fun a b=>if b>a then b else a) n/\∀a∈ns,a<=ns.foldl (fun a b=>if b>a then b else a) n:=by
  intro ns;induction ns with
  |nil=>intro n;simp
  |cons m ns ih=>
   intro n;rw[aOF];obtain⟨h1,h2,h3⟩:=ih (if m>n then m else n);by_cases hm:m>n
   ·rw[if_pos hm]at h1 h2 h3|-
    refine⟨?_,by lia,fun a ha=>?_⟩
    ·rcases h1 with h1|h1
     ·rw[h1];simp
     ·exact .inr (aZ _ h1)
    ·rcases bE.mp ha with rfl|ha
     ·exact h2
     ·exact h3 a ha
   ·rw[if_neg hm]at h1 h2 h3|-
    refine⟨?_,h2,fun a ha=>?_⟩
    ·rcases h1 with h1|h1
     ·exact .inl h1
     ·exact .inr (aZ _ h1)
    ·rcases bE.mp ha with rfl|ha
     ·lia
     ·exact h3 a ha
 intro ns hne;cases ns with
 |nil=>exact absurd rfl hne
 |cons n ns=>
  obtain⟨h1,h2,h3⟩:=key ns n
  refine⟨?_,fun a ha=>?_⟩
  ·rcases h1 with h1|h1
   ·show aPw (fun a b=>if b>a then b else a) n ns∈n::ns;rw[h1];simp
   ·exact aZ _ h1
  ·rcases bE.mp ha with rfl|ha
   ·exact h2
   ·exact h3 a ha
theorem aGc(hc:X.calm=true):nC X (.builtin "max") (aCa X.K (fun ns=> !ns.isEmpty) tR):=by
 intro pins s σ H xs us Q I r h;obtain⟨p,ns,rfl,hq,hne,q⟩:=h;obtain⟨u,rfl,ru⟩:=vals1 r;cases ru;obtain⟨its,rv,pl,hz⟩:=I.list hq;have hi:=oN rv;have hne':ns≠[]:=by rintro rfl;simp at hne
 obtain⟨ys,hx⟩:=hi.allInts.items;have hl':s.heap.IsList p (intItems ys):=hx ▸ pl.isList;have hns:ns=ys.toList.map (·.1):=by
  rw[<-nums_intItems,<-hx]
  exact(show numsOf its.toArray.toList=ns from hi.numsOf).symm
 have hsz:0<ys.size:=by
  have h3:0<ns.length:=dY.mpr hne';rw[hns,aR,b6]at h3;exact h3
 refine max_intList (I.ok.hd hc) hl' hsz fun v h' tk hv hk=>?_
 obtain⟨t,rfl⟩:=intItems_at hv;obtain⟨h1,h2⟩:=argBest_gt (numAt ys) (ys.size - 1);obtain⟨m1,m2⟩:=aAh hne';obtain⟨M,hM⟩:∃M,M=tR ns:=⟨_,rfl⟩;rw[<-hM]at m1 m2 q;have e:numAt ys (argBest (fun i j=>decide (numAt ys i>numAt ys j)) (ys.size - 1))=M:=by
  apply aOG
  ·refine m2 _ ?_
   rw[hns,numAt_eq];exact getD_mem (by rw[aR,b6];lia)
  ·have m1':=m1;rw[hns]at m1';obtain⟨j,hj,ej⟩:=mem_getD m1';rw[aR,b6]at hj;rw[<-ej,<-numAt_eq];exact h2 j (by lia)
 exact⟨.int M,H,I.kept hk,⟨_,by rw[e]⟩,q⟩
theorem aB0{bs:List Bool}:∀{us:List Value},Vals (bs.map V.bl) us->us=bs.map Value.bool:=by
 induction bs with
 |nil=>intro us r;rw[bD]at r;cases r;rfl
 |cons n ns ih=>
  intro us r;rw[aM]at r;cases r with
  |cons r1 r2=>
   cases r1;rw[ih r2];rfl
theorem aDy(bs:List Bool):((bK bs.length).all fun i=>(bs[i]?).getD true)=bs.all id:=by
 rw[eJ,eT,eT];constructor
 ·intro h b hb;obtain⟨i,hi,rfl⟩:=List.getElem_of_mem hb;have:=h i (dA.mpr hi);simpa[bA hi]using this
 ·intro h i hi;have hi':=dA.mp hi;simpa[bA hi']using h _ (dG hi')
theorem aKu{s:Shared}{h':Heap}{o:Obj}(hk:∀b x,b∉[s.heap.objs.size]->(s.heap.push o).get? b=some x->h'.get? b=some x):∀b x,s.heap.get? b=some x->h'.get? b=some x:=
 fun b x e=>hk b x (fun hm=>by rw[bR.mp hm]at e;exact cQ _ (Heap.lt_size e)) (Heap.get?_push_of_some _ e)
theorem aGd(hc:X.calm=true):nC X (.builtin "all") (rBls X.K (fun bs=>bs.all id)):=by
 intro pins s σ H xs us Q I r h;obtain⟨p,bs,rfl,hq,q⟩:=h;obtain⟨u,rfl,ru⟩:=vals1 r;cases ru;obtain⟨its,rv,pl,hz⟩:=I.list hq;have hb:=aB0 rv;subst hb;have hlt:p<s.heap.objs.size:=pl.lt
 refine call_all_walk (wpAny_pyIter_list pl.isList ?_)
 refine⟨s.heap.objs.size,[s.heap.objs.size,p],[s.heap.objs.size],(bs.map Value.bool).toArray.size,_,_,fun i=>(bs[i]?).getD true,rfl,Walks.list (A:=X.A.in1) (I.ok.hd hc) _ p (bT hlt) (bs.map Value.bool).toArray,
  ⟨⟨_,Heap.get?_push_size _ rfl,rfl,rfl⟩,pl.isList.push _⟩,fun i v s' Q' E' hP hQ=>?_,fun h' tk hk=>?_⟩
 ·simp only[List.getElem?_toArray,bJ]at hP;cases e:bs[i]?with
  |none=>rw[e]at hP;cases hP
  |some b=>
   rw[e]at hP;cases hP;simp only[e,cR]at hQ
   exact wpAny_truthy_bool hQ
 ·have e:((bK (bs.map Value.bool).toArray.size).all fun i=>(bs[i]?).getD true)=bs.all id:=by
   rw[bG,aR];exact aDy bs
  rw[e]
  exact⟨.bl _,H,I.kept (aKu hk),rfl,q⟩
end
section
variable {X:Cx}{pins:List (Addr×Obj)}{σ:L2.St}{H:Hp}{s:Shared}
variable{t1 t2:T}{b:Bool}
theorem aG5{A:Around}{x y:V}{u v:Value}(h1:RT X.K H [] t1 x)(h2:RT X.K H [] t2 y)(r1:RelV x u)(r2:RelV y v)(e:eqF t1 t2=some b):SeqAt.EqAt A s u v b:=by
 unfold eqF at e;split at e<;>first
  | (cases e;done)
  | (cases e
     unfold RT at h1 h2;subst h1 h2;have q:=aMV (A:=A) (s:=s) r1 r2 rfl rfl
     exact q)
theorem aBK{x:V}(h1:RT X.K H [] t1 x)(h2:RT X.K H [] t2 x)(e:eqF t1 t2=some b):b=true:=by
 unfold eqF at e;split at e<;>first
  | (cases e;done)
  | (cases e
     unfold RT at h1 h2;rw[h1]at h2;first|rfl| (cases h2;simp)| (exact nomatch h2))
theorem aBZ{e:T->T->Option Bool}{vs:List V}(he:∀t1 t2 x b,RT X.K H [] t1 x->RT X.K H [] t2 x->e t1 t2=some b->b=true):∀{ts us:List T}{vs:List V}{b:Bool},RTs X.K H [] ts vs->RTs X.K H [] us vs->eqL e ts us=some b->b=true
 | [],[],_,b,_,_,q=>by cases q;rfl
 |t::ts,u::us,vs,b,h1,h2,q=>by
  obtain⟨v,r,rfl,a1,a2⟩:=h1.cons_inv;obtain⟨v',r',z,b1,b2⟩:=h2.cons_inv;cases z;unfold eqL at q;obtain⟨c,q1,q⟩:=aK.mp q;obtain⟨d,q2,q⟩:=aL.mp q;rw[he _ _ _ _ a1 b1 q1,aBZ (vs:=vs) he a2 b2 q2]at q
  exact q.symm
 | [],_::_,_,_,_,_,q=>by cases q
 |_::_,[],_,_,_,_,q=>by cases q
theorem aG8(I:Inv X pins σ H s):∀(n:Nat)(t1 t2:T)(x:V)(b:Bool),RT X.K H [] t1 x->RT X.K H [] t2 x->eqT n t1 t2=some b->b=true:=by
 intro n;induction n with
 |zero=>intro t1 t2 x b h1 h2 e;exact aBK h1 h2 (by unfold eqT at e;exact e)
 |succ n ih=>
  intro t1 t2 x b h1 h2 e;by_cases hl:∃xs ys,t1=.lst xs/\t2=.lst ys
  ·obtain⟨xs,ys,rfl,rfl⟩:=hl;unfold RT at h1 h2;obtain⟨a,vs,e1,q1,r1⟩:=h1;obtain⟨a',vs',e2,q2,r2⟩:=h2;rw[e1]at e2;cases e2;have:=I.list_inj q1 q2;subst this;unfold eqT at e;rw[if_pos (by rw[<-r1.length,<-r2.length])]at e
   exact aBZ (vs:=vs) ih r1 r2 e
  ·have e':eqF t1 t2=some b:=by
    unfold eqT at e;split at e
    ·exact absurd ⟨_,_,rfl,rfl⟩ hl
    ·exact e
   exact aBK h1 h2 e'
theorem aAR{e:T->T->Option Bool}{A:Around}(he:∀t1 t2 x y u v b,RT X.K H [] t1 x->RT X.K H [] t2 y->RelV x u->RelV y v->e t1 t2=some b->SeqAt.EqAt A s u v b):
 ∀{ts us:List T}{vs ws:List V}{is js:List Value}{b:Bool},RTs X.K H [] ts vs->RTs X.K H [] us ws->Vals vs is->Vals ws js->eqL e ts us=some b->
  ∃f:Nat->Bool,(∀j u v,is[j]?=some u->js[j]?=some v->SeqAt.EqAt A s u v (f j))/\(bK is.length).all f=b
 | [],[],_,_,_,_,b,h1,h2,v1,v2,q=>by
   cases q;rw[h1.nil_inv]at v1;cases v1
   exact⟨fun _=>true,fun j u v z=>by simp at z,rfl⟩
 |t::ts,u::us,vs,ws,is,js,b,h1,h2,v1,v2,q=>by
  obtain⟨v,r,rfl,a1,a2⟩:=h1.cons_inv;obtain⟨v',r',rfl,b1,b2⟩:=h2.cons_inv;unfold eqL at q;obtain⟨c,q1,q⟩:=aK.mp q;obtain⟨d,q2,q⟩:=aL.mp q;cases v1 with
  |cons x1 y1=>
   cases v2 with
   |cons x2 y2=>
    obtain⟨f,f1,f2⟩:=aAR he a2 b2 y1 y2 q2
    refine⟨fun j=>match j with|0=>c|j+1=>f j,fun j u v z1 z2=>?_,?_⟩
    ·cases j with
     |zero=>
      simp at z1 z2;subst z1 z2
      exact he _ _ _ _ _ _ _ a1 b1 x1 x2 q1
     |succ j=>exact f1 j u v (by simpa using z1) (by simpa using z2)
    ·rw[aN,d9,aPT,aP0,<-q,<-f2];rfl
 | [],_::_,_,_,_,_,_,_,_,_,_,q=>by cases q
 |_::_,[],_,_,_,_,_,_,_,_,_,q=>by cases q
theorem aC9(I:Inv X pins σ H s):∀(n:Nat)(A:Around)(t1 t2:T)(x y:V)(u v:Value)(b:Bool),A.units+n<cLine->RT X.K H [] t1 x->RT X.K H [] t2 y->RelV x u->RelV y v->eqT n t1 t2=some b->SeqAt.EqAt A s u v b:=by
 intro n;induction n with
 |zero=>intro A t1 t2 x y u v b hu h1 h2 r1 r2 e;exact aG5 h1 h2 r1 r2 (by unfold eqT at e;exact e)
 |succ n ih=>
  intro A t1 t2 x y u v b hu h1 h2 r1 r2 e;by_cases hl:∃xs ys,t1=.lst xs/\t2=.lst ys
  ·obtain⟨xs,ys,rfl,rfl⟩:=hl;have sm:x=y->b=true:=fun z=>by subst z;exact aG8 I _ _ _ _ _ h1 h2 e
   unfold RT at h1 h2;obtain⟨a,vs,e1,q1,k1⟩:=h1;obtain⟨c,ws,e2,q2,k2⟩:=h2;subst e1 e2;cases r1;cases r2;by_cases hac:a=c
   ·subst hac;rw[sm rfl]
    exact SeqAt.EqAt.same _
   ·obtain⟨is,v1,p1,z1⟩:=I.list q1;obtain⟨js,v2,p2,z2⟩:=I.list q2;have l1:=v1.length;have l2:=v2.length;unfold eqT at e;split at e
    ·rename_i hlen;obtain⟨f,f1,f2⟩:=aAR (A:=A.in1) (fun t1 t2 x y u v b a1 a2 a3 a4 a5=>ih A.in1 t1 t2 x y u v b (by show A.units+1+n<cLine;lia) a1 a2 a3 a4 a5) k1 k2 v1 v2 e;have q:=SeqAt.EqAt.of_refs hac (SeqAt.RcAt.lists (A:=A) (s:=s) (e:=f) p1.isList p2.isList (by rw[bG,bG,<-l1,<-l2,k1.length,k2.length];exact hlen) (by lia) fun j h1 h2=>
      f1 j _ _ (by simp) (by simp))
     rw[bG,f2]at q
     exact q
    ·rename_i hlen;cases e
     refine SeqAt.EqAt.of_refs hac (SeqAt.RcAt.lists_lengths p1.isList p2.isList ?_ (by lia))
     rw[bG,bG,<-l1,<-l2,k1.length,k2.length];simpa using hlen
  ·have e':eqF t1 t2=some b:=by
    unfold eqT at e;split at e
    ·exact absurd ⟨_,_,rfl,rfl⟩ hl
    ·exact e
   exact aG5 h1 h2 r1 r2 e'
end
noncomputable def p6(cells:List (Str×Addr)):List (Str×NameKind)->List (Str×Addr)->Option (List (Str×Addr))
 | [],acc=>some acc
 | (n,k)::r,acc=>if(k==NameKind.free)=true then(match cells.lookup n with
  |some c=>p6 cells r ((n,c)::acc)
  |none=>none)else p6 cells r acc
theorem y0{env:Env}:∀(ns:List (Str×NameKind))(acc cl:List (Str×Addr)),p6 env.cells ns acc=some cl->
 (forIn ns acc fun(x:Str×NameKind) (cs:List (Str×Addr))=>if(x.2==NameKind.free)=true then do let c<-cellOf env x.1;pure (ForInStep.yield ((x.1,c)::cs))else pure (ForInStep.yield cs):Sem (List (Str×Addr)))=pure cl
 | [],acc,cl,e=>by cases e;rfl
 | (n,k)::r,acc,cl,e=>by
   unfold p6 at e;rw[List.forIn_cons];split at e
   ·rename_i hk;split at e
    ·rename_i c hc;have:=y0 r _ cl e;simp only[hk,if_true];unfold cellOf;rw[hc]
     exact this
    ·cases e
   ·rename_i hk;have:=y0 r _ cl e;simp only[hk,if_false]
    exact this
theorem aEg{env:Env}{scope:Scope}{cl:List (Str×Addr)}(e:p6 env.cells scope.names []=some cl):closureFor scope env=pure cl:=by
 have h:=y0 scope.names [] cl e;unfold closureFor;first
  |exact h
  | (simp only[bind_pure]at*;exact h)
  | (show(forIn scope.names [] _>>=fun r=>pure r)=pure cl;rw[bind_pure];exact h)
theorem t6{cells:List (Str×Addr)}:∀(ns:List (Str×NameKind))(acc cl:List (Str×Addr)),p6 cells ns acc=some cl->(∀x c,acc.lookup x=some c->cells.lookup x=some c)->
 (∀x c,cl.lookup x=some c->cells.lookup x=some c)
 | [],acc,cl,e,h=>by cases e;exact h
 | (n,k)::r,acc,cl,e,h=>by
   unfold p6 at e;split at e
   ·split at e
    ·rename_i c hc
     refine t6 r _ cl e fun x d hx=>?_
     rw[bZ]at hx;split at hx
     ·rename_i q;cases hx;rw[eq_of_beq q];exact hc
     ·exact h x d hx
    ·cases e
   ·exact t6 r _ cl e h
theorem qR{cells:List (Str×Addr)}:∀(ns:List (Str×NameKind))(acc cl:List (Str×Addr)),p6 cells ns acc=some cl->∀x,((x,NameKind.free)∈ns\/∃c,acc.lookup x=some c)->∃c,cl.lookup x=some c
 | [],acc,cl,e,x,h=>by
   cases e;rcases h with h|h
   ·cases h
   ·exact h
 | (n,k)::r,acc,cl,e,x,h=>by
   unfold p6 at e;split at e
   ·split at e
    ·rename_i c hc
     refine qR r _ cl e x ?_
     rcases h with h|h
     ·rcases bE.mp h with h|h
      ·cases h
       exact .inr ⟨c,by simp[bZ]⟩
      ·exact .inl h
     ·obtain⟨d,hd⟩:=h;by_cases hx:(x==n)=true
      ·exact .inr ⟨c,by rw[bZ,hx]⟩
      ·refine .inr ⟨d,?_⟩
       rw[bZ];simp only[hx]
       exact hd
    ·cases e
   ·rename_i hk
    refine qR r _ cl e x ?_
    rcases h with h|h
    ·rcases bE.mp h with h|h
     ·cases h;exact absurd rfl hk
     ·exact .inl h
    ·exact .inr h
abbrev gR(X:Cx)(N:List Str)(scope:Scope)(cl:List (Str×Addr))(C:Addr)(s3:Shared)(H3:Hp)(fp:List Addr):Cx:=
 {X with N:=N,s₀:=s3,H₀:=H3,env:=compEnvC scope cl C X.env,outer:=X.stack,stack:=X.stack,ex:=fp,fn:=fun _=>false,pn:=[],xe:=fun _ _=>False}
theorem m9{env:Env}:∀{names:List (Str×NameKind)}{x:Str},(∀y∈names,y.2≠ .cell)->
 ((names.map fun(n,k)=>if(k==NameKind.free&&env.scope.kind== .function&&env.kindOf n==some .cell)=true then(n,NameKind.cell)else(n,k)).lookup x=some .cell\/
  (names.map fun(n,k)=>if(k==NameKind.free&&env.scope.kind== .function&&env.kindOf n==some .cell)=true then(n,NameKind.cell)else(n,k)).lookup x=some .free)->(x,NameKind.free)∈names
 | [],x,_,h=>by rcases h with h|h<;>simp at h
 | (n,k)::r,x,hc,h=>by
   have ih:= @m9 env r x (fun y hy=>hc y (aZ _ hy));have hk:k≠ .cell:=hc (n,k) bF;rw[aM]at h;by_cases hx:(x==n)=true
   ·have hx':x=n:=eq_of_beq hx;subst hx';by_cases hcnd:(k==NameKind.free&&env.scope.kind== .function&&env.kindOf x==some .cell)=true
    ·have:k=.free:=by
      rw[aOA,aOA]at hcnd
      exact eq_of_beq hcnd.1.1
     subst this
     exact bF
    ·simp only[if_neg hcnd,bZ,hx]at h;rcases h with h|h
     ·cases h;exact absurd rfl hk
     ·cases h;exact bF
   ·refine aZ _ (ih ?_)
    by_cases hcnd:(k==NameKind.free&&env.scope.kind== .function&&env.kindOf n==some .cell)=true
    ·simp only[if_pos hcnd,bZ,hx]at h
     exact h
    ·simp only[if_neg hcnd,bZ,hx]at h
     exact h
structure l4(X:Cx)(own fr:List Str)(is:List Nat)(scope:Scope)(cl:List (Str×Addr)):Prop where
 clos:p6 X.env.cells scope.names []=some cl
 cell:∀y∈scope.names,y.2≠ .cell
 kind:scope.kind=.function
 names:∀y∈scope.names,y.2=.local->scope.names.lookup y.1=some .local
 pick:is.map (fun i=>X.N[i]?)=fr.map some
 kx:fr.all (fun x=>X.env.kindOf x==some .cell||X.env.kindOf x==some .free)=true
 ky:fr.all (fun x=>(relabel scope X.env).names.lookup x==some .cell||(relabel scope X.env).names.lookup x==some .free)=true
section
variable {X:Cx}{own fr:List Str}{is:List Nat}{scope:Scope}{cl:List (Str×Addr)}
variable{pins:List (Addr×Obj)}{σ:L2.St}{s:Shared}{fp:List Addr}{elt iter tg:Expr}{ifs:List Expr}{pos:Pos}{te:TE}{wi:TI}
theorem aEK{x:Option NameKind}(h:(x==some .cell||x==some .free)=true):x=some .cell\/x=some .free:=by
 rw[Bool.or_eq_true]at h;rcases h with h|h
 ·exact .inl (eq_of_beq h)
 ·exact .inr (eq_of_beq h)
theorem aIs{H:Hp}{h₁:Heap}{tk:Nat}(k:l4 X own fr is scope cl)(I:Inv X pins σ H s)(hf:∀b∈fp,uL X pins H b/\b<s.heap.objs.size)
 (hn:h₁.Ns s.heap.objs.size (fun x=>([]:List (Str×Value)).reverse.lookup x))(hs:Heap.SameBut s.heap.objs.size (s.heap.push {cls:=.type "dict",data:=.dict #[]}) h₁):
 Inv (gR X (own++fr) scope cl s.heap.objs.size s H fp) [] (scV own.length is σ) H {s with heap:=h₁,toks:=tk}:=by
 have hk:∀b o,s.heap.get? b=some o->h₁.get? b=some o:=fun b o e=>(hs.2 b (bT (Heap.lt_size e))).trans (Heap.get?_push_of_some _ e)
 have sub:=t6 _ _ _ k.clos (fun x c z=>by simp at z);have cellX:∀x c,cl.lookup x=some c->∃v,s.heap.IsCell c v:=fun x c e=>I.cell x c (sub x c e)
 have cellH:∀{c v},s.heap.IsCell c v->h₁.IsCell c v:=fun⟨o,ho,hd⟩=>⟨o,hk _ o ho,hd⟩
 have cne:∀x c,cl.lookup x=some c->c≠s.heap.objs.size:=fun x c e z=>by
  obtain⟨v,o,ho,_⟩:=cellX x c e
  exact absurd (z ▸ Heap.lt_size ho) (cQ _)
 refine⟨⟨I.ok.mod,k.kind,I.ok.glob,I.ok.blt,bI _,fun x y c h1 h2=>I.ok.inj x y c (sub x c h1) (sub y c h2),fun x hx=>?_,fun x c h=>(by cases h),I.ok.hd,I.ok.frames,.inl rfl,fun b hb=>⟨bT (hf b hb).2,fun x c e=>(hf b hb).1.2.2.2.2.1 x c (sub x c e)⟩,
  fun b o e=>I.bs b o e,cC I.ok.bsz I.sz,fun b o e hb=>?_,fun b hb z=>?_,I.stack,I.stkFree⟩,
  rfl,I.bare,Un.kept hk,⟨_,hn,fun i x v h1 h2 h3=>?_⟩,fun x c e=>?_,I.hok.fresh (bI _),fun x c e=>I.freeC x c (sub x c e),fun p hp=>absurd hp (by simp),I.hok.kept hk,?_⟩
 ·have hx':(relabel scope X.env).names.lookup x=some .cell\/(relabel scope X.env).names.lookup x=some .free:=hx
  exact qR _ _ _ k.clos x (.inl (m9 k.cell hx'))
 ·rcases(hf b hb).1.2.2.2.1 with z|z
  ·exact I.ok.noex b o e z
  ·exact absurd (bP (Heap.lt_size e) (cC I.ok.bsz z)) (cQ _)
 ·rcases bE.mp (I.stkSub b z)with q|q
  ·exact(hf b hb).1.2.1 q
  ·exact(hf b hb).1.2.2.1 q
 ·
  have hi:¬i<own.length:=fun hi=>by
   unfold scV at h2;rw[aY (by simpa using hi),cM,if_pos hi]at h2;cases h2
  have hi':=aOz hi;unfold scV at h2;rw[bH (by simpa using hi'),bJ]at h2;simp only[eN]at h2;obtain⟨j,hj,z⟩:=aL.mp h2;have hσ:σ[j]?=some (some v):=by
   cases q:σ[j]?with
   |none=>rw[q]at z;cases z
   |some u=>rw[q]at z;exact congrArg some z
  have h1':fr[i - own.length]?=some x:=by
   have:(own++fr)[i]?=some x:=h1;rw[bH hi']at this
   exact this
  have hN:X.N[j]?=some x:=by
   have:=congrArg (fun l=>l[i - own.length]?) k.pick;simp only[bJ,hj,h1',aOo]at this
   exact cN.inj this
  have hxm:x∈fr:=bB h1';have kx:=aEK (eT.mp k.kx x hxm);have ky:=aEK (eT.mp k.ky x hxm);obtain⟨m,_,hl⟩:=I.loc
  obtain⟨u,r,l⟩:=hl j x v hN hσ (by rcases kx with z|z;·exact .inr (.inl z)
                                    ·exact .inr (.inr z))
  refine⟨u,r,.inr ⟨ky,?_⟩⟩
  rcases l with⟨z,_⟩| ⟨_,c,e,q⟩
  ·rcases kx with w|w<;>(rw[w]at z;cases z)
  ·obtain⟨d,hd⟩:=qR _ _ _ k.clos x (.inl (m9 k.cell ky));have:=sub x d hd;rw[e]at this;cases this
   exact⟨c,hd,cellH q⟩
 ·obtain⟨v,q⟩:=cellX x c e
  exact⟨v,cellH q⟩
 ·unfold scV;show _=(own++fr).length;have:=congrArg aPM k.pick;simp only[aR]at this;simp[this]
theorem aF8{σc:L2.St}{H H':Hp}{s':Shared}{h':Heap}(I:Inv X pins σ H s)(hf:∀b∈fp,uL X pins H b)
 (J:Inv (gR X (own++fr) scope cl s.heap.objs.size s H fp) [] σc H' s')(hs:Heap.SameBut s.heap.objs.size s'.heap h'):Inv X pins σ H' {s' with heap:=h'}:=by
 have u:Un (frs X.stack) fp H H' s.heap s'.heap:=J.base;have ne:∀b o,s.heap.get? b=some o->b≠s.heap.objs.size:=fun b o e=>bT (Heap.lt_size e)
 have u':Un (frs X.stack) fp H H' s.heap h':=⟨fun b o e n h1 h2=>(hs.2 b (ne b o e)).trans (u.keep b o e n h1 h2),fun b o e n h1 h2=>by
  obtain⟨sl,q⟩:=u.slot b o e n h1 h2
  exact⟨sl,(hs.2 b (ne b o e)).trans q⟩,u.free,fun b o e h2=>by
  obtain⟨o',q⟩:=u.there b o e h2
  exact⟨o',(hs.2 b (ne b o e)).trans q⟩,u.tups,u.frzs,u.tbls⟩
 have hfree:H' s.heap.objs.size=none:=J.free;have hok:HOk X.prog X.w H' h':=fun b ob e=>by
  refine(J.hok b ob e).stay (fun c w' hc q=>(hs.2 c ?_).trans q) (fun _ q=>q) fun _ _ q=>q
  rintro rfl;rcases hc with rfl|hc
  ·rw[hfree]at e;cases e
  ·rw[hfree]at hc;cases hc
 exact I.call' (s':={s' with heap:=h'}) J.os u' hok J.bare fun b hb=>⟨(hf b hb).2.2.2.1,(hf b hb).2.1,(hf b hb).2.2.2.2.1,(hf b hb).2.2.2.2.2⟩
theorem yY{prog:Program}{w:World}{A:Around}{R:Result->Shared->Prop}{target:Expr}{scope:Scope}{it acc:Value}{env:Env}(I:Nat->Shared->Prop)
 (turn:∀n s,I n s->wpAny (model prog w) A (pyNext it) (fun r s₁=>match r with
  |none=>R (.ok .next) s₁
  |some v=>wpAny (model prog w) A (letOwnedTupleGo target it v) (fun _ s₁=>wpAny (model prog w) A (assign target env v) (fun _ s₂=>
   wpAny (model prog w) A (forIn ifs true fun c r=>if r=true then do let ok<-isTrue c env (eval c env);pure (ForInStep.yield ok)else pure (ForInStep.yield r)) (fun ok s₃=>
    if ok=true then wpAny (model prog w) A (eval elt env) (fun x s₄=>
     wpAny (model prog w) A (call (.builtin "list.append") [acc,x]) (fun _ s₅=>∃m,m<n/\I m s₅) (fun _ _=>False) s₄) (fun _ _=>False) s₃
    else∃m,m<n/\I m s₃) (fun _ _=>False) s₂) (fun _ _=>False) s₁) (fun _ _=>False) s₁) (fun _ _=>False) s)
 (n:Nat)(h:I n s):
 codeAny (model prog w) A (.compLoop (.ListComp elt [⟨target,iter,ifs,0⟩] scope pos) 0 it acc env) R s:=by
 refine codeAny_loop rfl I (fun n s hI=>?_) n h
 show wpAny _ A ((compTurn (.ListComp elt [⟨target,iter,ifs,0⟩] scope pos) 0 it acc env).onRaise (fun x=>do noteFrame x env;theTreesLotGoes x)) _ _ s
 refine wpAny_noted ?_
 rw[compTurn_list]
 refine wpAny_bind (wpAny_standAt (wpAny_bind (wpAny_mono (turn n s hI) (fun r s₁ h₁=>?_) fun _ _ h'=>h'.elim)))
 cases r with
 |none=>exact wpAny_pure h₁
 |some v=>
  refine wpAny_bind (wpAny_mono h₁ (fun _ s₁ h₁=>?_) fun _ _ h'=>h'.elim)
  refine wpAny_bind (wpAny_mono h₁ (fun _ s₂ h₂=>wpAny_bind (wpAny_mono h₂ (fun ok s₃ h₃=>?_) fun _ _ h'=>h'.elim)) fun _ _ h'=>h'.elim)
  cases ok with
  |false=>exact wpAny_pure ⟨rfl,h₃⟩
  |true=>
   exact wpAny_bind (wpAny_bind (wpAny_mono h₃ (fun x s₄ h₄=>wpAny_bind (wpAny_mono h₄ (fun _ s₅ h₅=>wpAny_pure (wpAny_pure ⟨rfl,h₅⟩)) fun _ _ h'=>h'.elim)) fun _ _ h'=>h'.elim))
def PTs(X:Cx)(ifs:List Expr)(t:TT):Prop:=
 ∀(pins:List (Addr×Obj))(s:Shared)(σ:L2.St)(H:Hp)(Q:Bool->Hp->Prop),Inv X pins σ H s->t σ H Q->
  wpAny (model X.prog X.w) X.A (forIn ifs true fun c r=>if r=true then do let ok<-isTrue c X.env (eval c X.env);pure (ForInStep.yield ok)else pure (ForInStep.yield r)) (TP X pins σ Q) X.xe s
theorem aJD:PTs X [] (fun _ H Q=>Q true H):=fun _ _ _ H _ I h=>wpAny_tests_nil ⟨H,I,h⟩
theorem aI1{c:Expr}{t:TT}(h:PT X c t):PTs X [c] t:=fun pins s σ H Q I q=>wpAny_tests_one (h pins s σ H Q I q)
theorem xR{g:TG}{tc:TT}{H2:Hp}{s2:Shared}{it:Addr}{tn:Nat->Heap->Prop}{J:It}{Q:VK}
 {RR:Value->Addr->Result->Shared->Prop}{E:Value->Shared->Prop}
 (hc:X.calm=true)(k:l4 X own fr is scope cl)
 (hg:∀C s3 H3 fp,PG (gR X (own++fr) scope cl C s3 H3 fp) tg g)(ht:∀C s3 H3 fp,PTs (gR X (own++fr) scope cl C s3 H3 fp) ifs tc)(he:∀C s3 H3 fp,PE (gR X (own++fr) scope cl C s3 H3 fp) elt te)
 (I2:Inv X pins σ H2 s2)(T:Turn X.prog X.w X.K tg J fp it tn)(st2:tn 0 s2.heap)(f2:∀b∈fp,uL X pins H2 b)
 (q:∀D,H2 D=none->∃W:Nat->Nat->L2.St->Hp->Prop,(∃m,W 0 m (scV own.length is σ) (upd H2 D (.lst [])))/\∀i m σc H,W i m σc H->
  (J.stop i H/\Q (.ref D) H)\/(J.go i H/\∀x H',J.yld i H x H'->g x σc H' fun σ2 H2=>tc σ2 H2 fun b H3=>
   if b=true then te σ2 H3 fun y H4=>∃ys m',H4 D=some (.lst ys)/\ys.length<lim/\m'<m/\W (i+1) m' σ2 (upd H4 D (.lst (ys++[y])))else∃m',m'<m/\W (i+1) m' σ2 H3))
 (hRR:∀D C H' s',(∃m,s'.heap.Ns C m)->(∀h',Heap.SameBut C s'.heap h'->Inv X pins σ H' {s' with heap:=h'})->H' C=none->s2.heap.objs.size<=C->Q (.ref D) H'->RR (.ref D) C (.ok .next) s'):
 wpAny (model X.prog X.w) X.A (newList []) (fun acc s₃=>wpAny (model X.prog X.w) X.A (newFunctionEnv scope X.env.globals cl [] X.env.qual none .none (some X.env)) (fun cenv s₄=>
  codeAny (model X.prog X.w) X.A (.compStart (.ListComp elt [⟨tg,iter,ifs,0⟩] scope pos) 0 (.ref it) acc {cenv with scope:=relabel scope X.env}) (RR acc cenv.locals) s₄) E s₃) E s2:=by
 refine wpAny_newObj_type (wpAny_newFunctionEnv k.cell (by intro y hy;simp at hy) (fun h₁ hns₁ hsb₁=>?_) k.kind)
 have I3:Inv X pins σ (upd H2 s2.heap.objs.size (.lst [])) {s2 with heap:=s2.heap.push {cls:=.type "list",data:=.seq ([]:List Value).toArray}}:=I2.lnew (t':=s2.toks) (its:=[]) .nil (dJ _);have hD:H2 s2.heap.objs.size=none:=I2.fresh;obtain⟨W,⟨m0,w0⟩,turn⟩:=q _ hD;have hlt:∀b∈fp,b<s2.heap.objs.size:=fun b hb=>by
  obtain⟨o,e,_⟩:=T.obj _ _ st2 b hb
  exact Heap.lt_size e
 have f3:∀b∈fp,uL X pins (upd H2 s2.heap.objs.size (.lst [])) b/\b<(s2.heap.push {cls:=.type "list",data:=.seq ([]:List Value).toArray}).objs.size:=fun b hb=>
  ⟨⟨by rw[fQ (bT (hlt b hb))];exact(f2 b hb).1,(f2 b hb).2⟩,by rw[Heap.size_push];exact aOW (hlt b hb)⟩
 have J0:=aIs (tk:=s2.toks+([]:List (Str×Value)).length) k I3 f3 hns₁ hsb₁;have kept:∀b o,s2.heap.get? b=some o->h₁.get? b=some o:=fun b o e=>(hsb₁.2 b (by
  show b≠(s2.heap.push _).objs.size;rw[Heap.size_push]
  exact bT (aOW (Heap.lt_size e)))).trans (Heap.get?_push_of_some _ (Heap.get?_push_of_some _ e))
 have st4:tn 0 h₁:=T.keep _ _ _ st2 fun b _ o e=>kept b o e
 have stat:∀{H':Hp},(∀b∈fp,H' b=none)->∀b∈fp,uL (gR X (own++fr) scope cl (s2.heap.push {cls:=.type "list",data:=.seq ([]:List Value).toArray}).objs.size {s2 with heap:=s2.heap.push {cls:=.type "list",data:=.seq ([]:List Value).toArray}} (upd H2 s2.heap.objs.size (.lst [])) fp) [] H' b:=fun hn b hb=>
  ⟨hn b hb,bT (f3 b hb).2,fun z=>J0.ok.exfs b hb z,.inl hb,fun x c e=>(J0.ok.exf b hb).2 x c e,fun p hp=>absurd hp (by simp)⟩
 have loop:codeAny (model X.prog X.w) X.A (.compLoop (.ListComp elt [⟨tg,iter,ifs,0⟩] scope pos) 0 (.ref it) (.ref s2.heap.objs.size) (compEnvC scope cl (s2.heap.push {cls:=.type "list",data:=.seq ([]:List Value).toArray}).objs.size X.env))
  (RR (.ref s2.heap.objs.size) (s2.heap.push {cls:=.type "list",data:=.seq ([]:List Value).toArray}).objs.size) {s2 with heap:=h₁,toks:=s2.toks+([]:List (Str×Value)).length}:=by
  refine yY (fun n s'=>∃i σ' H',Inv (gR X (own++fr) scope cl (s2.heap.push {cls:=.type "list",data:=.seq ([]:List Value).toArray}).objs.size {s2 with heap:=s2.heap.push {cls:=.type "list",data:=.seq ([]:List Value).toArray}} (upd H2 s2.heap.objs.size (.lst [])) fp) [] σ' H' s'/\tn i s'.heap/\(∀b∈fp,H' b=none)/\W i n σ' H') ?_ m0
   ⟨0,_,_,J0,st4,fun b hb=>(f3 b hb).1.1,w0⟩
  rintro n s3 ⟨i,σ3,H3,I3',st3,fr3,w3⟩;rcases turn i n σ3 H3 w3 with⟨stop,qn⟩| ⟨go,step⟩
  ·refine thn (T.done (gR X (own++fr) scope cl _ _ _ fp) rfl rfl rfl hc i [] s3 σ3 H3 (fun _ _=>False) I3' (stat fr3) st3 stop) fun r s4 ⟨hr,I4⟩=>?_
   subst hr;obtain⟨m,hm,_⟩:=I4.loc
   refine hRR _ _ H3 s4 ⟨m,hm⟩ (fun h' hs'=>?_) I4.free ?_ qn
   ·have:=aF8 I3 (fun b hb=>(f3 b hb).1) I4 hs'
    exact this
   ·show s2.heap.objs.size<=(s2.heap.push _).objs.size;rw[Heap.size_push]
    exact aQa _
  ·refine thn (T.item (gR X (own++fr) scope cl _ _ _ fp) rfl rfl rfl hc i [] s3 σ3 H3 (fun _ _=>False) I3' (stat fr3) st3 go) fun r s4 ⟨u,hr,h4⟩=>?_
   subst hr
   refine thn h4 fun _ s5 zz=>?_
   obtain⟨x,H5,I5,r5,y5,st5,fr5⟩:=zz;have I5':=I5.pinned (stat fr5) (T.obj _ _ st5)
   refine thn (hg _ _ _ _ _ s5 σ3 H5 x u _ I5' r5 (step x H5 y5)) fun _ s6 zz=>?_
   obtain⟨σ6,H6,I6,q6⟩:=zz
   refine thn (ht _ _ _ _ _ s6 σ6 H6 _ I6 q6) fun ok s7 ⟨H7,I7,q7⟩=>?_
   have back:∀{σ7:L2.St}{H7:Hp}{s7:Shared}{m':Nat},Inv (gR X (own++fr) scope cl (s2.heap.push {cls:=.type "list",data:=.seq ([]:List Value).toArray}).objs.size {s2 with heap:=s2.heap.push {cls:=.type "list",data:=.seq ([]:List Value).toArray}} (upd H2 s2.heap.objs.size (.lst [])) fp) ([]++xX fp s5.heap) σ7 H7 s7->m'<n->W (i+1) m' σ7 H7->
    ∃m,m<n/\∃i σ' H',Inv (gR X (own++fr) scope cl (s2.heap.push {cls:=.type "list",data:=.seq ([]:List Value).toArray}).objs.size {s2 with heap:=s2.heap.push {cls:=.type "list",data:=.seq ([]:List Value).toArray}} (upd H2 s2.heap.objs.size (.lst [])) fp) [] σ' H' s7/\tn i s7.heap/\(∀b∈fp,H' b=none)/\W i m σ' H':=fun {σ7 H7 s7 m'} I7 hm w7=>by
    refine⟨m',hm,i+1,σ7,H7,I7.unpinned,T.keep _ _ _ st5 fun b hb o e=>(I7.pin (b,o) (cI _ (cI _ (o5 hb e)))).1,fun b hb=>?_,w7⟩
    obtain⟨o,e,d⟩:=T.obj _ _ st5 b hb
    exact(I7.pin (b,o) (cI _ (cI _ (o5 hb e)))).2.1
   cases ok with
   |false=>
    try dsimp only at q7
    try dsimp only
    rw[if_neg (by simp)]at q7|-;obtain⟨m',hm,w7⟩:=q7
    exact back I7 hm w7
   |true=>
    try dsimp only at q7
    try dsimp only
    rw[if_pos rfl]at q7|-
    refine thn (he _ _ _ _ _ s7 σ6 H7 _ I7 q7) fun y s8 zz=>?_
    obtain⟨v,H8,I8,r8,ys,m',e8,l8,hm,w8⟩:=zz
    refine thn (aAo _ s8 σ6 H8 (.ref s2.heap.objs.size) [v] (.ref s2.heap.objs.size) [y] (fun _ H9=>W (i+1) m' σ6 H9) I8 rfl (.cons r8 .nil) ⟨_,ys,v,rfl,rfl,e8,bP l8 lM,w8⟩) fun _ s9 zz=>?_
    obtain⟨_,H9,I9,_,w9⟩:=zz
    exact back I9 hm w9
 exact codeAny_compStart_list loop (T.self X.A 0 _ _ _ st4 loop)
theorem sG{g:TG}{tc:TT}(hc:X.calm=true)(k:l4 X own fr is scope cl)(hi:PI X tg iter wi)
 (hg:∀C s3 H3 fp,PG (gR X (own++fr) scope cl C s3 H3 fp) tg g)(ht:∀C s3 H3 fp,PTs (gR X (own++fr) scope cl C s3 H3 fp) ifs tc)(he:∀C s3 H3 fp,PE (gR X (own++fr) scope cl C s3 H3 fp) elt te)
 (hs:∀x,foldedSetIterable iter X.env x=pure x:=by intro _;rfl):PE X (.ListComp elt [⟨tg,iter,ifs,0⟩] scope pos) (xK wi (scV own.length is) g tc te):=by
 intro pins s σ H Q I h;rw[eval_ListComp]
 refine wpAny_comprehension_free (use:=none) rfl hs (aEg k.clos) k.kind k.names (thn (hi pins s σ H _ I h) fun v s1 h1=>thn h1 fun itv s2 h2=>?_)
 obtain⟨it,fp,tn,J,H2,e,I2,T,st2,f2,q⟩:=h2;subst e
 refine xR (RR:=fun acc C=>compPost (model X.prog X.w) X.A X.xe none (EP X pins σ Q) acc C) hc k hg ht he I2 T st2 f2 q ?_
 intro D C H' s' hm hI _ _ qD;obtain⟨m,hm⟩:=hm
 exact⟨m,hm,fun h' hs'=>⟨.ref D,H',hI h' hs',rfl,qD⟩⟩
theorem rQ{pos' spos:Pos}{g:TG}{tc:TT}{i:Nat}{x:Str}(hN:X.N.Nodup)(hx:X.N[i]?=some x)(hloc:X.env.scope.names.lookup x=some .local)
 (hc:X.calm=true)(k:l4 X own fr is scope cl)(hi:PI X tg iter wi)
 (hg:∀C s3 H3 fp,PG (gR X (own++fr) scope cl C s3 H3 fp) tg g)(ht:∀C s3 H3 fp,PTs (gR X (own++fr) scope cl C s3 H3 fp) ifs tc)(he:∀C s3 H3 fp,PE (gR X (own++fr) scope cl C s3 H3 fp) elt te)
 (hsw:swapsWith (.ListComp elt [⟨tg,iter,ifs,0⟩] scope pos) (some (.Name x pos')) spos.line X.env=pure true)
 (hs:∀x,foldedSetIterable iter X.env x=pure x:=by intro _;rfl):PS X (.Assign [.Name x pos'] (.ListComp elt [⟨tg,iter,ifs,0⟩] scope pos) spos) (aCX (xK wi (scV own.length is) g tc te) (rY i)):=by
 intro pins s σ H D I h;rw[exec_Assign_Name_used _ _ _ _ hsw]
 refine wpAny_bind (wpAny_standAt (wpAny_bind ?_))
 show wpAny _ X.A (do let _<-comprehension (.ListComp elt [⟨tg,iter,ifs,0⟩] scope pos) scope X.env _ (newList []) false (eval iter X.env) (some (assign (.Name x pos') X.env))) _ _ s
 refine wpAny_bind (wpAny_mono (wpAny_comprehension_free (use:=some (assign (.Name x pos') X.env)) (Q:=fun _ s'=>SP X pins D .next s') rfl hs (aEg k.clos) k.kind k.names
  (thn (hi pins s σ H _ I h) fun v s1 h1=>thn h1 fun itv s2 h2=>?_)) (fun _ s' hq=>wpAny_pure (wpAny_pure hq)) fun _ _ e=>e)
 obtain⟨it,fp,tn,J,H2,e,I2,T,st2,f2,q⟩:=h2;subst e
 refine xR (Q:=fun v H1=>D.nx (σ.set i (some v)) H1) (RR:=fun acc C=>compPost (model X.prog X.w) X.A X.xe (some (assign (.Name x pos') X.env)) (fun _ s'=>SP X pins D .next s') acc C) hc k hg ht he I2 T st2 f2 q ?_
 intro A C H' s' hm hI hC hne qD;obtain⟨m,hm⟩:=hm;show wpAny _ X.A (assign (.Name x pos') X.env (.ref A)) _ _ _;have I':Inv X pins σ H' s':=hI s'.heap (Heap.SameBut.refl ..)
 refine wpAny_assign_Name (aAn (v:=.ref A) I' hN hx (.inl hloc) rfl (fun s'' I'' hch=>?_) (.inr hloc))
 obtain⟨a,sb,ha⟩:=hch;have old:∀b o,s2.heap.get? b=some o->C≠b:=fun b o e z=>by
  subst z
  exact absurd (bP (Heap.lt_size e) hne) (cQ _)
 have hl:∃o,s2.heap.get? X.env.locals=some o:=let ⟨_,⟨o,_,_,ho,_⟩,_⟩:=I2.loc;⟨o,ho⟩
 have hcl:∀y c,X.env.cells.lookup y=some c->C≠c:=fun y c e=>by
  obtain⟨v,o,ho,_⟩:=I2.cell y c e
  exact old c o ho
 have haC:C≠a:=by
  rcases ha with rfl|ha
  ·obtain⟨o,ho⟩:=hl
   exact old _ o ho
  ·exact hcl x a ha
 refine⟨m,hm.sameBut sb haC,fun h3 hs3=>⟨σ.set i (some (.ref A)),H',?_,qD⟩⟩
 refine I''.turned (t':=s''.toks) (fun b o hb e=>(hs3.2 b hb).trans e) hC ?_ (.inr (cC I2.sz hne)) (fun y c e=>Ne.symm (hcl y c e)) fun p hp=>?_
 ·obtain⟨o,ho⟩:=hl
  exact old _ o ho
 ·exact Ne.symm (old _ _ (I2.pin p hp).1)
end
section
variable {X:Cx}
variable{A:Around}{s:Shared}{rs:List (Value×Bool)}
theorem aHg(hu:X.A.units+20<cLine):OpR X (compareOp .Eq) (aNj X.K false):=by
 intro pins s σ H x y u v Q I rx ry h;obtain⟨t1,t2,b,h1,h2,e,q⟩:=h;have q':Q (.bl b) H:=q;have fin:EP X pins σ Q (.bool b) s:=⟨.bl b,H,I,rfl,q'⟩;by_cases hl:∃xs ys,t1=.lst xs/\t2=.lst ys
 ·obtain⟨xs,ys,rfl,rfl⟩:=hl;unfold RT at h1 h2;obtain⟨a,vs,e1,q1,k1⟩:=h1;obtain⟨c,ws,e2,q2,k2⟩:=h2;subst e1 e2;cases rx;cases ry;obtain⟨is,v1,p1,z1⟩:=I.list q1;obtain⟨js,v2,p2,z2⟩:=I.list q2;have l1:=v1.length;have l2:=v2.length;unfold eqT at e;split at e
  ·rename_i hlen;obtain⟨f,f1,f2⟩:=aAR (A:=X.A.in1) (fun t1 t2 x y u v b a1 a2 a3 a4 a5=>aC9 I _ X.A.in1 t1 t2 x y u v b (by show X.A.units+1+4<cLine;lia) a1 a2 a3 a4 a5) k1 k2 v1 v2 e
   refine SeqAt.eq_listAt (e:=f) p1.isList p2.isList (by rw[bG,bG,<-l1,<-l2,k1.length,k2.length];exact hlen) (by lia) (fun j h1 h2=>
    f1 j _ _ (by simp) (by simp)) ?_
   rw[bG,f2]
   exact fin
  ·rename_i hlen;cases e
   refine SeqAt.eq_list_lengthsAt p1.isList p2.isList ?_ (by lia) fin
   rw[bG,bG,<-l1,<-l2,k1.length,k2.length];simpa using hlen
 ·have e':eqF t1 t2=some b:=by
   unfold eqT at e;split at e
   ·exact absurd ⟨_,_,rfl,rfl⟩ hl
   ·exact e
  unfold eqF at e';split at e'
  ·cases e';unfold RT at h1 h2;subst h1 h2;cases rx;cases ry;exact SeqAt.RcAt.bool_bool _ _ _ _ _ _ fin
  ·cases e';unfold RT at h1 h2;subst h1 h2;obtain⟨t,rfl⟩:=rx;obtain⟨t',rfl⟩:=ry;exact SeqAt.RcAt.int_int _ _ _ _ _ _ _ _ fin
  ·cases e';unfold RT at h1 h2;subst h1 h2;obtain⟨t,rfl⟩:=rx;obtain⟨t',rfl⟩:=ry;exact SeqAt.RcAt.str_str _ _ _ _ _ _ _ _ fin
  ·cases e'
theorem aLS(hu:X.A.units+20<cLine):OpR X (compareOp .NotEq) (aNj X.K true):=by
 intro pins s σ H x y u v Q I rx ry h;obtain⟨t1,t2,b,h1,h2,e,q⟩:=h;have q':Q (.bl (!b)) H:=q;have fin:EP X pins σ Q (.bool (!b)) s:=⟨.bl (!b),H,I,rfl,q'⟩;by_cases hl:∃xs ys,t1=.lst xs/\t2=.lst ys
 ·obtain⟨xs,ys,rfl,rfl⟩:=hl;unfold RT at h1 h2;obtain⟨a,vs,e1,q1,k1⟩:=h1;obtain⟨c,ws,e2,q2,k2⟩:=h2;subst e1 e2;cases rx;cases ry;obtain⟨is,v1,p1,z1⟩:=I.list q1;obtain⟨js,v2,p2,z2⟩:=I.list q2;have l1:=v1.length;have l2:=v2.length;unfold eqT at e;split at e
  ·rename_i hlen;obtain⟨f,f1,f2⟩:=aAR (A:=X.A.in1) (fun t1 t2 x y u v b a1 a2 a3 a4 a5=>aC9 I _ X.A.in1 t1 t2 x y u v b (by show X.A.units+1+4<cLine;lia) a1 a2 a3 a4 a5) k1 k2 v1 v2 e
   refine SeqAt.RcNeAt.lists (e:=f) p1.isList p2.isList (by rw[bG,bG,<-l1,<-l2,k1.length,k2.length];exact hlen) (by lia) (fun j h1 h2=>
    f1 j _ _ (by simp) (by simp)) _ _ _ _ ?_
   rw[bG,f2]
   exact fin
  ·rename_i hlen;cases e
   refine SeqAt.RcNeAt.lists_lengths p1.isList p2.isList ?_ (by lia) _ _ _ _ fin
   rw[bG,bG,<-l1,<-l2,k1.length,k2.length];simpa using hlen
 ·have e':eqF t1 t2=some b:=by
   unfold eqT at e;split at e
   ·exact absurd ⟨_,_,rfl,rfl⟩ hl
   ·exact e
  unfold eqF at e';split at e'
  ·cases e';unfold RT at h1 h2;subst h1 h2;exact aHA pins s σ H _ _ u v Q I rx ry ⟨rfl,by rw[aIy];exact q'⟩
  ·cases e';unfold RT at h1 h2;subst h1 h2;exact aHA pins s σ H _ _ u v Q I rx ry ⟨rfl,by rw[aEe];exact q'⟩
  ·cases e';unfold RT at h1 h2;subst h1 h2;exact aHA pins s σ H _ _ u v Q I rx ry ⟨rfl,by rw[aD3];exact q'⟩
  ·cases e'
theorem aDV{t:T}{x:V}{u:Value}{A:Around}{pins:List (Addr×Obj)}{s:Shared}{σ:L2.St}{H:Hp}(I:Inv X pins σ H s)(hu:A.units+5<cLine)(h:RT X.K H [] t x)(r:RelV x u):
 ∀{ts:List T}{vs:List V}{is:List Value}{b:Bool},RTs X.K H [] ts vs->Vals vs is->inL (fun y=>eqT 5 y t) ts=some b->∃rs:List (Value×Bool),rs.map (·.1)=is/\(∀p∈rs,SeqAt.EqAt A s p.1 u p.2)/\b=rs.any (·.2)
 | [],_,_,b,h1,v1,q=>by
   cases q;rw[h1.nil_inv]at v1;cases v1
   exact⟨[],rfl,(fun p hp=>nomatch hp),rfl⟩
 |t'::ts,_,_,b,h1,v1,q=>by
  obtain⟨v,r',rfl,a1,a2⟩:=h1.cons_inv;unfold inL at q;obtain⟨c,q1,q⟩:=aK.mp q;obtain⟨d,q2,q⟩:=aL.mp q;cases v1 with
  |cons x1 y1=>
   obtain⟨rs,w1,w2,w3⟩:=aDV I hu h r a2 y1 q2
   refine⟨(_,c)::rs,by rw[aM,w1],fun p hp=>?_,by rw[aOB,<-w3,q]⟩
   rcases bE.mp hp with rfl|hp
   ·exact aC9 I 5 A t' t _ _ _ _ c hu a1 h x1 r q1
   ·exact w2 p hp
open Classical in
noncomputable def pO(rs:List (Value×Bool))(y:Value):Bool:=if∃p∈rs,p.1=y/\p.2=true then true else false
theorem aH5{u y:Value}(h:∀p∈rs,SeqAt.EqAt A s p.1 u p.2)(hy:y∈rs.map (·.1)):SeqAt.EqAt A s y u (pO rs y):=by
 unfold pO;split
 ·rename_i he;obtain⟨p,hp,rfl,e⟩:=he;rw[<-e];exact h p hp
 ·rename_i hn;obtain⟨p,hp,rfl⟩:=bL.mp hy;have:p.2=false:=by
   cases e:p.2 with
   |false=>rfl
   |true=>exact absurd ⟨p,hp,rfl,e⟩ hn
  rw[<-this];exact h p hp
theorem aD7:(rs.map (·.1)).any (pO rs)=rs.any (·.2):=by
 rw[eJ,aPK,aPK];constructor
 ·rintro⟨y,hy,e⟩;unfold pO at e;split at e
  ·rename_i he;obtain⟨p,hp,_,e⟩:=he
   exact⟨p,hp,e⟩
  ·cases e
 ·rintro⟨p,hp,e⟩
  refine⟨p.1,bL.mpr ⟨p,hp,rfl⟩,?_⟩
  unfold pO;rw[if_pos ⟨p,hp,rfl,e⟩]
theorem aHu(hu:X.A.units+20<cLine):OpR X (compareOp .In) (aMr X.K false):=by
 intro pins s σ H x y u v Q I rx ry h;obtain⟨t,p,vs,ts,b,h1,rfl,hq,hs,e,q⟩:=h;cases ry;obtain⟨is,v1,p1,z1⟩:=I.list hq;obtain⟨rs,w1,w2,w3⟩:=aDV (A:=X.A.in1) I (by show X.A.units+1+5<cLine;lia) h1 rx hs v1 e;subst w1
 refine SeqAt.in_listAt (pO rs) p1.isList (fun y hy=>aH5 w2 (by simpa using hy)) ?_
 rw[show(rs.map (·.1)).toArray.any (pO rs)=(rs.map (·.1)).any (pO rs)by simp,aD7,<-w3]
 exact⟨.bl b,H,I,rfl,q⟩
theorem aF9(hu:X.A.units+20<cLine):OpR X (compareOp .NotIn) (aMr X.K true):=by
 intro pins s σ H x y u v Q I rx ry h;obtain⟨t,p,vs,ts,b,h1,rfl,hq,hs,e,q⟩:=h;cases ry;obtain⟨is,v1,p1,z1⟩:=I.list hq;obtain⟨rs,w1,w2,w3⟩:=aDV (A:=X.A.in1) I (by show X.A.units+1+5<cLine;lia) h1 rx hs v1 e;subst w1
 refine SeqAt.notIn_listAt (pO rs) p1.isList (fun y hy=>aH5 w2 (by simpa using hy)) ?_
 rw[show(rs.map (·.1)).toArray.any (pO rs)=(rs.map (·.1)).any (pO rs)by simp,aD7,<-w3]
 exact⟨.bl (!b),H,I,rfl,q⟩
theorem z9{prog:Program}{w:World}{A:Around}{E:Value->Shared->Prop}{it t:Addr}{items:Array Value}(hne:t≠it):∀(n i:Nat)(s:Shared)(Q:List Value->Shared->Prop),s.heap.IsListIter it t i->s.heap.IsList t items->i+n<=items.size->
 (∀h',h'.IsListIter it t (i+n)->Heap.SameBut it s.heap h'->Q ((items.toList.drop i).take n) {s with heap:=h'})->wpAny (model prog w) A (draw (.ref it) n) Q E s
 |0,i,s,Q,hit,_,_,hQ=>by
  show wpAny _ _ (pure []) Q E s
  exact wpAny_pure (by simpa using hQ s.heap hit (Heap.SameBut.refl ..))
 |n+1,i,s,Q,hit,ht,hle,hQ=>by
  have hlt:i<items.size:=by lia
  show wpAny _ _ (pyNext (.ref it)>>=_) Q E s
  refine wpAny_bind (wpAny_pyNext_list_item hit ht (x:=items[i]) (by simp[hlt]) fun h₁ hit₁ hs₁=>?_)
  refine wpAny_bind (wpAny_holding (z9 hne n (i+1) _ _ hit₁ (ht.extBut hs₁.extBut hne) (by lia) fun h₂ hit₂ hs₂=>wpAny_pure ?_))
  have hd:items.toList.drop i=items[i]::items.toList.drop (i+1):=by simp[eU,hlt]
  have:=hQ h₂ (by rw[show i+(n+1)=i+1+n by lia];exact hit₂) (hs₁.trans hs₂);rw[hd,aPs]at this
  exact this
theorem uM{prog:Program}{w:World}{E:Value->Shared->Prop}{t:Addr}{items:Array Value}{Q:List Value->Shared->Prop}(hh:A.handled=none)(ht:s.heap.IsList t items)
 (hQ:∀h',Heap.ExtBut s.heap.objs.size s.heap h'->Q items.toList {s with heap:=h'}):wpAny (model prog w) A (unpackItems (.ref t) items.size none) Q E s:=by
 have hlt:t≠s.heap.objs.size:=by obtain⟨o,ho,_⟩:=ht;exact bT (Heap.lt_size ho)
 unfold unpackItems
 refine wpAny_bind ?_
 ·unfold notIterableAtAll
  refine wpAny_bind (wpAny_specialOf ht.typeIs slot_list_iter.lookup ?_)
  refine wpAny_pure ?_
  simp only[b9,if_false]
  refine wpAny_bind (wpAny_holding (wpAny_pyIter_list ht ?_))
  refine wpAny_bind (wpAny_holding (z9 hlt items.size 0 _ _ ⟨_,Heap.get?_push_size _ rfl,rfl,rfl⟩ (ht.push _) (by lia) fun h₁ hit₁ hs₁=>?_))
  have hall:List.take items.size (List.drop 0 items.toList)=items.toList:=by
   rw[aPR];exact dN (by simp)
  rw[hall];rw[if_neg (by simp)];have ht₁:h₁.IsList t items:=(ht.push _).extBut hs₁.extBut hlt
  refine wpAny_bind (wpAny_holding (wpAny_pyNext_list_end hh hit₁ ht₁ (by simp) fun h₂ he₂=>?_))
  simp only[Option.isSome_none,b9,if_false]
  refine wpAny_pure (hQ h₂ fun b o hb e=>he₂ b o hb (hs₁.extBut b o hb (Heap.get?_push_of_some _ e)))
noncomputable def gLst(K:aO)(n:Nat)(t:TGs):TG:=fun v σ H Q=>∃a xs,v=.ref a/\(SqL K H a xs\/SqT K H a xs)/\xs.length=n/\t xs σ H Q
theorem aMS{es:List Expr}{k:Nat}{t:TGs}{n:Nat}{pos:Pos}(hc:X.calm=true)(h:PGs X es t)
 (hn:(assignEach es X.env).length=n:=by rfl)(hst:(assignEach es X.env).findIdx? (·.1)=none:=by rfl):PG X (.Tuple es k pos) (gLst X.K n t):=by
 intro pins s σ H v u Q I r hw;obtain⟨a,xs,e1,hq,hl,hw⟩:=hw;rcases hq with hq|hq
 ·subst e1;cases r;obtain⟨its,rv,ht,hz⟩:=I.list hq;rw[assign_Tuple]
  refine wpAny_bind (wpAny_standAt ?_)
  unfold unpack;have hn':(assignEach es X.env).length=its.toArray.size:=by simp[hn,<-hl,rv.length]
  rw[hn',hst]
  refine wpAny_bind (wpAny_holding (uM (I.ok.hd hc) ht.isList fun h' hx=>?_))
  have I1:Inv X pins σ H {s with heap:=h'}:=I.kept (t':=s.toks) fun b o e=>hx b o (bT (Heap.lt_size e)) e
  exact h pins _ σ H xs _ Q I1 (by simpa using rv) hw
 ·exact aMZ hc h hn hst pins s σ H v u Q I r ⟨a,xs,e1,hq,hl,hw⟩
end
end TL
namespace TL
open PySem L2
def Itz(K:aO)(l1 l2:Addr):It:=
 ⟨fun i H=>∃xs ys x y,SqL K H l1 xs/\SqL K H l2 ys/\xs[i]?=some x/\ys[i]?=some y,
  fun i H v H'=>∃p x y,H p=none/\v=.ref p/\H'=upd H p (.tup [x,y])/\(∀xs,SqL K H l1 xs->xs[i]?=some x)/\∀ys,SqL K H l2 ys->ys[i]?=some y,
  fun i H=>∃xs ys,SqL K H l1 xs/\SqL K H l2 ys/\(xs[i]?=none\/ys[i]?=none)⟩
def iZip(K:aO)(t:TA):TI:=fun σ H R=>t σ H fun vs H1=>∃l1 l2,vs=[.ref l1,.ref l2]/\(∃xs,SqL K H1 l1 xs)/\(∃ys,SqL K H1 l2 ys)/\R (Itz K l1 l2) H1
noncomputable def zH(ts us:List T):List T:=(ts.zip us).map fun p=>.tup [p.1,p.2]
section
variable {K:aO}{σ:L2.St}{H:Hp}{Q:VK}
variable{H1:Hp}{ρ1:Rho}
theorem l5{Z:Addr->Prop}{H₀:Hp}{τ:TSt}{C:Sto}{σ:L2.St}{t:T}{ts:List T}{a:Addr}(R1:Rel K H₀ Z ρ1 τ C σ H1)(h1:RT K (mask H1 Z ρ1) ρ1 t (.ref a))(e2:liT C t=some ts)
 {H₀':Hp}{Z':Addr->Prop}{ρ':Rho}{τ':TSt}{C':Sto}{σ':L2.St}{H:Hp}(R':Rel K H₀' Z' ρ' τ' C' σ' H)(sm:Same (mask H1 Z ρ1) (mask H Z' ρ'))(ix:∀(c:Nat)(a:Addr),ρ1[c]?=some a->ρ'[c]?=some a)(st':stays t ts C'\/Same H1 H):
  ∃ws,SqL K H a ws/\RTs K (mask H Z' ρ') ρ' ts ws:=by
 rcases st' with st'|st'
 ·have h2:=h1.mono sm ix;have e3:liT C' t=some ts:=by
   cases t with
   |cell c=>exact st'
   |lst us=>exact e2
   |_=>cases e2
  obtain⟨a',ws,ev',q',r'⟩:=R'.li h2 e3;cases ev'
  exact⟨ws,q',r'⟩
 ·obtain⟨a',ws,ev',q',r'⟩:=R1.li h1 e2;cases ev'
  exact⟨ws,st'.seq q',r'.mono sm ix⟩
theorem aJT{Z:Addr->Prop}{H₀:Hp}{τ:TSt}{C:Sto}{σ:L2.St}{t u:T}{ts us:List T}{a b:Addr}(R1:Rel K H₀ Z ρ1 τ C σ H1)(h1:RT K (mask H1 Z ρ1) ρ1 t (.ref a))(e1:liT C t=some ts)
 (h2:RT K (mask H1 Z ρ1) ρ1 u (.ref b))(e2:liT C u=some us):Wlk K (Itz K a b) Z H1 ρ1 (zH ts us) (fun C=>stays t ts C/\stays u us C):=by
 refine⟨fun i t' H₀ Z' ρ' τ' C' σ H ht R' sm ix st' _=>?_,fun H₀ Z' ρ' τ' C' σ H R' sm ix st' _=>?_⟩
 ·obtain⟨ws,q1,r1⟩:=l5 R1 h1 e1 R' sm ix (st'.imp (·.1) id);obtain⟨xs,q2,r2⟩:=l5 R1 h2 e2 R' sm ix (st'.imp (·.2) id);unfold zH at ht;rw[bJ]at ht;obtain⟨⟨x1,x2⟩,hz,rfl⟩:=aL.mp ht;obtain⟨z1,z2⟩:=dQ.mp hz;obtain⟨v1,hv1,rv1⟩:=r1.get z1;obtain⟨v2,hv2,rv2⟩:=r2.get z2
  refine⟨⟨ws,xs,v1,v2,q1,q2,hv1,hv2⟩,fun x H' hy=>?_⟩
  obtain⟨p,y1,y2,hp,rfl,rfl,k1,k2⟩:=hy;have w1:=k1 ws q1;have w2:=k2 xs q2;rw[hv1]at w1;cases w1;rw[hv2]at w2;cases w2
  exact⟨fun b u h=>by rw[fQ (fun z=>by rw[z,hp]at h;cases h)];exact h,R'.alloc_tup hp (.cons rv1 (.cons rv2 .nil))⟩
 ·obtain⟨ws,q1,r1⟩:=l5 R1 h1 e1 R' sm ix (st'.imp (·.1) id);obtain⟨xs,q2,r2⟩:=l5 R1 h2 e2 R' sm ix (st'.imp (·.2) id)
  refine⟨ws,xs,q1,q2,?_⟩
  have hl:(zH ts us).length=min ts.length us.length:=by simp[zH]
  rw[hl];rcases Nat.le_total ts.length us.length with h|h
  ·exact .inl (dE (by rw[r1.length,aPe h];exact bI _))
  ·exact .inr (dE (by rw[r2.length,aO5 h];exact bI _))
def tV(f1 f2:FE)(k:Nat)(is:List Nat)(g:FG)(tc:FB)(fe:FE):FN:=fun τ C=>(f1 τ C).bind fun p=>(f2 τ p.2).bind fun q=>(liT q.2 p.1).bind fun ts=>(liT q.2 q.1).bind fun us=>
 if(zH ts us).length<lim then jG g tc fe (scT k is τ) (zH ts us) q.2 else none
theorem aJf{f1 f2:FE}{k:Nat}{is:List Nat}{g:FG}{tc:FB}{fe:FE}(hg:Own k g)(h:trN K (tV f1 f2 k is g tc fe) σ H Q):xK (iZip K (trA K (fB f1 (fB f2 fJ)))) (scV k is) (trG K g) (trT K tc) (trE K fe) σ H Q:=by
 obtain⟨H₀,Z,ρ,τ,C,ys,C',R,e,q⟩:=h;unfold tV at e;obtain⟨⟨t,C1⟩,e1,e⟩:=aK.mp e;obtain⟨⟨u,C2⟩,e2,e⟩:=aK.mp e;obtain⟨ts,e3,e⟩:=aK.mp e;obtain⟨us,e4,e⟩:=aK.mp e;split at e
 ·rename_i hl
  refine⟨H₀,Z,ρ,τ,C,[t,u],C2,R,by simp[fB,fJ,e1,e2],fun vs H1 ρ1 R1 h1 s1=>?_⟩
  obtain⟨v,r,rfl,q1,q2⟩:=h1.cons_inv;obtain⟨v',r',rfl,q3,q4⟩:=q2.cons_inv;rw[q4.nil_inv];obtain⟨a,vs,ea,qa,ra⟩:=R1.li q1 e3;obtain⟨b,ws,eb,qb,rb⟩:=R1.li q3 e4;subst ea eb
  exact⟨a,b,rfl,⟨vs,qa⟩,⟨ws,qb⟩,fun D hD=>qF R1 hg (aJT R1 q1 e3 q3 e4) ⟨nW e3,nW e4⟩ (fun C C2 h z=>⟨qZ C C2 h z.1,qZ C C2 h z.2⟩) hl e hD fun p H' ρ' vs R' hp rv s'=>q p H' ρ' vs R' hp rv (s1.trans s')⟩
 ·cases e
end
def jD(d:Int)(ns:List Int):Int:=if ns.isEmpty then d else tR ns
def aCE(t1 t2:T)(C:Sto):Option (T×Sto):=match t2 with
 | .int d=>(liT C t1).bind fun us=>(ints? us).map fun ns=>(.int (jD d ns),C)
 |_=>none
abbrev aIa(a b:FE):FE:=i8 a b aCE
def frz1(C:Sto):Option T->Option (Option T)
 |none=>some none
 |some t=>(dr 3 C t).map some
def frz(C:Sto):TSt->Option TSt
 | []=>some []
 |o::τ=>(frz1 C o).bind fun o'=>(frz C τ).map (o':: ·)
section
variable {K:aO}{σ:St}{H:Hp}{D:Ends}{F G:FS}{Q:VK}
end
end TL
namespace TL
open PySem PySem.Spec PyProof.Rows L2
section
variable {P:Program}{w:World}{H H':Hp}{h h':Heap}{a:Addr}{o:HO}
end
def Named(K:aO)(c:String)(C:Addr):Prop:=bU K mainGlobals (Str.ofString c)=some (some (.ref C))
structure Aloft(P:Program)(w:World)(K:aO)(l:List Env)(H:Hp)(s:Shared)(c:String)(H':Hp)(C:Addr)(B:Heap)(s':Shared):Prop where
 nm:Named K c C
 os:s'.os=s.os
 bare:AllBare s'.gens
 un:Un (frs l) [] H H' s.heap s'.heap
 hok:HOk P w H' s'.heap
 keepB:∀b o,s.heap.get? b=some o->H b=none->b∉frs l->B.get? b=some o
 trkB:∀b u o,H' b=some u->s'.heap.get? b=some o->B.get? b=some o
 thereB:∀b o,s.heap.get? b=some o->b∉frs l->∃o',B.get? b=some o'
def Flies(B:Heap)(l:List Env)(a C:Addr)(s':Shared):Prop:=∃t,Heap.FlyingW B l a (.ref C) (.ref t) s'.heap
def Made(B:Heap)(l:List Env)(a C:Addr)(s':Shared):Prop:=∃h vs,B.StaysIn h/\h.FunFrames B l/\Heap.MadeExcOf h s'.heap a (.ref C) vs
noncomputable def wish(X:Cx):XW:=fun c σ H'=>∀pins H s a C B s',Inv X pins σ H s->Aloft X.prog X.w X.K X.stack H s c H' C B s'->(Made B X.stack a C s'\/Flies B X.stack a C s')->X.xe (.ref a) s'
section
variable {X:Cx}{pins:List (Addr×Obj)}{σ:L2.St}{H H':Hp}{s s':Shared}{c:String}{C a:Addr}{B:Heap}
end
section
variable {P:Program}{w:World}{K:aO}{mg:Str->Option Value}{base:Heap}{N:List Str}{qual:Str}{scope:Scope}{f:Addr}{cd:Value}{A:Around}{outer:List Env}{s:Shared}{H:Hp}{E:XK}
end
abbrev QE(X:Cx)(e:Expr)(f:FE):Prop:=PE X e (trE X.K f)
abbrev QN(X:Cx)(e:Expr)(f:FN):Prop:=PE X e (trN X.K f)
abbrev QA(X:Cx)(e:List Expr)(f:FN):Prop:=PA X e (trA X.K f)
abbrev QT(X:Cx)(e:Expr)(f:FB):Prop:=PT X e (trT X.K f)
abbrev QW(X:Cx)(e:Expr)(f:FB):Prop:=PW X e (trT X.K f)
abbrev QO(X:Cx)(e:Option Expr)(f:FO):Prop:=PO X e (trO X.K f)
abbrev QS(X:Cx)(e:Stmt)(f:FS):Prop:=PS X e (trS X.K (wish X) f)
abbrev QSs(X:Cx)(e:List Stmt)(f:FS):Prop:=PSs X e (trS X.K (wish X) f)
abbrev QG(X:Cx)(e:Expr)(g:FG):Prop:=PG X e (trG X.K g)
abbrev QTs(X:Cx)(e:List Expr)(f:FB):Prop:=PTs X e (trT X.K f)
theorem PTs.imp{X:Cx}{e:List Expr}{t t':TT}(h:PTs X e t)(hi:∀σ H Q,t' σ H Q->t σ H Q):PTs X e t':=fun pins s σ H Q I q=>h pins s σ H Q I (hi σ H Q q)
theorem aGf{i j:Int}(h:kA i j=true):IntMulOk i j:=by
 unfold kA at h;unfold IntMulOk;intro z;rw[z]at h;cases h
section
variable {X:Cx}{a b c e:Expr}{es:List Expr}{fa fb fc f:FE}{fr fn:FN}{ga gb:FB}{pos p p2:Pos}{j:Nat}
variable{op:CmpOp}{r:R2}
theorem eZ(i:Nat){x:Str}(hN:X.N[i]?=some x:=by rfl)(hv:Vis X.env.scope x:=by first|exact aP1 rfl|exact aPS (aP1 rfl)|exact aPS (aPS rfl))(hd:(x==("__debug__":Str))=false:=by decide)
 (hcd:(x==("__classdict__":Str))=false:=by decide):QE X (.Name x pos) (fA i):=(aMI hN hv hd hcd).imp fun _ _ _=>aNC
theorem fH{i:Int}{k}:QE X (.Constant (.int i) k pos) (fC (.int i)):=aDE.imp fun _ _ _=>i_C fun _ _=>.int
theorem oV{i:Bool}{k}:QE X (.Constant (.bool i) k pos) (fC (.bl i)):=aNN.imp fun _ _ _=>i_C fun _ _=>.bl
theorem aCv{k}:QE X (.Constant .none k pos) (fC .non):=aMX.imp fun _ _ _=>i_C fun _ _=>.non
theorem iJ(ha:QE X a fa)(hb:QE X b fb):QE X (.BinOp a .Add b pos) (i8 fa fb (gI fun i j=>.int (i+j))):=(u3 aMm ha hb).imp fun _ _ _=>wF fun _ _ _ _ _=>o_I fun _ _ _ _=>.int
theorem oC(ha:QE X a fa)(hb:QE X b fb):QE X (.BinOp a .Sub b pos) (i8 fa fb (gI fun i j=>.int (i - j))):=(u3 aNl ha hb).imp fun _ _ _=>wF fun _ _ _ _ _=>o_I fun _ _ _ _=>.int
theorem aJx:OpR X (binaryOp .Mult) (rI IntMulOk fun i j=>.int (i*j)):=opI fun _ _ _ _ _ _ _ hc q=>mul_int q hc
theorem lG(ha:QE X a fa)(hb:QE X b fb):QE X (.BinOp a .Mult b pos) (i8 fa fb (gIc kA fun i j=>.int (i*j))):=(u3 aJx ha hb).imp fun _ _ _=>wF fun _ _ _ _ _ h=>by
 obtain⟨i,j,h1,h2,h3,q⟩:=aGM (g:=fun i j=>.int (i*j)) (fun _ _ _ _=>.int) h
 exact⟨i,j,h1,h2,aGf h3,q⟩
theorem iS(ha:QE X a fa)(hb:QE X b fb):QE X (.BinOp a .Mod b pos) (i8 fa fb (gIc (fun _ j=>decide (0<j)) fun i j=>.int (i%j))):=(u3 aMa ha hb).imp fun _ _ _=>wF fun _ _ _ _ _ h=>by
 obtain⟨i,j,h1,h2,h3,q⟩:=aGM (g:=fun i j=>.int (i%j)) (fun _ _ _ _=>.int) h
 exact⟨i,j,h1,h2,of_decide_eq_true h3,q⟩
theorem lE(ha:QE X a fa)(hb:QE X b fb):QE X (.BinOp a .FloorDiv b pos) (i8 fa fb (gIc (fun _ j=>decide (0<j/\j<1073741824)) fun i j=>.int (i/j))):=(u3 aKD ha hb).imp fun _ _ _=>wF fun _ _ _ _ _ h=>by
 obtain⟨i,j,h1,h2,h3,q⟩:=aGM (g:=fun i j=>.int (i/j)) (fun _ _ _ _=>.int) h;have h4:0<j/\j<1073741824:=of_decide_eq_true h3
 exact⟨i,j,h1,h2,h4,q⟩
theorem aEt(ha:QE X a fa)(hb:QE X b fb):QE X (.BinOp a .Pow b pos) (i8 fa fb (gIc (fun i j=>decide (0<=j/\j<=1000000/\i.natAbs<2^64)) fun i j=>.int (i^j.toNat))):=(u3 aL6 ha hb).imp fun _ _ _=>wF fun _ _ _ _ _ h=>by
 obtain⟨i,j,h1,h2,h3,q⟩:=aGM (g:=fun i j=>.int (i^j.toNat)) (fun _ _ _ _=>.int) h;have h4:0<=j/\j<=1000000/\i.natAbs<2^64:=of_decide_eq_true h3
 exact⟨i,j,h1,h2,h4,q⟩
theorem aNx(ha:QE X a fa):QE X (.UnaryOp .USub a pos) (fUn fa aG6):=(aNw aM2 ha).imp fun _ _ _ h=>iX (aMd h) fun _ _ q=>aNK q
theorem aAe{g:T->T->Sto->Option (T×Sto)}(ho:OpR X (compareOp op) r)(hg:∀σ H Q x y,(∃t1 t2,trV X.K σ [t1,t2] [x,y] (g t1 t2) H Q)->r x y H Q)(ha:QE X a fa)(hb:QE X b fb)(hm:behindInMarks op b=false):
 QE X (.Compare a [op] [b] pos) (i8 fa fb g):=(aKX ho ha hb hm).imp fun _ _ _=>wF hg
theorem wA{g:T->T->Sto->Option (T×Sto)}(ho:OpR X (compareOp op) r)(hg:∀σ H Q x y,(∃t1 t2,trV X.K σ [t1,t2] [x,y] (g t1 t2) H Q)->r x y H Q)(ha:QE X a fa)(hb:QE X b fb)(hm:behindInMarks op b=false):
 QT X (.Compare a [op] [b] pos) (iC (i8 fa fb g)):=(aI5 ho ha hb hm).imp fun _ _ _=>aGx fun _ _ _=>wF hg
abbrev gLt:=gI fun i j=>.bl (decide (i<j))
abbrev gGt:=gI fun i j=>.bl (decide (j<i))
abbrev gGe:=gI fun i j=>.bl (decide (j<=i))
theorem aOd(ha:QE X a fa)(hb:QE X b fb):QE X (.Compare a [.Lt] [b] pos) (i8 fa fb gLt):=aAe aHC (fun _ _ _ _ _=>o_I fun _ _ _ _=>.bl) ha hb (nomark _)
theorem aFL(ha:QE X a fa)(hb:QE X b fb):QE X (.Compare a [.Gt] [b] pos) (i8 fa fb gGt):=aAe aKZ (fun _ _ _ _ _=>o_I fun _ _ _ _=>.bl) ha hb (nomark _)
theorem aOl(ha:QE X a fa)(hb:QE X b fb):QE X (.Compare a [.GtE] [b] pos) (i8 fa fb gGe):=aAe aLd (fun _ _ _ _ _=>o_I fun _ _ _ _=>.bl) ha hb (nomark _)
theorem zJ(ha:QE X a fa)(hb:QE X b fb):QT X (.Compare a [.Lt] [b] pos) (iC (i8 fa fb gLt)):=wA aHC (fun _ _ _ _ _=>o_I fun _ _ _ _=>.bl) ha hb (nomark _)
theorem aCu(ha:QE X a fa)(hb:QE X b fb):QT X (.Compare a [.Gt] [b] pos) (iC (i8 fa fb gGt)):=wA aKZ (fun _ _ _ _ _=>o_I fun _ _ _ _=>.bl) ha hb (nomark _)
theorem aND(ha:QE X a fa)(hb:QE X b fb):QT X (.Compare a [.GtE] [b] pos) (iC (i8 fa fb gGe)):=wA aLd (fun _ _ _ _ _=>o_I fun _ _ _ _=>.bl) ha hb (nomark _)
theorem aNJ(hu:X.A.units+20<cLine)(ha:QE X a fa)(hb:QE X b fb):QE X (.Compare a [.Eq] [b] pos) (i8 fa fb (gEq false)):=aAe (aHg hu) (fun _ _ _ _ _=>aLK) ha hb (nomark _)
theorem aA8(hu:X.A.units+20<cLine)(ha:QE X a fa)(hb:QE X b fb):QT X (.Compare a [.Eq] [b] pos) (iC (i8 fa fb (gEq false))):=wA (aHg hu) (fun _ _ _ _ _=>aLK) ha hb (nomark _)
theorem aH0(hu:X.A.units+20<cLine)(ha:QE X a fa)(hb:QE X b fb):QT X (.Compare a [.NotEq] [b] pos) (iC (i8 fa fb (gEq true))):=wA (aLS hu) (fun _ _ _ _ _=>aLK) ha hb (nomark _)
theorem aOe(hu:X.A.units+20<cLine)(ha:QE X a fa)(hb:QE X b fb)(hm:behindInMarks .In b=false:=by rfl):QE X (.Compare a [.In] [b] pos) (i8 fa fb (gIn false)):=aAe (aHu hu) (fun _ _ _ _ _=>aM1) ha hb hm
theorem aOh(hu:X.A.units+20<cLine)(ha:QE X a fa)(hb:QE X b fb)(hm:behindInMarks .In b=false:=by rfl):QT X (.Compare a [.In] [b] pos) (iC (i8 fa fb (gIn false))):=wA (aHu hu) (fun _ _ _ _ _=>aM1) ha hb hm
theorem aIC(hu:X.A.units+20<cLine)(ha:QE X a fa)(hb:QE X b fb)(hm:behindInMarks .NotIn b=false:=by rfl):QT X (.Compare a [.NotIn] [b] pos) (iC (i8 fa fb (gIn true))):=wA (aF9 hu) (fun _ _ _ _ _=>aM1) ha hb hm
theorem zI(ha:QE X a fa)(hb:QE X b fb)(hc:QE X c fc)(hm:lastMarks [.LtE,.Lt] [b,c]=false:=by with_unfolding_all rfl):QE X (.Compare a [.LtE,.Lt] [b,c] pos) (tZ fa fb fc (fun i j=>decide (i<=j)) (fun i j=>decide (i<j))):=
 (aH7 aNQ aHC ha hb hc hm).imp fun _ _ _=>aJK
theorem aK5{op}(ha:QE X a fa):QE X (.BoolOp op [a] pos) fa:=aM5 ha
theorem aLj(ha:QE X a fa)(hb:QE X (.BoolOp .And (b::es) pos) fb):QE X (.BoolOp .And (a::b::es) pos) (wZ fa fb):=(aLC ha hb).imp fun _ _ _=>aMq
theorem aNY(ha:QE X a fa):QE X (.UnaryOp .Not a pos) (aAy fa):=(aLT ha).imp fun _ _ _=>aLA
theorem tU(ha:QT X a ga):QW X (.BoolOp .And [a] pos) ga:=aJa ha
theorem yF(ha:QT X a ga):QW X (.BoolOp .Or [a] pos) ga:=aMk ha
theorem zS(ha:QT X a ga)(hb:QW X (.BoolOp .And (b::es) pos) gb):QW X (.BoolOp .And (a::b::es) pos) (nV ga gb):=(aMY ha hb).imp fun _ _ _=>aM9
theorem sF(ha:QT X a ga)(hb:QW X (.BoolOp .Or (b::es) pos) gb):QW X (.BoolOp .Or (a::b::es) pos) (oE ga gb):=(aN0 ha hb).imp fun _ _ _=>aN3
theorem t_w(h:QW X a ga):QT X a ga:=h.pt
theorem nK(ha:QT X a ga):QT X (.UnaryOp .Not a pos) (k6 ga):=(aMe ha).imp fun _ _ _=>aLN
theorem lV(ha:QE X a fa)(he:∀whole,isTrue a X.env whole=(do let v<-whole;standAt a.pos;holding [v] (truthy v)):=by intro _;rfl):QT X a (mK fa):=(aG0 ha he).imp fun _ _ _=>aNM
theorem gE(ha:QE X a fa)(hb:QE X b fb)(hs:PlainIx b:=by exact fun _ _=>rfl):QE X (.Subscript a b pos) (i8 fa fb gIx):=(aNU aLB ha hb hs).imp fun _ _ _=>wF fun _ _ _ _ _=>aOj
theorem tI:QO X none mS:=aIP.imp fun _ _ _=>aGW
theorem aAN(ha:QE X a fa):QO X (some a) (rF fa):=(aBj ha).imp fun _ _ _=>aL1
theorem vN{lo hi:Option Expr}{fl fh:FO}(ha:QE X a fa)(hl:QO X lo fl)(hh:QO X hi fh):QN X (.Subscript a (.Slice lo hi none p2) pos) (fSl fa fl fh):=(aGj aJX ha hl hh).imp fun _ _ _=>aOf
theorem fF:QA X [] fJ:=aC2.imp fun _ _ _=>aK4
theorem e9(ha:QE X e f)(hr:QA X es fr)(hs:starEach (e::es) X.env=(false,eval e X.env)::starEach es X.env:=by rfl):QA X (e::es) (fB f fr):=(vV ha hr hs).imp fun _ _ _=>aMj
theorem gT(h:QA X es fr):QN X (.List es pos) (gK fr):=(aLY h).imp fun _ _ _=>aLu lM
theorem aEd(ha:QE X a fa)(hb:QE X b fb):QN X (.BinOp a .Add b pos) (xF fa fb aFQ):=(u3 aIR ha hb).imp fun _ _ _=>aNs fun _ _ _ _ _=>aNo
theorem f6(h:QN X a fn):QE X a (fV fn):=PE.imp h fun _ _ _=>aIE
theorem kW(h:QN X a fn):QE X a (jB fn):=PE.imp h fun _ _ _=>aGY
section
variable {x:Str}{id:String}
theorem aC5{r:List V->Hp->VK->Prop}{g:List T->Sto->Option (T×Sto)}(hc:nC X (.builtin id) r)(ho:∀σ H Q xs,(∃ts,trV X.K σ ts xs (g ts) H Q)->r xs H Q)(hv:bootBuiltins x=some (.builtin id))(hm:X.mg x=none)(hg:Gl X x)(ha:QA X (e::es) fr)(hn:x≠"__name__":=by decide)(hdb:(x==("__debug__":Str))=false:=by decide)
 (he:starEach (e::es) X.env=(false,eval e X.env)::starEach es X.env:=by rfl)(hpl:(backTo pos (starEach es X.env)).any (·.1)=false:=by rfl):QE X (.Call (.Name x p) (e::es) [] pos) (nB fr g):=
 (aB2 hc hg hm hv ha hn hdb he hpl).imp fun _ _ _=>aN1 ho
end
theorem lI(hm:X.mg "len"=none)(ha:QA X (e::es) fr)(hg:Gl X "len":=by rfl)(he:starEach (e::es) X.env=(false,eval e X.env)::starEach es X.env:=by rfl)(hpl:(backTo pos (starEach es X.env)).any (·.1)=false:=by rfl):
 QE X (.Call (.Name "len" p) (e::es) [] pos) (nB fr aFd):=aC5 aBA (fun _ _ _ _=>aNP) PySem.boot_len hm hg ha (by decide) (by decide) he hpl
theorem aFz(hc:X.calm=true):nC X (.builtin "sum") (aCa X.K (fun _=>true) aQj):=aFx hc
theorem aEm(hm:X.mg "sum"=none)(hc:X.calm=true)(ha:QA X (e::es) fr)(hg:Gl X "sum":=by rfl)(he:starEach (e::es) X.env=(false,eval e X.env)::starEach es X.env:=by rfl)(hpl:(backTo pos (starEach es X.env)).any (·.1)=false:=by rfl):
 QE X (.Call (.Name "sum" p) (e::es) [] pos) (aIK fr):=aC5 (aFz hc) (fun _ _ _ _=>aDZ) boot_sum hm hg ha (by decide) (by decide) he hpl
theorem aNe(hm:X.mg "max"=none)(hc:X.calm=true)(ha:QA X (e::es) fr)(hg:Gl X "max":=by rfl)(he:starEach (e::es) X.env=(false,eval e X.env)::starEach es X.env:=by rfl)(hpl:(backTo pos (starEach es X.env)).any (·.1)=false:=by rfl):
 QE X (.Call (.Name "max" p) (e::es) [] pos) (fMaxL fr):=aC5 (aGc hc) (fun _ _ _ _=>aDZ) boot_max hm hg ha (by decide) (by decide) he hpl
theorem aL2(hm:X.mg "max"=none)(hc:X.calm=true)(ha:QA X (e::es) fr)(hg:Gl X "max":=by rfl)(he:starEach (e::es) X.env=(false,eval e X.env)::starEach es X.env:=by rfl)(hpl:(backTo pos (starEach es X.env)).any (·.1)=false:=by rfl):
 QE X (.Call (.Name "max" p) (e::es) [] pos) (fMax2 fr):=aC5 (aE5 hc) (fun _ _ _ _=>aNy) boot_max hm hg ha (by decide) (by decide) he hpl
theorem pW(hm:X.mg "min"=none)(hc:X.calm=true)(ha:QA X (e::es) fr)(hg:Gl X "min":=by rfl)(he:starEach (e::es) X.env=(false,eval e X.env)::starEach es X.env:=by rfl)(hpl:(backTo pos (starEach es X.env)).any (·.1)=false:=by rfl):
 QE X (.Call (.Name "min" p) (e::es) [] pos) (nO fr):=aC5 (aE8 hc) (fun _ _ _ _=>aNy) boot_min hm hg ha (by decide) (by decide) he hpl
theorem aK2(hm:X.mg "all"=none)(hc:X.calm=true)(ha:QA X (e::es) fr)(hg:Gl X "all":=by rfl)(he:starEach (e::es) X.env=(false,eval e X.env)::starEach es X.env:=by rfl)(hpl:(backTo pos (starEach es X.env)).any (·.1)=false:=by rfl):
 QE X (.Call (.Name "all" p) (e::es) [] pos) (aKC fr):=aC5 (aGd hc) (fun _ _ _ _=>aNF) boot_all hm hg ha (by decide) (by decide) he hpl
theorem qJ(hm:X.mg "int"=none)(ha:QA X (e::es) fr)(hg:Gl X "int":=by rfl)(he:starEach (e::es) X.env=(false,eval e X.env)::starEach es X.env:=by rfl)(hpl:(backTo pos (starEach es X.env)).any (·.1)=false:=by rfl):
 QE X (.Call (.Name "int" p) (e::es) [] pos) (pJ fr):=(aAA aFJ hg hm boot_int ha (by decide) (by decide) he hpl).imp fun _ _ _=>aN1 fun _ _ _ _=>aMK
theorem aIL(hm:X.mg "list"=none)(ha:QA X (e::es) fr)(hg:Gl X "list":=by rfl)(he:starEach (e::es) X.env=(false,eval e X.env)::starEach es X.env:=by rfl)(hpl:(backTo pos (starEach es X.env)).any (·.1)=false:=by rfl):
 QN X (.Call (.Name "list" p) (e::es) [] pos) (aCs fr):=(aAA aBg hg hm boot_list ha (by decide) (by decide) he hpl).imp fun _ _ _=>aNv fun _ _ _ _=>aLt
structure jV(P:Program)(w:World)(K:aO)(mg:Str->Option Value)(base:Heap)(k:Nat)(x:Str)(n:Nat)(F:List T->Option T):Prop where
 ex:∃f fd ps,mV P w K mg base CX0 k f fd ps (spT K n F)/\mg x=some (.ref f)/\cF K (.ref f)=true/\Binds K fd ps []
structure aML(P:Program)(w:World)(K:aO)(mg:Str->Option Value)(base:Heap)(k:Nat)(x:Str)(n:Nat)(F:List T->Option (List T)):Prop where
 ex:∃f fd ps,mV P w K mg base CX0 k f fd ps (spN K n F)/\mg x=some (.ref f)/\cF K (.ref f)=true/\Binds K fd ps []
theorem f9{k n:Nat}{x:Str}{F:List T->Option T}(D:jV X.prog X.w X.K X.mg X.base k x n F)(hr:Room k X.A)(ha:QA X (e::es) fr)(hg:Gl X x:=by rfl)(hdb:(x==("__debug__":Str))=false:=by decide)
 (he:starEach (e::es) X.env=(false,eval e X.env)::starEach es X.env:=by rfl)(hpl:(backTo pos (starEach es X.env)).any (·.1)=false:=by rfl):QE X (.Call (.Name x p) (e::es) [] pos) (f8 n F fr):=by
 obtain⟨f,fd,ps,G,hm,hk,hb⟩:=D.ex
 exact(tD (E:=fun _ _ _=>False) G hr hg hm hk hb .nil (fun _ _ _ _ _ _ _ h=>h.elim) ha hdb he hpl).imp fun _ _ _=>aMC
theorem aMG{k n:Nat}{x:Str}{F:List T->Option (List T)}(D:aML X.prog X.w X.K X.mg X.base k x n F)(hr:Room k X.A)(ha:QA X (e::es) fr)(hg:Gl X x:=by rfl)(hdb:(x==("__debug__":Str))=false:=by decide)
 (he:starEach (e::es) X.env=(false,eval e X.env)::starEach es X.env:=by rfl)(hpl:(backTo pos (starEach es X.env)).any (·.1)=false:=by rfl):QN X (.Call (.Name x p) (e::es) [] pos) (fCallN n F fr):=by
 obtain⟨f,fd,ps,G,hm,hk,hb⟩:=D.ex
 exact(tD (E:=fun _ _ _=>False) G hr hg hm hk hb .nil (fun _ _ _ _ _ _ _ h=>h.elim) ha hdb he hpl).imp fun _ _ _=>aKx
theorem hu20{k:Nat}{A:Around}(hr:Room k A):A.units+20<cLine:=by have:=hr.un;lia
theorem jN{x:Str}(hN:X.N.Nodup)(i:Nat)(hi:X.N[i]?=some x:=by rfl)(hx:Loc X.env.scope x:=by first|exact aP1 rfl|exact aPS rfl)(hf:X.fn x=true\/X.env.scope.names.lookup x=some .local:=by first|exact .inl rfl|exact .inr rfl):QG X (.Name x pos) (gN i):=
 (aEy hN hi hx hf).imp fun _ _ _ _=>aBa
structure NG(X:Cx)(ts:List Expr)(is:List Nat):Prop where
 h:PGs X ts (is.foldr (fun i g=>aEU (rY i) g) aKL)
theorem qA:NG X [] []:=⟨aIS⟩
theorem jL{x:Str}{ts:List Expr}{is:List Nat}(hN:X.N.Nodup)(i:Nat)(h:NG X ts is)(hi:X.N[i]?=some x:=by rfl)(hx:Loc X.env.scope x:=by first|exact aP1 rfl|exact aPS rfl)(hf:X.fn x=true\/X.env.scope.names.lookup x=some .local:=by first|exact .inl rfl|exact .inr rfl)
 (hs:(assignEach (.Name x pos::ts) X.env).map (·.2)=assign (.Name x pos) X.env::(assignEach ts X.env).map (·.2):=by rfl):NG X (.Name x pos::ts) (i::is):=⟨aHN (aEy hN hi hx hf) h.h hs⟩
theorem aNL{K:aO}{is:List Nat}{v:V}{σ:L2.St}{H:Hp}{Q:L2.St->Hp->Prop}(h:trG K (gU is) v σ H Q):gLst K is.length (is.foldr (fun i g=>aEU (rY i) g) aKL) v σ H Q:=by
 obtain⟨H₀,Z,ρ,τ,C,t,τ',R,r,e,k⟩:=h;unfold gU at e;obtain⟨ts,e1,e⟩:=aK.mp e;split at e
 ·rename_i hl;cases e;obtain⟨a,vs,ea,qa,ra⟩:=R.sq r e1
  exact⟨a,vs,ea,qa,by rw[ra.length];exact hl,Rel.setAll R ra hl k⟩
 ·cases e
theorem p5{ts:List Expr}{is:List Nat}{k:Nat}(hc:X.calm=true)(h:NG X ts is)(hn:(assignEach ts X.env).length=is.length:=by rfl)(hst:(assignEach ts X.env).findIdx? (·.1)=none:=by rfl):QG X (.Tuple ts k pos) (gU is):=
 (aMS hc h.h hn hst).imp fun _ _ _ _=>aNL
theorem cok(own fr:List Str)(is:List Nat){scope:Scope}{cl:List (Str×Addr)}(h1:p6 X.env.cells scope.names []=some cl:=by with_unfolding_all rfl)(h2:∀y∈scope.names,y.2≠ .cell:=by decide+kernel)(h3:scope.kind=.function:=by rfl)
 (h4:∀y∈scope.names,y.2=.local->scope.names.lookup y.1=some .local:=by decide+kernel)(h5:is.map (fun i=>X.N[i]?)=fr.map some:=by rfl)
 (h6:fr.all (fun x=>X.env.kindOf x==some .cell||X.env.kindOf x==some .free)=true:=by rfl)(h7:fr.all (fun x=>(relabel scope X.env).names.lookup x==some .cell||(relabel scope X.env).names.lookup x==some .free)=true:=by rfl):l4 X own fr is scope cl:=
 ⟨h1,h2,h3,h4,h5,h6,h7⟩
theorem iL:QTs X [] gZ:=aJD.imp fun σ H Q h=>by
 obtain⟨H₀,Z,ρ,τ,C,b,C',R,e,k⟩:=h;cases e
 exact k H ρ R .refl
theorem vT(h:QT X c ga):QTs X [c] ga:=aI1 h
section
variable {own frs:List Str}{is:List Nat}{scope:Scope}{cl:List (Str×Addr)}{tg iter elt:Expr}{ifs:List Expr}{fi fe:FE}{g:FG}{gt:FB}{spos pos':Pos}{x:Str}
variable{W:XW}{te:TE}{i:Nat}{σ:L2.St}
theorem kB(hc:X.calm=true)(k:l4 X own frs is scope cl)(hi:QE X iter fi)(ho:Own own.length g)(hg:∀C s3 H3 fp,QG (gR X (own++frs) scope cl C s3 H3 fp) tg g)(ht:∀C s3 H3 fp,QTs (gR X (own++frs) scope cl C s3 H3 fp) ifs gt)
 (he:∀C s3 H3 fp,QE (gR X (own++frs) scope cl C s3 H3 fp) elt fe)(hs:∀x,foldedSetIterable iter X.env x=pure x:=by intro _;rfl):QN X (.ListComp elt [⟨tg,iter,ifs,0⟩] scope pos) (jQ fi own.length is g gt fe):=
 (sG hc k (aAM hi) hg ht he hs).imp fun _ _ _=>aHh ho
theorem aCN(hm:X.mg "range"=none)(hc:X.calm=true)(k:l4 X own frs is scope cl)(hi:QE X iter fi)(ho:Own own.length g)(hg:∀C s3 H3 fp,QG (gR X (own++frs) scope cl C s3 H3 fp) tg g)(ht:∀C s3 H3 fp,QTs (gR X (own++frs) scope cl C s3 H3 fp) ifs gt)
 (he:∀C s3 H3 fp,QE (gR X (own++frs) scope cl C s3 H3 fp) elt fe)(hgl:Gl X "range":=by rfl)(hs:∀x,foldedSetIterable (.Call (.Name "range" p) [iter] [] p2) X.env x=pure x:=by intro _;rfl)(hst:starEach [iter] X.env=[(false,eval iter X.env)]:=by rfl):
 QN X (.ListComp elt [⟨tg,.Call (.Name "range" p) [iter] [] p2,ifs,0⟩] scope pos) (j3 fi own.length is g gt fe):=
 (sG hc k (qO hgl hm (e9 hi fF (by rw[hst];rfl)) hst) hg ht he hs).imp fun _ _ _=>yU ho
theorem asgT{K:aO}{fn:FN}{D:Ends}{H:Hp}(hi:∀σ H Q,trN K fn σ H Q->te σ H Q)(h:trS K W (fY (fV fn) (gN i)) D σ H):aCX te (rY i) D σ H:=
 hi _ _ _ (aIE (iX (aD6 h) fun _ _ q=>aBa q))
theorem asgC{K:aO}{fn:FN}{D:Ends}{H:Hp}(hi:∀σ H Q,trN K fn σ H Q->te σ H Q)(h:trS K W (fY (jB fn) (gN i)) D σ H):aCX te (rY i) D σ H:=
 hi _ _ _ (aGY (iX (aD6 h) fun _ _ q=>aBa q))
theorem aJt(hN:X.N.Nodup)(i:Nat)(hc:X.calm=true)(k:l4 X own frs is scope cl)(hi:QE X iter fi)(ho:Own own.length g)(hg:∀C s3 H3 fp,QG (gR X (own++frs) scope cl C s3 H3 fp) tg g)(ht:∀C s3 H3 fp,QTs (gR X (own++frs) scope cl C s3 H3 fp) ifs gt)
 (he:∀C s3 H3 fp,QE (gR X (own++frs) scope cl C s3 H3 fp) elt fe)(hx:X.N[i]?=some x:=by rfl)(hl:X.env.scope.names.lookup x=some .local:=by rfl)
 (hsw:swapsWith (.ListComp elt [⟨tg,iter,ifs,0⟩] scope pos) (some (.Name x pos')) spos.line X.env=pure true:=by rfl)(hs:∀x,foldedSetIterable iter X.env x=pure x:=by intro _;rfl):
 QS X (.Assign [.Name x pos'] (.ListComp elt [⟨tg,iter,ifs,0⟩] scope pos) spos) (fY (fV (jQ fi own.length is g gt fe)) (gN i)):=
 (rQ hN hx hl hc k (aAM hi) hg ht he hsw hs).imp fun _ _ _=>asgT fun _ _ _=>aHh ho
theorem aFG(hN:X.N.Nodup)(i:Nat)(hm:X.mg "range"=none)(hc:X.calm=true)(k:l4 X own frs is scope cl)(hi:QE X iter fi)(ho:Own own.length g)(hg:∀C s3 H3 fp,QG (gR X (own++frs) scope cl C s3 H3 fp) tg g)(ht:∀C s3 H3 fp,QTs (gR X (own++frs) scope cl C s3 H3 fp) ifs gt)
 (he:∀C s3 H3 fp,QE (gR X (own++frs) scope cl C s3 H3 fp) elt fe)(hgl:Gl X "range":=by rfl)(hx:X.N[i]?=some x:=by rfl)(hl:X.env.scope.names.lookup x=some .local:=by rfl)
 (hsw:swapsWith (.ListComp elt [⟨tg,.Call (.Name "range" p) [iter] [] p2,ifs,0⟩] scope pos) (some (.Name x pos')) spos.line X.env=pure true:=by rfl)(hs:∀x,foldedSetIterable (.Call (.Name "range" p) [iter] [] p2) X.env x=pure x:=by intro _;rfl)(hst:starEach [iter] X.env=[(false,eval iter X.env)]:=by rfl):
 QS X (.Assign [.Name x pos'] (.ListComp elt [⟨tg,.Call (.Name "range" p) [iter] [] p2,ifs,0⟩] scope pos) spos) (fY (fV (j3 fi own.length is g gt fe)) (gN i)):=
 (rQ hN hx hl hc k (qO hgl hm (e9 hi fF (by rw[hst];rfl)) hst) hg ht he hsw hs).imp fun _ _ _=>asgT fun _ _ _=>yU ho
theorem tW(hN:X.N.Nodup)(i:Nat)(hm:X.mg "range"=none)(hc:X.calm=true)(k:l4 X own frs is scope cl)(hi:QE X iter fi)(ho:Own own.length g)(hg:∀C s3 H3 fp,QG (gR X (own++frs) scope cl C s3 H3 fp) tg g)(ht:∀C s3 H3 fp,QTs (gR X (own++frs) scope cl C s3 H3 fp) ifs gt)
 (he:∀C s3 H3 fp,QE (gR X (own++frs) scope cl C s3 H3 fp) elt fe)(hgl:Gl X "range":=by rfl)(hx:X.N[i]?=some x:=by rfl)(hl:X.env.scope.names.lookup x=some .local:=by rfl)
 (hsw:swapsWith (.ListComp elt [⟨tg,.Call (.Name "range" p) [iter] [] p2,ifs,0⟩] scope pos) (some (.Name x pos')) spos.line X.env=pure true:=by rfl)(hs:∀x,foldedSetIterable (.Call (.Name "range" p) [iter] [] p2) X.env x=pure x:=by intro _;rfl)(hst:starEach [iter] X.env=[(false,eval iter X.env)]:=by rfl):
 QS X (.Assign [.Name x pos'] (.ListComp elt [⟨tg,.Call (.Name "range" p) [iter] [] p2,ifs,0⟩] scope pos) spos) (fY (jB (j3 fi own.length is g gt fe)) (gN i)):=
 (rQ hN hx hl hc k (qO hgl hm (e9 hi fF (by rw[hst];rfl)) hst) hg ht he hsw hs).imp fun _ _ _=>asgC fun _ _ _=>yU ho
end
section
variable {st:Stmt}{sts sts':List Stmt}{F G:FS}{tg iter:Expr}{g:FG}
variable{apos cpos:Pos}
theorem hW:QSs X [] iD:=aKg.imp fun _ _ _=>aGl
theorem fI(h:QS X st F):QSs X [st] F:=aKB h
theorem fE(h:QS X st F)(h2:QSs X sts G):QSs X (st::sts) (fO F G):=(aHI h h2).imp fun _ _ _=>aN8
theorem aIZ:QS X (.Pass pos) iD:=aJl.imp fun _ _ _=>aGl
theorem aBL:QS X st aAK:=fun _ _ _ _ _ _ h=>(aJC h).elim
theorem fW(h:QE X a fa):QS X (.Return (some a) pos) (gW fa):=(aLZ h).imp fun _ _ _=>aN7
theorem nG(h:QE X a fa)(hs:swapsWith a none pos.line X.env=pure false:=by rfl):QS X (.Expr a pos) (m6 fa):=(vX h hs).imp fun _ _ _=>aMl
theorem jT(hc:QT X c ga)(ha:QSs X sts F)(hb:QSs X sts' G):QS X (.If c sts sts' pos) (fIf ga F G):=(aNr hc ha hb).imp fun _ _ _=>aOk
theorem fR{x:Str}{pos':Pos}(hN:X.N.Nodup)(i:Nat)(h:QE X a fa)(hi:X.N[i]?=some x:=by rfl)(hx:Loc X.env.scope x:=by first|exact aP1 rfl|exact aPS rfl)(hs:swapsWith a (some (.Name x pos')) pos.line X.env=pure false:=by rfl)
 (hf:X.fn x=true\/X.env.scope.names.lookup x=some .local:=by first|exact .inl rfl|exact .inr rfl):QS X (.Assign [.Name x pos'] a pos) (fY fa (gN i)):=(aMD hN hi hx h hs hf).imp fun _ _ _ h=>iX (aD6 h) fun _ _ q=>aBa q
theorem aDk(h:QE X a fa)(hg:QG X tg g)(hs:swapsWithSole [tg] a pos.line X.env=pure false:=by rfl)(hw:swappedStores [tg] a X.env=pure none:=by rfl)(h1:(assignEach [tg] X.env).map (·.2)=[assign tg X.env]:=by rfl):QS X (.Assign [tg] a pos) (fY fa g):=
 (aGL h hg hs hw h1).imp fun _ _ _=>aD6
theorem r6(hv:QE X a fa)(ho:QE X b fb)(hi:QE X c fc)(hs:swapsWithSole [.Subscript b c p] a pos.line X.env=pure false:=by rfl)(hw:swappedStores [.Subscript b c p] a X.env=pure none:=by rfl)
 (h1:(assignEach [.Subscript b c p] X.env).map (·.2)=[assign (.Subscript b c p) X.env]:=by rfl)
 (ha:∀v,assign (.Subscript b c p) X.env v=(do
  let ov<-holding [v] (eval b X.env)
  let iv<-holding [v,ov] (eval c X.env)
  standAt p
  holding [v,ov,iv] (setItem ov iv v)
  release [v,ov,iv] []):=by intro _;rfl):QS X (.Assign [.Subscript b c p] a pos) (rM fa fb fc):=
 (aGL hv (aMN ho hi aHV ha) hs hw h1).imp fun _ _ _=>aLx
theorem l6(hc:X.calm=true)(hi:QE X iter fa)(hg:QG X tg g)(hb:QSs X sts F)(hp:PassesOwn (model X.prog X.w) X.A X.env X.xe:=by first|exact PassesOwn.never|exact PassesOwn.leaving|exact PassesOwn.looking)(hs:∀x,foldedSetIterable iter X.env x=pure x:=by intro _;rfl):QS X (.For tg iter sts [] pos) (oP fa g F):=
 (aAQ hp hc (aAM hi) hg hb hs).imp fun _ _ _=>aNp
theorem lO(hm:X.mg "range"=none)(hc:X.calm=true)(hi:QE X iter fa)(hg:QG X tg g)(hb:QSs X sts F)(hp:PassesOwn (model X.prog X.w) X.A X.env X.xe:=by first|exact PassesOwn.never|exact PassesOwn.leaving|exact PassesOwn.looking)(hgl:Gl X "range":=by rfl)
 (hs:∀x,foldedSetIterable (.Call (.Name "range" p) [iter] [] p2) X.env x=pure x:=by intro _;rfl)(hst:starEach [iter] X.env=[(false,eval iter X.env)]:=by rfl):QS X (.For tg (.Call (.Name "range" p) [iter] [] p2) sts [] pos) (lF fa g F):=
 (aAQ hp hc (qO hgl hm (e9 hi fF (by rw[hst];rfl)) hst) hg hb hs).imp fun _ _ _=>aJ1
theorem aCt(hm:X.mg "range"=none)(hc:X.calm=true)(h1:QE X a fa)(h2:QE X b fb)(hg:QG X tg g)(hb:QSs X sts F)(hp:PassesOwn (model X.prog X.w) X.A X.env X.xe:=by first|exact PassesOwn.never|exact PassesOwn.leaving|exact PassesOwn.looking)(hgl:Gl X "range":=by rfl)
 (hs:∀x,foldedSetIterable (.Call (.Name "range" p) [a,b] [] p2) X.env x=pure x:=by intro _;rfl)(hst:starEach [a,b] X.env=[(false,eval a X.env),(false,eval b X.env)]:=by rfl)(hst2:starEach [b] X.env=[(false,eval b X.env)]:=by rfl):QS X (.For tg (.Call (.Name "range" p) [a,b] [] p2) sts [] pos) (pN fa fb g F):=
 (aAQ hp hc (aF5 hgl hm (e9 h1 (e9 h2 fF (by rw[hst2];rfl)) (by rw[hst,hst2])) hst hst2) hg hb hs).imp fun _ _ _=>aJs
theorem oK(n:Nat)(hc:QT X c ga)(hb:QSs X sts F)(hp:PassesOwn (model X.prog X.w) X.A X.env X.xe:=by first|exact PassesOwn.never|exact PassesOwn.leaving|exact PassesOwn.looking):QS X (.While c sts [] pos) (lU ga F n):=(aGZ hp hc hb).imp fun _ _ _=>aJu
theorem oQ(ho:QE X a fa)(ha:QA X (e::es) fr)(hs:swapsWith (.Call (.Attribute a "append" apos) (e::es) [] cpos) none pos.line X.env=pure false:=by rfl)(hbase:attributeBase a "append" X.env (eval a X.env)=eval a X.env:=by rfl)
 (hfew:((backTo cpos (starEach (e::es) X.env)).all (fun x=> !x.1)&&(backToKw cpos (keywordEach [] X.env)).all (fun x=>x.1.isSome)
  &&decide ((e::es).length+([]:List Keyword).length+(if([]:List Keyword).isEmpty then 0 else 1)<30))=true:=by rfl)
 (hline:(apos.endLine==cpos.line)=true:=by rfl)(hst:starEach (e::es) X.env=(false,eval e X.env)::starEach es X.env:=by rfl)(hplain:(backTo cpos (starEach es X.env)).any (·.1)=false:=by rfl):
 QS X (.Expr (.Call (.Attribute a "append" apos) (e::es) [] cpos) pos) (vH fa fr):=
 (vX (aLm PySem.F.plainAttrs_list PySem.F.slot_list_append PySem.F.type_list_append aMw ho ha hbase hfew hline hst hplain) hs).imp fun _ _ _=>aKY aMt
theorem aC4(ho:QE X a fa)(ha:QA X (e::es) fr)(hs:swapsWith (.Call (.Attribute a "insert" apos) (e::es) [] cpos) none pos.line X.env=pure false:=by rfl)(hbase:attributeBase a "insert" X.env (eval a X.env)=eval a X.env:=by rfl)
 (hfew:((backTo cpos (starEach (e::es) X.env)).all (fun x=> !x.1)&&(backToKw cpos (keywordEach [] X.env)).all (fun x=>x.1.isSome)
  &&decide ((e::es).length+([]:List Keyword).length+(if([]:List Keyword).isEmpty then 0 else 1)<30))=true:=by rfl)
 (hline:(apos.endLine==cpos.line)=true:=by rfl)(hst:starEach (e::es) X.env=(false,eval e X.env)::starEach es X.env:=by rfl)(hplain:(backTo cpos (starEach es X.env)).any (·.1)=false:=by rfl):
 QS X (.Expr (.Call (.Attribute a "insert" apos) (e::es) [] cpos) pos) (aIJ fa fr):=
 (vX (aLm PySem.F.plainAttrs_list PySem.F.slot_list_insert PySem.F.type_list_insert aLF ho ha hbase hfew hline hst hplain) hs).imp fun _ _ _=>aKY aLv
end
end
section
variable {X:Cx}{pins:List (Addr×Obj)}{σ:L2.St}{H:Hp}{s:Shared}
variable{ch:List Addr}{h':Heap}{t':Nat}
theorem aBH{p:Addr}{o:HO}(I:Inv X pins σ H s)(hch:∀b∈ch,uL X pins H b)(k:∀b ob,b∉ch->s.heap.get? b=some ob->h'.get? b=some ob)(hp:s.heap.objs.size<=p)
 (new:jU X.prog X.w (upd H p o) h' p o):Inv X pins σ (upd H p o) {s with heap:=h',toks:=t'}:=by
 have hn:H p=none:=I.hok.fresh hp;have ne:∀b u,H b=some u->b≠p:=fun b u e z=>by rw[z,hn]at e;cases e
 have nch:∀b u,H b=some u->b∉ch:=fun b u e z=>by rw[(hch b z).1]at e;cases e
 refine I.step (g':=s.gens) (d':=s.drawn) (ch:=ch) (fun b hb=>⟨(hch b hb).2.2.2.1,(hch b hb).2.1,(hch b hb).2.2.2.2.1,(hch b hb).2.2.2.2.2⟩) (fun b o _ _ hc e _=>k b o hc e) (fun b o _ _ hc e _=>⟨o.slots,k b o hc e⟩)
  (fun b ob _ e n=>by rw[fQ (bT (bP (Heap.lt_size e) hp))];exact n) (fun b ob hc e=>⟨ob,k b ob hc e⟩)
  (fun b xs e=>by rw[fQ (ne _ _ e)];exact e) (fun b ob u e=>by rw[fQ (ne _ _ e)];exact e) (fun b ps e=>⟨#[],by rw[fQ (ne _ _ e),e];simp⟩) (fun m hm=>?_) (fun b u e=>?_) I.bare
 ·obtain⟨ob,es,ep,ho,r⟩:=hm
  exact⟨ob,es,ep,k _ ob (fun z=>(hch _ z).2.1 rfl) ho,r⟩
 ·by_cases hb:b=p
  ·subst hb;rw[jC]at e;cases e
   exact new
  ·rw[fQ hb]at e
   refine(I.hok b u e).stay (fun c v hc q=>k c v ?_ q) (fun c q=>by rw[fQ (ne _ _ q)];exact q) fun c xs q=>by rw[fQ (ne _ _ q)];exact q
   rcases hc with z|z
   ·rw[z];exact nch b u e
   ·exact nch c _ z
theorem aAv(I:Inv X pins σ H s)(hch:∀b∈ch,uL X pins H b)(k:∀b ob,b∉ch->s.heap.get? b=some ob->h'.get? b=some ob):Inv X pins σ H {s with heap:=h',toks:=t'}:=by
 have nch:∀b u,H b=some u->b∉ch:=fun b u e z=>by rw[(hch b z).1]at e;cases e
 refine I.step (g':=s.gens) (d':=s.drawn) (ch:=ch) (fun b hb=>⟨(hch b hb).2.2.2.1,(hch b hb).2.1,(hch b hb).2.2.2.2.1,(hch b hb).2.2.2.2.2⟩) (fun b o _ _ hc e _=>k b o hc e) (fun b o _ _ hc e _=>⟨o.slots,k b o hc e⟩)
  (fun b ob _ e n=>n) (fun b ob hc e=>⟨ob,k b ob hc e⟩) (fun b xs e=>e) (fun b ob u e=>e) (fun b ps e=>⟨#[],by rw[e];simp⟩) (fun m hm=>?_) (fun b u e=>?_) I.bare
 ·obtain⟨ob,es,ep,ho,r⟩:=hm
  exact⟨ob,es,ep,k _ ob (fun z=>(hch _ z).2.1 rfl) ho,r⟩
 ·refine(I.hok b u e).stay (fun c v hc q=>k c v ?_ q) (fun c q=>q) fun c xs q=>q
  rcases hc with z|z
  ·rw[z];exact nch b u e
  ·exact nch c _ z
end
theorem aHl{P:Program}{w:World}{K:aO}{ts:List Expr}{k:Nat}{pos:Pos}(z TI TO i1 i2 l1 l2:Addr)(D:ZipApart z TI TO i1 i2 l1 l2):
 Turn P w K (.Tuple ts k pos) (Itz K l1 l2) [z,TI,TO,i1,i2] z (fun i h=>IsZip h z TI TO .none/\IsPair h TI (.ref i1) (.ref i2)/\(∃a b,IsPair h TO a b)/\h.IsListIter i1 l1 i/\h.IsListIter i2 l2 i) where
 mem:=by simp
 obj:=fun i h st b hb=>by
  obtain⟨hz,hTI,⟨a,b',hTO⟩,⟨o1,e1,c1,d1⟩,⟨o2,e2,c2,d2⟩⟩:=st;simp only[bE,cA,or_false]at hb;rcases hb with rfl|rfl|rfl|rfl|rfl
  ·exact⟨_,hz,fun v z=>by simp at z⟩
  ·exact⟨_,hTI,fun v z=>by simp at z⟩
  ·exact⟨_,hTO,fun v z=>by simp at z⟩
  ·exact⟨o1,e1,fun v z=>by rw[d1]at z;cases z⟩
  ·exact⟨o2,e2,fun v z=>by rw[d2]at z;cases z⟩
 keep:=fun i h h' st kk=>by
  obtain⟨hz,hTI,⟨a,b',hTO⟩,h1,h2⟩:=st
  exact⟨kk z (by simp) _ hz,kk TI (by simp) _ hTI,⟨a,b',kk TO (by simp) _ hTO⟩,h1.at fun o e=>kk i1 (by simp) o e,h2.at fun o e=>kk i2 (by simp) o e⟩
 item:=by
  intro X hP hw hK hc i pins s σ H E I hf st hg;subst hP hw hK;obtain⟨hz,hTI,⟨a,b',hTO⟩,h1,h2⟩:=st;obtain⟨xs,ys,x,y,q1,q2,g1,g2⟩:=hg;obtain⟨its,rv,p1,z1⟩:=I.list q1;obtain⟨its2,rv2,p2,z2⟩:=I.list q2;obtain⟨u,hu,ru⟩:=rv.get g1;obtain⟨u2,hu2,ru2⟩:=rv2.get g2
  refine wpAny_pyNext_zip_item D hz hTI hTO h1 h2 p1.isList p2.isList (x:=u) (y:=u2) (by simpa using hu) (by simpa using hu2) fun h' a1 a2 a3 a4 a5 a6 hk=>?_
  refine⟨_,rfl,wpAny_letOwnedTupleGo_zip (s:={s with heap:=h'}) a1 fun h'' hz'' hs''=>?_⟩
  have zlt:z≠s.heap.objs.size:=bT (Heap.lt_size hz);have kk:∀b ob,b∉[z,TI,TO,i1,i2]->s.heap.get? b=some ob->h''.get? b=some ob:=fun b ob hb e=>by
   simp only[bE,cA,or_false,not_or]at hb
   exact(hs''.2 b hb.1).trans (hk b ob hb.1 hb.2.2.1 hb.2.2.2.1 hb.2.2.2.2 e)
  have hT:h''.get? s.heap.objs.size=some {cls:=.type "tuple",data:=.seq #[u,u2]}:=(hs''.2 _ (Ne.symm zlt)).trans a5;have I1:Inv X pins σ (upd H s.heap.objs.size (.tup [x,y])) {s with heap:=h'',toks:=s.toks}:=aBH I hf kk (bI _)
   (show jU X.prog X.w _ h'' _ (.tup [x,y])from⟨by show 2<=sizeLine;decide,[u,u2],.cons ru (.cons ru2 .nil),⟨_,hT,rfl,_,rfl⟩⟩)
  have hn:H s.heap.objs.size=none:=I.fresh
  refine⟨.ref s.heap.objs.size,_,I1,rfl,⟨_,x,y,hn,rfl,rfl,fun zs hz=>by rw[I.list_inj hz q1];exact g1,fun zs hz=>by rw[I.list_inj hz q2];exact g2⟩,?_,fun b hb=>?_⟩
  ·refine⟨hz'',(hs''.2 _ D.TIz).trans (hk _ _ D.TIz D.TITO D.TIi1 D.TIi2 hTI),⟨u,u2,(hs''.2 _ D.TOz).trans a2⟩,a3.at fun o e=>(hs''.2 _ D.i1z).trans e,a4.at fun o e=>(hs''.2 _ D.i2z).trans e⟩
  ·have hb':=(hf b hb).1;rw[fQ]
   ·exact hb'
   ·rintro rfl;have:∃o,s.heap.get? s.heap.objs.size=some o:=by
     simp only[bE,cA,or_false]at hb;obtain⟨o1,e1,_⟩:=h1;obtain⟨o2,e2,_⟩:=h2;rcases hb with h|h|h|h|h
     ·rw[h];exact⟨_,hz⟩
     ·rw[h];exact⟨_,hTI⟩
     ·rw[h];exact⟨_,hTO⟩
     ·rw[h];exact⟨_,e1⟩
     ·rw[h];exact⟨_,e2⟩
    obtain⟨o,e⟩:=this
    exact absurd (Heap.lt_size e) (cQ _)
 done:=by
  intro X hP hw hK hc i pins s σ H E I hf st hg;subst hP hw hK;obtain⟨hz,hTI,⟨a,b',hTO⟩,h1,h2⟩:=st;obtain⟨xs,ys,q1,q2,hend⟩:=hg;obtain⟨its,rv,p1,z1⟩:=I.list q1;obtain⟨its2,rv2,p2,z2⟩:=I.list q2;have l1:=rv.length;have l2:=rv2.length
  refine wpAny_pyNext_zip_end (I.ok.hd hc) D hz hTI hTO h1 h2 p1.isList p2.isList ?_ fun h' hk=>⟨rfl,aAv (t':=s.toks) I hf fun b ob hb e=>?_⟩
  ·rcases hend with h|h
   ·exact .inl (by simp at h|-;lia)
   ·exact .inr (by simp at h|-;lia)
  ·simp only[bE,cA,or_false,not_or]at hb
   exact hk b ob hb.1 hb.2.2.1 hb.2.2.2.1 hb.2.2.2.2 e
 self:=fun _ _ _ _ _ st h=>wpAny_pyIter_zip st.1 h
section
variable {X:Cx}{a b e:Expr}{es:List Expr}{fa fb:FE}{fr:FN}{pos p p2:Pos}
theorem aM7{ts:List Expr}{k:Nat}{tpos:Pos}{ta:TA}(hg:Gl X "zip")(hm:X.mg "zip"=none)(ha:PA X [a,b] ta)(hs:starEach [a,b] X.env=[(false,eval a X.env),(false,eval b X.env)]:=by rfl)(hs2:starEach [b] X.env=[(false,eval b X.env)]:=by rfl):
 PI X (.Tuple ts k tpos) (.Call (.Name "zip" p) [a,b] [] pos) (iZip X.K ta):=by
 intro pins s σ H R I h
 refine Call_ (qH I hg hm boot_zip (c9 (thn (ha pos pins s σ H _ I h) fun us s1 ⟨vs,H1,I1,r1,q1⟩=>?_) (by rw[hs,hs2]) (by rw[hs2];rfl)))
 obtain⟨l1,l2,e,⟨xs,qx⟩,⟨ys,qy⟩,q⟩:=q1;subst e;obtain⟨u,u2,rfl,ru,ru2⟩:=r1.two;cases ru;cases ru2;obtain⟨its,rv,p1,z1⟩:=I1.list qx;obtain⟨its2,rv2,p2,z2⟩:=I1.list qy;have a1:l1<s1.heap.objs.size:=p1.lt;have a2:l2<s1.heap.objs.size:=p2.lt
 refine call_zip_2 p1.isList p2.isList fun h' hz hTI hTO hi1 hi2 hsz hk=>wpAny_pyIter_zip hz ?_
 have I2:Inv X pins σ H1 {s1 with heap:=h'}:=I1.kept (t':=s1.toks) hk
 refine⟨s1.heap.objs.size+4,[s1.heap.objs.size+4,s1.heap.objs.size+2,s1.heap.objs.size+3,s1.heap.objs.size,s1.heap.objs.size+1],_,_,H1,rfl,I2,aHl _ _ _ _ _ l1 l2 (zipApart_new a1 a2),⟨hz,hTI,⟨_,_,hTO⟩,hi1,hi2⟩,fun b hb=>?_,q⟩
 have hle:s1.heap.objs.size<=b:=by
  simp only[bE,cA,or_false]at hb;rcases hb with rfl|rfl|rfl|rfl|rfl
  ·exact d7 _ _
  ·exact d7 _ _
  ·exact d7 _ _
  ·exact bI _
  ·exact d7 _ _
 exact I1.fpOk hle (I1.hok.fresh hle)
section
variable {own frs:List Str}{is:List Nat}{scope:Scope}{cl:List (Str×Addr)}{ts:List Expr}{tk:Nat}{tpos:Pos}{elt:Expr}{ifs:List Expr}{fe:FE}{g:FG}{gt:FB}
theorem aJd(hm:X.mg "zip"=none)(hc:X.calm=true)(k:l4 X own frs is scope cl)(h1:QE X a fa)(h2:QE X b fb)(ho:Own own.length g)(hg:∀C s3 H3 fp,QG (gR X (own++frs) scope cl C s3 H3 fp) (.Tuple ts tk tpos) g)(ht:∀C s3 H3 fp,QTs (gR X (own++frs) scope cl C s3 H3 fp) ifs gt)
 (he:∀C s3 H3 fp,QE (gR X (own++frs) scope cl C s3 H3 fp) elt fe)(hgl:Gl X "zip":=by rfl)(hs:∀x,foldedSetIterable (.Call (.Name "zip" p) [a,b] [] p2) X.env x=pure x:=by intro _;rfl)
 (hst:starEach [a,b] X.env=[(false,eval a X.env),(false,eval b X.env)]:=by rfl)(hst2:starEach [b] X.env=[(false,eval b X.env)]:=by rfl):
 QN X (.ListComp elt [⟨.Tuple ts tk tpos,.Call (.Name "zip" p) [a,b] [] p2,ifs,0⟩] scope pos) (tV fa fb own.length is g gt fe):=
 (sG hc k (aM7 hgl hm (e9 h1 (e9 h2 fF (by rw[hst2];rfl)) (by rw[hst,hst2])) hst hst2) hg ht he hs).imp fun _ _ _=>aJf ho
end
variable{c:String}
def IsiV(K:aO)(H:Hp)(x:V)(c:String)(b:Bool):Prop:=match x with
 | .non=>cU K (.type "NoneType") (.type c)=some b
 | .bl _=>cU K (.type "bool") (.type c)=some b
 | .int _=>cU K (.type "int") (.type c)=some b
 | .str _=>cU K (.type "str") (.type c)=some b
 | .ref a=>((∃xs,SqL K H a xs)/\cU K (.type "list") (.type c)=some b)\/((∃xs,SqT K H a xs)/\cU K (.type "tuple") (.type c)=some b)
 |_=>False
theorem aHO:nC X (.builtin "isinstance") (fun xs H Q=>∃x c b,xs=[x,.ty c]/\IsiV X.K H x c b/\Q (.bl b) H):=by
 intro pins s σ H xs us Q I r h;obtain⟨x,c,b,rfl,hi,q⟩:=h;obtain⟨u,u2,rfl,ru,ru2⟩:=r.two;cases ru2;have fin:∀tk,EP X pins σ Q (.bool b) {s with toks:=tk}:=fun tk=>⟨.bl b,H,I.tok tk,rfl,q⟩
 cases x with
 |non=>cases ru;exact eK PySem.W.kitx_none I.kIn True.intro hi (fun z=>nomatch z) fin
 |bl y=>cases ru;exact eK PySem.W.kitx_bool I.kIn True.intro hi (fun z=>nomatch z) fin
 |int i=>obtain⟨t,q⟩:=ru;cases q;exact eK PySem.W.kitx_int I.kIn True.intro hi (fun z=>nomatch z) fin
 |str y=>obtain⟨t,q⟩:=ru;cases q;exact eK PySem.W.kitx_str I.kIn True.intro hi (fun z=>nomatch z) fin
 |ref a=>
  cases ru;rcases hi with⟨⟨xs,hq⟩,hi⟩| ⟨⟨xs,hq⟩,hi⟩
  ·obtain⟨its,_,⟨o,n,e,c,_⟩,_⟩:=I.list hq
   exact eK PySem.W.kitx_list I.kIn ⟨o,e,c⟩ hi (fun z=>nomatch z) fin
  ·obtain⟨its,_,⟨o,e,c,_⟩,_⟩:=I.tuple hq
   exact eK PySem.W.kitx_tuple I.kIn ⟨o,e,c⟩ hi (fun z=>nomatch z) fin
 |_=>exact False.elim hi
def aCk(c:String):Prop:=∀(K:aO),cU K (.type "NoneType") (.type c)=some (c=="NoneType")/\cU K (.type "bool") (.type c)=some (c=="bool"||c=="int")/\cU K (.type "int") (.type c)=some (c=="int")/\
 cU K (.type "str") (.type c)=some (c=="str")/\cU K (.type "list") (.type c)=some (c=="list")/\cU K (.type "tuple") (.type c)=some (c=="tuple")
theorem aKn:aCk "int":=fun K=>⟨rfl,rfl,rfl,rfl,rfl,rfl⟩
theorem aGI:aCk "bool":=fun K=>⟨rfl,rfl,rfl,rfl,rfl,rfl⟩
theorem aGX:aCk "list":=fun K=>⟨rfl,rfl,rfl,rfl,rfl,rfl⟩
theorem aNE{K:aO}{σ:L2.St}{H:Hp}{Q:VK}(hc:aCk c)(h:trE K (uD c fa) σ H Q):trE K fa σ H fun x H1=>∃b,IsiV K H1 x c b/\Q (.bl b) H1:=by
 obtain⟨h1,h2,h3,h4,h5,h6⟩:=hc K
 refine iX (aMd h) fun x H1 q=>?_
 obtain⟨t0,H₀,Z,ρ,τ,C,t,C',R,r,e,k⟩:=q;obtain⟨_,_,z,r1,r⟩:=r.cons_inv;cases z;obtain⟨b,e1,e⟩:=aL.mp e;cases e
 refine⟨b,?_,k _ H1 ρ R .bl .refl⟩
 cases t0 with
 |non=>rw[r1.non_inv];exact h1.trans e1
 |bl y=>rw[r1.bl_inv];exact h2.trans e1
 |int i=>rw[r1.int_inv];exact h3.trans e1
 |str y=>
  unfold RT at r1;rw[r1];exact h4.trans e1
 |exc y=>cases e1
 |lst ts=>
  obtain⟨a,vs,ea,qa,ra⟩:=R.li r1 rfl;rw[ea];exact .inl ⟨⟨vs,qa⟩,h5.trans e1⟩
 |tup ts=>
  unfold RT at r1;obtain⟨a,vs,ea,qa,ra⟩:=r1;rw[ea];exact .inr ⟨⟨vs,SqT.msk (.of qa)⟩,h6.trans e1⟩
 |cell c=>cases e1
theorem aIe{x:Str}(hc:aCk c)(hm:X.mg "isinstance"=none)(hmc:X.mg x=none)(hv:bootBuiltins x=some (.type c))(ha:QE X a fa)(hg:Gl X "isinstance":=by rfl)(hgx:Gl X x:=by rfl)(hn:x≠"__name__":=by decide)(hd:(x==("__debug__":Str))=false:=by decide)
 (h1:starEach [a,.Name x p2] X.env=(false,eval a X.env)::starEach [.Name x p2] X.env:=by rfl)(h2:(backTo pos (starEach [.Name x p2] X.env)).any (·.1)=false:=by rfl):
 QE X (.Call (.Name "isinstance" p) [a,.Name x p2] [] pos) (uD c fa):=
 (aB2 aHO hg hm boot_isinstance (vV ha (vV (aI0 (v:=.ty c) hgx hmc hv rfl hn hd) aC2 rfl) h1) (by decide) (by decide) h1 h2).imp fun σ H Q h=>iX (aNE hc h) fun x H1 q=>by
  obtain⟨b,h1,h2⟩:=q
  exact⟨x,c,b,rfl,h1,h2⟩
theorem aE9(hm:X.mg "isinstance"=none)(hmc:X.mg "int"=none)(ha:QE X a fa)(hg:Gl X "isinstance":=by rfl)(hgx:Gl X "int":=by rfl)(h1:starEach [a,.Name "int" p2] X.env=(false,eval a X.env)::starEach [.Name "int" p2] X.env:=by rfl)(h2:(backTo pos (starEach [.Name "int" p2] X.env)).any (·.1)=false:=by rfl):
 QE X (.Call (.Name "isinstance" p) [a,.Name "int" p2] [] pos) (uD "int" fa):=aIe aKn hm hmc boot_int ha hg hgx (by decide) (by decide) h1 h2
theorem aDX(hm:X.mg "isinstance"=none)(hmc:X.mg "bool"=none)(ha:QE X a fa)(hg:Gl X "isinstance":=by rfl)(hgx:Gl X "bool":=by rfl)(h1:starEach [a,.Name "bool" p2] X.env=(false,eval a X.env)::starEach [.Name "bool" p2] X.env:=by rfl)(h2:(backTo pos (starEach [.Name "bool" p2] X.env)).any (·.1)=false:=by rfl):
 QE X (.Call (.Name "isinstance" p) [a,.Name "bool" p2] [] pos) (uD "bool" fa):=aIe aGI hm hmc boot_bool ha hg hgx (by decide) (by decide) h1 h2
theorem o0(hm:X.mg "isinstance"=none)(hmc:X.mg "list"=none)(ha:QE X a fa)(hg:Gl X "isinstance":=by rfl)(hgx:Gl X "list":=by rfl)(h1:starEach [a,.Name "list" p2] X.env=(false,eval a X.env)::starEach [.Name "list" p2] X.env:=by rfl)(h2:(backTo pos (starEach [.Name "list" p2] X.env)).any (·.1)=false:=by rfl):
 QE X (.Call (.Name "isinstance" p) [a,.Name "list" p2] [] pos) (uD "list" fa):=aIe aGX hm hmc boot_list ha hg hgx (by decide) (by decide) h1 h2
end
end TL
namespace TL
open PySem PySem.W PySem.Calls PyProof.Rows L2
theorem bitsW{n:Int}(h:(WData.int n).layable=true):Builtin.Int.intBits n<=2^20:=by
 obtain⟨_,_,h3⟩:=layableW_iff.mp h;unfold WData.weight at h3;unfold Builtin.Int.intBits
 exact h3
theorem aBI{ns:List Int}(h:WData.layableAll [WData.list (ns.map WData.int)]=true):∀n∈ns,Builtin.Int.intBits n<=2^20:=fun n hn=>
 bitsW (layableW_item (layableW_arg h _ bF) _ (bL.mpr ⟨n,hn,rfl⟩))
theorem aFb{l:aPN}{k:Nat}{q:Program}{loose:List Str}{XP:(Str->Option Value)->Heap->Prop}{YP:World->Heap->Prop}{d:DefRec}{K:Params->aO}{x:Str}{R:List T->Option T}
 (hn:l.most=some 63)(hdf:d.params.defaults=[])(hr:Room k callerA)
 (hY:∀(w:World)(h:Heap),YP w h->(K w.params).In h)
 (hR:∀ns:List Int,ns.length<=63->(∀n∈ns,Builtin.Int.intBits n<=2^20)->R [.lst (ns.map T.int)]=some (.bl true))
 (F:∀(w:World)(mg:Str->Option Value)(fa:Addr)(h:Heap),(K w.params).In h->h.Ns mainGlobals mg->mg d.name=some (.ref fa)->
  ∃fd:FuncData,(∀(s:Shared)(u:Value),BindsTo s fd ⟨[u],[]⟩ [(x,u)])/\
   ∀base:Heap,(K w.params).In base->base.Ns mainGlobals mg->mV l.prog w (K w.params) mg base CX0 k fa fd [x] (spT (K w.params) 1 R)):
 PySem.W.WalkO q loose XP YP l.row.toRowW d [] (fun f vs=>PySem.call f vs):=by
 intro w s₀ s₁ mg mb G Y fa o pm cd doc dV kV ho hd hcd hD hmg hg args vals as hpre hlay hrd hwl hlo;obtain rfl:dV=.none:=Dflts.none hD hdf;obtain rfl:kV=.none:=Dflts.noKw hD;obtain⟨a,vs,ns,rfl,rfl,hobj,hints,hlen⟩:=Att.aFW hn hpre hwl;have KX:=hY w _ Y;obtain⟨fd,hb,hF⟩:=F w mg fa _ KX G.T.g hmg;have hsp:∀H:Hp,Only H->SqL (K w.params) H a (ns.map V.int)->spT (K w.params) 1 R [.ref a] H (fun v _=>v=.bl true) fun _ _ _=>False:=fun H _ hS=>by
  refine⟨fun _=>False,[.lst (ns.map T.int)],.bl true,rfl,fun _ z=>z.elim,.cons ?_ .nil,hR ns hlen (aBI hlay),fun v H' _ r=>r.bl_inv⟩
  unfold RT;have sm:Same H (mask H (fun _=>False) []):=fun b o e=>mF (fun z=>z) (by simp) e
  refine⟨a,_,rfl,sm.seq hS,?_⟩
  clear hS hobj hints hlen hlay hpre hrd hwl;induction ns with
  |nil=>exact .nil
  |cons n ns ih=>exact .cons .int ih
 refine enter_call (codeAny_mono (aG9 KX G.T.g G.T.b G.T.builtins G.T.nolimit hg hobj hints (cC hlen (by decide)) hr hF hb hsp (fun H e s' z=>z)) fun r s' hq=>?_)
 obtain⟨rfl,h2,h3,h4⟩:=hq
 exact⟨.inl ⟨.bool true,.bool true,[],rfl,fun _=>rfl,.bool true,Att.aFf l _,fun _=>⟨List.Pairwise.nil,fun _ hm=>(nomatch hm)⟩⟩,h2,h3,h4⟩
end TL
namespace TL
open PySem PySem.Spec PyProof.Rows L2
theorem aFc(a d:Value):argsOk "max" ⟨[a],[("default",d)]⟩:=by unfold argsOk;kernel_rfl
noncomputable abbrev aC1(us:Array Value)(c:Nat):Obj:={cls:=.type "list",dict:=none,data:=.seq us c,slots:=#[]}
section
variable {P:Program}{w:World}{A:Around}{R:Result->Shared->Prop}{it bs:Addr}{fp wr:List Addr}{n:Nat}{Pr:Nat->Value->Prop}{St:Nat->Heap->Prop}{kws:List (Str×Value)}{bt:Nat->Nat->Bool}
variable{s:Shared}{c:Nat}
theorem aBw:(toString "max"++toString ".loop":String)="max.loop":=by decide
theorem aFF(W:Walks P w A.in1 it fp wr n Pr St)(hcmp:CmpOf P w A.in1 .Gt Pr bt)(hbf:bs∉fp):∀(k j:Nat)(s:Shared)(vb:Value)(c:Nat),n - (j+1)=k->j+1<=n->St (j+1) s.heap->Pr (argBest bt j) vb->s.heap.get? bs=some (aC1 #[vb,vb] c)->
 (∀v g tk,Pr (argBest bt (n - 1)) v->(∀b o,b∉wr->b≠bs->s.heap.get? b=some o->g.get? b=some o)->R (.ok (.ret v)) {s with heap:=g,toks:=tk})->codeAny (model P w) A (.builtin "max.loop" ⟨[.ref it,.none,.ref bs],kws⟩) R s:=by
 have nw:bs∉wr:=fun q=>hbf (W.sub _ q)
 intro k;induction k with
 |zero=>
  intro j s vb c ek ej st pb eb fin;have en:j+1=n:=by lia
  refine codeAny_builtin PySem.F.entry_max_loop (by
   rw[Around.under_plainId PySem.F.plain_max_loop _];show wpAny _ A.in1 (seqItems? (.ref bs)>>=_) _ _ s
   refine wpAny_bind (wpAny_seqItems eb rfl ?_)
   show wpAny _ A.in1 (tryCatch (pyNext (.ref it)) _>>=_) _ _ s
   refine wpAny_bind (wpAny_tryCatch (W.done s _ _ (en ▸ st) fun g tk kp=>?_))
   have eb':=kp bs _ nw eb;show wpAny _ A.in1 (updateSeq bs (fun _=>#[])>>=_) _ _ _
   exact wpAny_bind (wpAny_updateSeq eb' rfl (wpAny_bind (wpAny_letGo (wpAny_pure (fin vb _ tk (by rw[<-en];exact pb) fun b o z1 z2 e=>(Heap.get?_update_other _ _ (Ne.symm z2)).trans (kp b o z1 e)))))))
 |succ k ih=>
  intro j s vb c ek ej st pb eb fin;have lt:j+1<n:=by lia
  refine codeAny_builtin PySem.F.entry_max_loop (by
   rw[Around.under_plainId PySem.F.plain_max_loop _];show wpAny _ A.in1 (seqItems? (.ref bs)>>=_) _ _ s
   refine wpAny_bind (wpAny_seqItems eb rfl ?_)
   show wpAny _ A.in1 (tryCatch (pyNext (.ref it)) _>>=_) _ _ s
   refine wpAny_bind (wpAny_tryCatch (W.item (j+1) s _ _ lt st fun v g tk pv st' kp=>?_))
   have eb':=kp bs _ nw eb;show wpAny _ A.in1 (tryCatch (holding [v,v] (richCompare .Gt v vb>>=_)) _>>=_) _ _ _
   refine wpAny_bind (wpAny_tryCatch (wpAny_holding (wpAny_bind (hcmp (j+1) (argBest bt j) v vb _ _ _ pv pb (wpAny_bind (wpAny_holding (wpAny_truthy_bool (wpAny_bind (wpAny_letGo (wpAny_pure ?_))))))))))
   cases hb:bt (j+1) (argBest bt j)with
   |true=>
    simp only[if_true]
    refine wpAny_bind (wpAny_updateSeq eb' rfl (wpAny_bind (wpAny_letGo ?_)))
    rw[aBw]
    refine wpAny_pure ⟨plainId_quiet PySem.F.plain_max_loop _,ih (j+1) _ v _ (by lia) lt (W.frame _ _ _ st' fun b z o e=>?_) (by simp only[argBest,hb,if_true];exact pv) (Heap.get?_update_self _ eb' rfl) fun v' g' tk' pv' kp'=>?_⟩
    ·exact(Heap.get?_update_other _ _ (fun q:bs=b=>hbf (by rw[q];exact z))).trans e
    ·exact fin v' g' tk' pv' fun b o z1 z2 e=>kp' b o z1 z2 ((Heap.get?_update_other _ _ (Ne.symm z2)).trans (kp b o z1 e))
   |false=>
    simp only[b9,if_false]
    refine wpAny_bind (wpAny_letGo ?_)
    rw[aBw]
    refine wpAny_pure ⟨plainId_quiet PySem.F.plain_max_loop _,ih (j+1) _ vb c (by lia) lt st' (by simp only[argBest,hb,b9,if_false];exact pb) eb' fun v' g' tk' pv' kp'=>?_⟩
    exact fin v' g' tk' pv' fun b o z1 z2 e=>kp' b o z1 z2 (kp b o z1 e))
theorem aC8(W:Walks P w A.in1 it fp wr n Pr St)(hcmp:CmpOf P w A.in1 .Gt Pr bt)(hbf:bs∉fp)(hn:0<n)(st:St 0 s.heap)(eb:s.heap.get? bs=some (aC1 #[] c))
 (fin:∀v g tk,Pr (argBest bt (n - 1)) v->(∀b o,b∉wr->b≠bs->s.heap.get? b=some o->g.get? b=some o)->R (.ok (.ret v)) {s with heap:=g,toks:=tk}):codeAny (model P w) A (.builtin "max.loop" ⟨[.ref it,.none,.ref bs],kws⟩) R s:=by
 have nw:bs∉wr:=fun q=>hbf (W.sub _ q)
 refine codeAny_builtin PySem.F.entry_max_loop (by
  rw[Around.under_plainId PySem.F.plain_max_loop _];show wpAny _ A.in1 (seqItems? (.ref bs)>>=_) _ _ s
  refine wpAny_bind (wpAny_seqItems eb rfl ?_)
  show wpAny _ A.in1 (tryCatch (pyNext (.ref it)) _>>=_) _ _ s
  refine wpAny_bind (wpAny_tryCatch (W.item 0 s _ _ hn st fun v g tk pv st' kp=>?_))
  have eb':=kp bs _ nw eb;show wpAny _ A.in1 (updateSeq bs (fun _=>#[v,v])>>=_) _ _ _
  refine wpAny_bind (wpAny_updateSeq eb' rfl ?_)
  rw[aBw]
  refine wpAny_pure ⟨plainId_quiet PySem.F.plain_max_loop _,aFF W hcmp hbf _ 0 _ v _ rfl hn (W.frame _ _ _ st' fun b z o e=>?_) pv (Heap.get?_update_self _ eb' rfl) fun v' g' tk' pv' kp'=>?_⟩
  ·exact(Heap.get?_update_other _ _ (fun q:bs=b=>hbf (by rw[q];exact z))).trans e
  ·exact fin v' g' tk' pv' fun b o z1 z2 e=>kp' b o z1 z2 ((Heap.get?_update_other _ _ (Ne.symm z2)).trans (kp b o z1 e)))
theorem aFC{d:Value}{nm:Str}(W:Walks P w A.in1 it fp wr 0 Pr St)(hbf:bs∉fp)(st:St 0 s.heap)(eb:s.heap.get? bs=some (aC1 #[] c))
 (fin:∀g tk,(∀b o,b∉wr->b≠bs->s.heap.get? b=some o->g.get? b=some o)->R (.ok (.ret d)) {s with heap:=g,toks:=tk}):codeAny (model P w) A (.builtin "max.loop" ⟨[.ref it,.none,.ref bs],[(nm,d)]⟩) R s:=by
 refine codeAny_builtin PySem.F.entry_max_loop (by
  rw[Around.under_plainId PySem.F.plain_max_loop _];show wpAny _ A.in1 (seqItems? (.ref bs)>>=_) _ _ s
  refine wpAny_bind (wpAny_seqItems eb rfl ?_)
  show wpAny _ A.in1 (tryCatch (pyNext (.ref it)) _>>=_) _ _ s
  refine wpAny_bind (wpAny_tryCatch (W.done s _ _ st fun g tk kp=>?_))
  exact wpAny_bind (wpAny_rule (wpAny_pure (fin g tk fun b o z1 _ e=>kp b o z1 e))))
end
section
variable {X:Cx}{pins:List (Addr×Obj)}{σ:L2.St}{H:Hp}{s:Shared}{Q:VK}
theorem aFI{p:Addr}{ns:List Int}{d:Int}{t:Tok}(hc:X.calm=true)(I:Inv X pins σ H s)(hq:SqL X.K H p (ns.map V.int))(q:Q (.int (jD d ns)) H):
 wpAny (model X.prog X.w) X.A (call (.builtin "max") [.ref p] [("default",.int d t)]) (EP X pins σ Q) X.xe s:=by
 obtain⟨its,rv,pl,hz⟩:=I.list hq;have hi:=oN rv;obtain⟨ys,hx⟩:=hi.allInts.items;have hl':s.heap.IsList p (intItems ys):=hx ▸ pl.isList;have hns:ns=ys.toList.map (·.1):=by
  rw[<-nums_intItems,<-hx]
  exact(show numsOf its.toArray.toList=ns from hi.numsOf).symm
 refine kmk_tree PySem.F.kind_max PySem.F.plain_max PySem.F.entry_max (aFc _ _) ?_
 show wpAny _ X.A.in1 (Builtin.Builtins.bindParams "max" ["key","default"] 0 ⟨[],[("default",.int d t)]⟩>>=_) _ _ s
 refine wpAny_bind (wpAny_of_eq (show Builtin.Builtins.bindParams "max" ["key","default"] 0 ⟨[],[("default",.int d t)]⟩=pure [none,some (.int d t)]from rfl) (wpAny_bind (wpAny_pure ?_)))
 refine wpAny_bind (iter_intList hl' fun s2 e2 st fp ne=>?_)
 subst e2;have W:=Walks.list (prog:=X.prog) (w:=X.w) (A:=X.A.in1) (I.ok.hd hc) s.heap.objs.size p ne (intItems ys);have hbf:(s.heap.push {cls:=.type "list_iterator",data:=.fields #[.ref p,.int 0 0]}).objs.size∉[s.heap.objs.size,p]:=fun z=>cQ _ (fp _ z)
 refine wpAny_bind (wpAny_newObj_type ?_)
 rw[aBw]
 refine wpAny_pure ⟨plainId_quiet PySem.F.plain_max_loop _,?_⟩
 by_cases he:ns=[]
 ·have hsz:(intItems ys).size=0:=by
   have h3:ns.length=0:=by rw[he];rfl
   rw[hns,aR,b6]at h3;simpa[intItems]using h3
  rw[hsz]at W
  refine aFC W hbf (W.frame _ _ _ st fun b _ o e=>Heap.get?_push_of_some _ e) (Heap.get?_push_size _ rfl) fun g tk kp=>?_
  refine⟨.int d,H,I.kept fun b o e=>kp b o (fun z=>?_) (bT (aPD (Heap.lt_size e) (by rw[Heap.size_push];exact dZ _))) (Heap.get?_push_of_some _ (Heap.get?_push_of_some _ e)),⟨_,rfl⟩,?_⟩
  ·exact cQ _ (bR.mp z ▸ Heap.lt_size e)
  ·have:jD d ns=d:=by unfold jD;rw[he];rfl
   rw[this]at q;exact q
 ·have hsz:0<ys.size:=by
   have h3:0<ns.length:=dY.mpr he;rw[hns,aR,b6]at h3;exact h3
  refine aC8 W (bt:=fun i j=>decide (numAt ys i>numAt ys j)) (CmpOf.ints_gt (numAt ys) (fun _ _=>intItems_at)) hbf (by simpa[intItems]using hsz) (W.frame _ _ _ st fun b _ o e=>Heap.get?_push_of_some _ e) (Heap.get?_push_size _ rfl) fun v g tk pv kp=>?_
  have pv':(intItems ys)[argBest (fun i j=>decide (numAt ys i>numAt ys j)) (ys.size - 1)]?=some v:=by simpa[intItems]using pv
  obtain⟨t',rfl⟩:=intItems_at pv';obtain⟨h1,h2⟩:=argBest_gt (numAt ys) (ys.size - 1);obtain⟨m1,m2⟩:=aAh he;have eM:numAt ys (argBest (fun i j=>decide (numAt ys i>numAt ys j)) (ys.size - 1))=tR ns:=by
   apply aOG
   ·refine m2 _ ?_
    generalize argBest (fun i j=>decide (numAt ys i>numAt ys j)) (ys.size - 1)=j at*;rw[hns,numAt_eq];exact getD_mem (by rw[aR,b6];lia)
   ·generalize tR ns=M at*;rw[hns]at m1;obtain⟨j,hj,ej⟩:=mem_getD m1;rw[aR,b6]at hj;rw[<-ej,<-numAt_eq];exact h2 j (by lia)
  refine⟨.int (tR ns),H,I.kept fun b o e=>kp b o (fun z=>?_) (bT (aPD (Heap.lt_size e) (by rw[Heap.size_push];exact dZ _))) (Heap.get?_push_of_some _ (Heap.get?_push_of_some _ e)),⟨_,by rw[eM]⟩,?_⟩
  ·exact cQ _ (bR.mp z ▸ Heap.lt_size e)
  ·have:jD d ns=tR ns:=by
    unfold jD;rw[if_neg (by simpa using he)]
   rw[this]at q;exact q
end
def aEu(K:aO):R2:=fun x y H Q=>∃p ns d,x=.ref p/\y=.int d/\SqL K H p (ns.map V.int)/\Q (.int (jD d ns)) H
theorem aLy{K:aO}{σ:L2.St}{H:Hp}{Q:VK}{x y:V}(h:∃t1 t2,trV K σ [t1,t2] [x,y] (aCE t1 t2) H Q):aEu K x y H Q:=by
 obtain⟨t1,t2,H₀,Z,ρ,τ,C,t,C',R,r,e,k⟩:=h;obtain⟨_,_,z,r1,r⟩:=r.cons_inv;cases z;obtain⟨_,_,z,r2,r⟩:=r.cons_inv;cases z;unfold aCE at e;split at e
 ·obtain⟨us,e1,e⟩:=aK.mp e;obtain⟨ns,e2,e⟩:=aL.mp e;cases e;obtain⟨a,vs,ea,qa,ra⟩:=R.li r1 e1;have:=aAx ra e2;subst this
  exact⟨a,ns,_,ea,r2.int_inv,qa,k _ H ρ R .int .refl⟩
 ·cases e
section
variable {X:Cx}{p pos kp:Pos}{e de:Expr}{ta tb:TE}{fa fb:FE}
theorem aKd(hm:X.mg "max"=none)(hc:X.calm=true)(ha:PE X e ta)(hb:PE X de tb)(hg:Gl X "max":=by rfl)
 (he:backTo pos (starEach [e] X.env)=(false,eval e X.env)::backTo pos (starEach [] X.env):=by rfl)(hpl:(backTo pos (starEach [e] X.env)).any (·.1)=false:=by rfl)
 (hse:starEach [e] X.env=(false,eval e X.env)::starEach [] X.env:=by rfl):
 PE X (.Call (.Name "max" p) [e] [⟨some "default",de,kp⟩] pos) (tOp (aEu X.K) ta tb):=by
 intro pins s σ H Q I h
 refine wpAny_Call_Name_kw (qH I hg hm boot_max ?_ (by decide) (by decide))
 refine aPU (thn ((vV ha aC2 hse) pos pins s σ H (fun vs H1=>match vs with
  | [x]=>tb σ H1 fun y H2=>aEu X.K x y H2 Q
  |_=>False) I h) fun us s1 ⟨vs,H1,I1,r1,q1⟩=>?_) he hpl rfl rfl
 match vs,r1,q1 with
 | [x],r1,q1=>
   obtain⟨u,rfl,ru⟩:=vals1 r1
   refine thn ((aJh hb aMO) pos pins s1 σ H1 (fun vs H2=>match vs with
    | [y]=>aEu X.K x y H2 Q
    |_=>False) I1 q1) fun ws s2 ⟨zs,H2,I2,r2,q2⟩=>?_
   match zs,r2,q2 with
   | [y],r2,q2=>
     obtain⟨u2,rfl,ru2⟩:=vals1 r2;obtain⟨p,ns,d,rfl,rfl,hq,q⟩:=q2;cases ru;obtain⟨t,rfl⟩:=ru2
     exact aFI hc I2 hq q
   | [],_,q2=>exact q2.elim
   |_::_::_,_,q2=>exact q2.elim
 | [],_,q1=>exact q1.elim
 |_::_::_,_,q1=>exact q1.elim
theorem aIu(hm:X.mg "max"=none)(hc:X.calm=true)(ha:QE X e fa)(hb:QE X de fb)(hg:Gl X "max":=by rfl)
 (he:backTo pos (starEach [e] X.env)=(false,eval e X.env)::backTo pos (starEach [] X.env):=by rfl)(hpl:(backTo pos (starEach [e] X.env)).any (·.1)=false:=by rfl)
 (hse:starEach [e] X.env=(false,eval e X.env)::starEach [] X.env:=by rfl):
 QE X (.Call (.Name "max" p) [e] [⟨some "default",de,kp⟩] pos) (aIa fa fb):=(aKd hm hc ha hb hg he hpl hse).imp fun _ _ _=>wF (fun _ _ _ _ _=>aLy)
end
section
variable {P:Program}{w:World}{A:Around}{E:Value->Shared->Prop}{s:Shared}{z TI TO i1 i2 l1 l2:Addr}{k1 k2:Nat}{xs ys:Array Value}{x y a b f0 f1:Value}
end
section
variable {X:Cx}{a b e:Expr}{fa fb:FE}{pos p p2:Pos}
variable {own frs:List Str}{is:List Nat}{scope:Scope}{cl:List (Str×Addr)}{x:Str}{tpos:Pos}{elt:Expr}{ifs:List Expr}{fe:FE}{g:FG}{gt:FB}
end
section
variable {X:Cx}{a e:Expr}{te:TE}{fa:FE}{pos p2 p3 p4:Pos}
end
section
variable {X:Cx}{a b:Expr}{fa fb:FE}
end
section
variable {X:Cx}{a e tg:Expr}{fa:FE}{pos p p2:Pos}{sts:List Stmt}{F:FS}{g:FG}
end
section
variable {X:Cx}{st:Stmt}{sts:List Stmt}{F G:FS}
end
end TL
namespace TL
open PySem L2
abbrev XF:=TSt->Sto->Option (String×Sto)
noncomputable def fX(x:XF)(F:FS):FS:=fun τ C=>match x τ C with
 |some (c,C')=>some (.ex c,τ,C')
 |none=>F τ C
noncomputable def fRaise(c:String)(fa:FN):FS:=fun τ C=>(fa τ C).bind fun p=>if p.1.length<=10 then some (.ex c,τ,p.2)else none
def gX(n:Nat)(G:List T->Option String)(ts:List T)(C:Sto):Option String:=if ts.length=n then(if CFs ts=true then G ts else(mapO (dr 3 C) ts).bind G)else none
def xCall(n:Nat)(G:List T->Option String)(fa:FN):XF:=fun τ C=>(fa τ C).bind fun p=>(gX n G p.1 p.2).map fun c=>(c,p.2)
def aNf(B:FS)(m:Nat)(ts:List T):Option String:=match B (st0 m ts) []with
 |some (.ex c,_,_)=>some c
 |_=>none
def xApp(fo:FE)(x:XF):XF:=fun τ C=>(fo τ C).bind fun p=>match p.1 with
 | .cell c=>(lc p.2 c).bind fun _=>x τ p.2
 |_=>none
section
variable {K:aO}{σ:L2.St}{H:Hp}{Q:VK}
end
end TL
namespace TL
open PySem PySem.Spec PyProof.Rows L2
section
variable {K:aO}{W:XW}{σ:L2.St}{H:Hp}{x:XF}
end
section
variable {X:Cx}{pins:List (Addr×Obj)}{σ:L2.St}{H:Hp}{s:Shared}{k:Nat}{f:Addr}{fd:FuncData}{ps:List Str}{sp:Sp}{e a b:Expr}{es:List Expr}{pos p:Pos}{x:XF}{fa fb:FE}{fr:FN}{st:Stmt}{F:FS}
end
abbrev mroVE:List Value:=[.type "ValueError",.type "Exception",.type "BaseException",.type "object"]
structure ExC(K:aO)(mg:Str->Option Value)(c:String)(C:Addr):Prop where
 nm:Named K c C
 mg:mg (Str.ofString c)=some (.ref C)
 ok:aPt K C mroVE "ValueError.__new__"=true
section
variable {X:Cx}{pins:List (Addr×Obj)}{σ:L2.St}{H:Hp}{s:Shared}{c:String}{C:Addr}{e₀:Expr}{rest:List Expr}{np cpos pos:Pos}{fa:FN}
end
section
variable {P:Program}{w:World}{K:aO}{mg:Str->Option Value}{base:Heap}
end
end TL
namespace PySem
end PySem
namespace TL
open PySem PySem.Spec PyProof.Rows L2
section
variable {X:Cx}{pins:List (Addr×Obj)}{σ:L2.St}{H H':Hp}{s s':Shared}{c:String}{C a:Addr}{B:Heap}
abbrev Cx.at(X:Cx)(A:Around)(calm:Bool)(pn:List (Addr×Obj))(xe:Value->Shared->Prop):Cx:={X with A:=A,calm:=calm,pn:=pn,xe:=xe}
end
structure Tab(K:aO)(mg:Str->Option Value)(tab:String->List String)(rs ds:List String):Prop where
 dom:∀c,tab c≠[]->c∈rs
 own:∀d∈ds,∃D,ExC K mg d D/\aPi K (.ref D)=some (.type "type")
 cls:∀c C,c∈rs->Named K c C->aPt K C mroVE "ValueError.__new__"=true/\bQ K (.ref C) "__getattribute__"=some (some (.builtin "BaseException.__getattribute__"))/\bQ K (.ref C) "__getattr__"=some none/\eX K C (.type "BaseException")=some true/\bQ K (.ref C) "__class__"=some (some (.builtin "object.__class__"))/\eX K C (.type "object")=some true
 ve:∀c C,c∈rs->Named K c C->aPV K (.ref C) (.type "ValueError")=some ((tab c).contains "ValueError")
 sub:∀c C d D,c∈rs->d∈ds->Named K c C->Named K d D->eX K C (.ref D)=some ((tab c).contains d)
section
variable {X:Cx}{tab:String->List String}{rs ds:List String}{d:String}{i:Nat}{n:Str}{F G:FS}{body suite:List Stmt}{b₀:Stmt}{np hpos pos:Pos}
end
end TL
namespace PySem.W
open PySem PySem.Spec PySem.Calls PyProof.Rows Builtin Builtin.ObjectAttr Builtin.Getset_descriptor
section
variable {prog:Program}{w:World}{A:Around}{E:Value->Shared->Prop}{s:Shared}{K:Frag}{x C D:Addr}{name:Str}{R:Result->Shared->Prop}
end
section
variable {prog:Program}{w:World}{A:Around}{E:Value->Shared->Prop}{K:Frag}{x C:Addr}{R:Result->Shared->Prop}{h:Heap}{g:Array GenState}{d:Drawn}{t:Nat}{os:OsState}
end
end PySem.W
namespace TL
open PySem PySem.Spec PyProof.Rows L2
section
variable {X:Cx}
variable {tab:String->List String}{rs ds0:List String}{a:Expr}{fa:FE}{p pos tpos p2:Pos}{d:String}{ds:List String}{es:List Expr}
end
section
variable {X:Cx}{a e:Expr}{es:List Expr}{fa:FE}{x:XF}{pos:Pos}
end
section
variable {X:Cx}{e:Expr}{es:List Expr}{fr:FN}{p pos:Pos}
end
theorem rX{K:aO}{c:String}{C D:Addr}(h:Named K c C)(h':Named K c D):C=D:=by
 unfold Named at h h';rw[h]at h';cases h';rfl
theorem Tab.of{K:aO}{mg:Str->Option Value}{tab:String->List String}{rl dl:List (String×Addr)}(hr:∀p∈rl,Named K p.1 p.2)(dom:∀c,tab c≠[]->c∈rl.map (·.1))
 (own:∀p∈dl,ExC K mg p.1 p.2/\aPi K (.ref p.2)=some (.type "type"))
 (cls:∀p∈rl,aPt K p.2 mroVE "ValueError.__new__"=true/\bQ K (.ref p.2) "__getattribute__"=some (some (.builtin "BaseException.__getattribute__"))/\bQ K (.ref p.2) "__getattr__"=some none/\eX K p.2 (.type "BaseException")=some true/\bQ K (.ref p.2) "__class__"=some (some (.builtin "object.__class__"))/\eX K p.2 (.type "object")=some true)
 (ve:∀p∈rl,aPV K (.ref p.2) (.type "ValueError")=some ((tab p.1).contains "ValueError"))
 (sub:∀p∈rl,∀q∈dl,eX K p.2 (.ref q.2)=some ((tab p.1).contains q.1)):Tab K mg tab (rl.map (·.1)) (dl.map (·.1)):=by
 refine⟨dom,fun d hd=>?_,fun c C hc hn=>?_,fun c C hc hn=>?_,fun c C d D hc hd hn hn'=>?_⟩
 ·obtain⟨p,hp,rfl⟩:=bL.mp hd
  exact⟨p.2,own p hp⟩
 ·obtain⟨p,hp,rfl⟩:=bL.mp hc;rw[rX hn (hr p hp)]
  exact cls p hp
 ·obtain⟨p,hp,rfl⟩:=bL.mp hc;rw[rX hn (hr p hp)]
  exact ve p hp
 ·obtain⟨p,hp,rfl⟩:=bL.mp hc;obtain⟨q,hq,rfl⟩:=bL.mp hd;rw[rX hn (hr p hp),rX hn' (own q hq).1.nm]
  exact sub p hp q hq
section
variable {X:Cx}{a b e de:Expr}{fa fb:FE}{x:XF}{p pos kp:Pos}
end
end TL
namespace TL
open PySem L2
noncomputable def aDg(t1 t2:T)(C:Sto):Option (T×Sto):=match t2 with
 | .non=>match t1 with
   | .non=>some (.bl true,C)
   |_=>some (.bl false,C)
 |_=>none
abbrev aEh(a b:FE):FE:=i8 a b (gIc (fun _ j=>decide (0<j/\j<2^250)) fun i j=>.int (i/j))
def tH(fa:FN):FE:=nB fa fun ts C=>if ts.length<=lim then some (.tup ts,C)else none
section
variable {K:aO}{W:XW}{σ:St}{H:Hp}
theorem aNA{x y:V}{Q:VK}(h:∃t1 t2,trV K σ [t1,t2] [x,y] (aDg t1 t2) H Q):y=.non/\Q (.bl (decide (x=.non))) H:=by
 obtain⟨t1,t2,H₀,Z,ρ,τ,C,t,C',R,r,e,k⟩:=h;obtain⟨_,_,z,r1,r⟩:=r.cons_inv;cases z;obtain⟨_,_,z,r2,r⟩:=r.cons_inv;cases z;unfold aDg at e;split at e
 ·unfold RT at r2
  refine⟨r2,?_⟩
  cases t1 with
  |non=>cases e;unfold RT at r1;rw[r1];exact k _ H ρ R .bl .refl
  |_=>
   cases e;have:decide (x=V.non)=false:=by
    unfold RT at r1;first
     | (rw[r1];rfl)
     | (obtain⟨a,r1⟩:=r1;first| (rw[r1.1];rfl)| (obtain⟨b,r1⟩:=r1;rw[r1.1];rfl))
   rw[this]
   exact k _ H ρ R .bl .refl
 ·cases e
theorem aLG{fa:FN}{Q:VK}(hz:lim<=sizeLine)(h:trE K (tH fa) σ H Q):tTup (trA K fa) σ H Q:=by
 obtain⟨H₀,Z,ρ,τ,C,ts,C',R,e,k⟩:=aBY h
 refine⟨H₀,Z,ρ,τ,C,ts,C',R,e,fun vs H1 ρ1 R1 h1 s1=>?_⟩
 obtain⟨us,H₀',Z',ρ',τ',C1,t,C2,R',r,e,k⟩:=k vs H1 ρ1 R1 h1 s1;split at e
 ·rename_i hl;cases e
  exact⟨by rw[r.length];exact cC hl hz,fun p hp=>k _ _ ρ' (R'.alloc hp).1 (R'.alloc_tup hp r) (R'.alloc hp).2⟩
 ·cases e
end
end TL
namespace TL
open PySem PySem.Spec PyProof.Rows L2
section
variable {X:Cx}{a b c e:Expr}{es:List Expr}{fa fb fc:FE}{fr:FN}{p pos:Pos}
theorem aLh(ha:QE X a fa)(hb:QE X b fb)(hm:behindInMarks .Is b=false:=by rfl):QE X (.Compare a [.Is] [b] pos) (i8 fa fb aDg):=aAe aNc (fun _ _ _ _ _=>aNA) ha hb hm
theorem aA4{k}(h:QA X es fr):QE X (.Tuple es k pos) (tH fr):=(aMB h).imp fun _ _ _=>aLG lM
theorem small300{j:Int}(h:0<j/\j<2^250):j.natAbs.log2<9000:=by
 have h0:j.natAbs≠0:=by lia
 have:j.natAbs<2^250:=by
  have h2:=h.2;have:((j.natAbs:Nat):Int)<((2^250:Nat):Int):=by
   rw[aPk (by lia)];simpa using h2
  exact aP2.mp this
 have:=(aQc h0).mpr this
 lia
theorem aH3:OpR X (binaryOp .FloorDiv) (rI (fun _ j=>0<j/\j<2^250) fun i j=>.int (i/j)):=opI fun i j _ _ _ _ _ hc q=>by
 have h1:(0:Int)<j:=hc.1
 exact floordiv_int (by lia) (by rw[aOO i (by lia)];exact q) (.inl (PyProof.noPylong_of_log2 (small300 hc)))
theorem aBz(ha:QE X a fa)(hb:QE X b fb):QE X (.BinOp a .FloorDiv b pos) (aEh fa fb):=(u3 aH3 ha hb).imp fun _ _ _=>wF fun _ _ _ _ _ h=>by
 obtain⟨i,j,h1,h2,h3,q⟩:=aGM (g:=fun i j=>.int (i/j)) (fun _ _ _ _=>.int) h;have h4:0<j/\j<2^250:=of_decide_eq_true h3
 exact⟨i,j,h1,h2,h4,q⟩
end
end TL
namespace TL
open PySem L2
end TL
namespace TL
open PySem PySem.Spec PyProof.Rows L2
section
variable {X:Cx}{e:Expr}{es:List Expr}{fr:FN}{p pos:Pos}
end
end TL
namespace TL
open PySem L2
end TL
namespace TL
open PySem PySem.Spec PyProof.Rows L2
section
variable {X:Cx}{a b:Expr}{fa fb:FE}{p pos:Pos}
end
end TL
namespace TL
open PySem L2
end TL
namespace TL
open PySem PySem.Spec PyProof.Rows L2
section
variable {K:aO}{σ:L2.St}{H:Hp}
end
section
variable {X:Cx}{a b e:Expr}{es:List Expr}{fa fb:FE}{fr:FN}{p pos:Pos}
end
section
variable {X:Cx}{own fr:List Str}{is:List Nat}{scope:Scope}{cl:List (Str×Addr)}{x:Str}
end
section
variable {X:Cx}{p p2 pos:Pos}{own frs:List Str}{is:List Nat}{scope:Scope}{cl:List (Str×Addr)}{tg iter elt:Expr}{ifs:List Expr}{fi fe:FE}{g:FG}{gt:FB}{cx:Str}
end
end TL
namespace TL
open PySem L2
mutual
def sh(k:Nat):T->T
 | .lst ts=>.lst (shs k ts)
 | .tup ts=>.tup (shs k ts)
 | .cell c=>.cell (k+c)
 | .non=>.non
 | .bl b=>.bl b
 | .int i=>.int i
 | .str x=>.str x
 | .exc c=>.exc c
def shs(k:Nat):List T->List T
 | []=>[]
 |t::ts=>sh k t::shs k ts
end
def shc(k:Nat)(x:Cl):Cl:=(x.1,shs k x.2)
section
variable {K:aO}{M:Hp}{ρ ρ':Rho}{k:Nat}
mutual
theorem RT.sh(p:∀(c:Nat)(a:Addr),ρ[c]?=some a->ρ'[k+c]?=some a):∀{t:T}{v:V},RT K M ρ t v->RT K M ρ' (TL.sh k t) v
 | .non,_,h=>by unfold TL.sh;unfold RT at*;exact h
 | .bl _,_,h=>by unfold TL.sh;unfold RT at*;exact h
 | .int _,_,h=>by unfold TL.sh;unfold RT at*;exact h
 | .str _,_,h=>by unfold TL.sh;unfold RT at*;exact h
 | .lst ts,v,h=>by
   unfold TL.sh;unfold RT at*;obtain⟨a,vs,e,q,r⟩:=h
   exact⟨a,vs,e,q,RTs.sh p r⟩
 | .tup ts,v,h=>by
   unfold TL.sh;unfold RT at*;obtain⟨a,vs,e,q,r⟩:=h
   exact⟨a,vs,e,q,RTs.sh p r⟩
 | .cell c,v,h=>by
   unfold TL.sh;unfold RT at*;obtain⟨a,e,q⟩:=h
   exact⟨a,e,p c a q⟩
 | .exc c,v,h=>by
   unfold TL.sh;unfold RT at*
   exact h
theorem RTs.sh(p:∀(c:Nat)(a:Addr),ρ[c]?=some a->ρ'[k+c]?=some a):∀{ts:List T}{vs:List V},RTs K M ρ ts vs->RTs K M ρ' (shs k ts) vs
 | [],_,h=>by unfold shs;unfold RTs at*;exact h
 |t::ts,vs,h=>by
  unfold shs;unfold RTs at*;obtain⟨v,r,e,h1,h2⟩:=h
  exact⟨v,r,e,RT.sh p h1,RTs.sh p h2⟩
end
end
def aCH(K:aO)(n:Nat)(G:List T->Option (T×Sto)):Sp:=fun vs H Q _=>∃Z ts r Cn,ts.length=n/\(∀a,Z a->NT (H a))/\RTs K (mask H Z []) [] ts vs/\G ts=some (r,Cn)/\
 ∀v H' ρ' σ' τ',Rel K H Z ρ' τ' Cn σ' H'->RT K (mask H' Z ρ') ρ' r v->Q v H'
theorem aCp{K:aO}{n:Nat}{G:List T->Option (T×Sto)}:∀vs H Q E,aCH K n G vs H Q E->vs.length=n:=fun vs H Q E zz=>by obtain⟨Z,ts,r,Cn,h,_,rr,_⟩:=zz;rw[rr.length,h]
def EndRc(p:T×Sto):Fl×TSt×Sto->Prop
 | (.rt r,_,C)=>p=(r,C)
 |_=>False
def zN(B:FS)(m:Nat)(ts:List T):Option (T×Sto):=match B (st0 m ts) []with
 |some (.rt r,_,C)=>some (r,C)
 |_=>none
theorem aCA{B:FS}{m n:Nat}:∀ts p,ts.length=n->zN B m ts=some p->∃r,B (st0 m ts) []=some r/\EndRc p r:=fun ts p _ e=>by
 unfold zN at e;split at e
 ·rename_i h;cases e;exact⟨_,h,rfl⟩
 ·cases e
section
variable {K:aO}{W:XW}{σ:St}{H:Hp}{Q:VK}{D:Ends}
variable{G:List T->Option (T×Sto)}{fa:FN}
theorem aEX{n m:Nat}{F:FS}{vs:List V}{E:XK}(hG:∀ts p,ts.length=n->G ts=some p->∃r,F (st0 m ts) []=some r/\EndRc p r)(h:aCH K n G vs H Q E):
 trS K W F {nx:=fun _ H'=>Q .non H',rt:=Q} (vs.map some++aT (m - vs.length) none) H:=by
 obtain⟨Z,ts,r,Cn,hn,hz,rr,e,k⟩:=h;obtain⟨⟨fl,τ',C'⟩,e1,e2⟩:=hG ts _ hn e
 refine⟨H,Z,[],st0 m ts,[],fl,τ',C',Rel.start hz rr,e1,fun σ' H' ρ' R' _=>?_⟩
 cases fl with
 |nx=>exact False.elim e2
 |bk=>exact False.elim e2
 |ct=>exact False.elim e2
 |ex c=>exact False.elim e2
 |rt u=>
  cases e2
  exact fun v hv=>k v H' ρ' σ' τ' R' hv
def rR(n:Nat)(G:List T->Option (T×Sto))(ts:List T)(C:Sto):Option (T×Sto):=if ts.length=n/\CFs ts=true then(G ts).map fun p=>(sh C.length p.1,C++p.2.map (shc C.length))else none
abbrev aBe(n:Nat)(G:List T->Option (T×Sto))(fa:FN):FE:=nB fa (rR n G)
theorem aI9{n:Nat}{vs:List V}{E:XK}(h:∃ts,trV K σ ts vs (rR n G ts) H Q):aCH K n G vs H Q E:=by
 obtain⟨ts,H₀,Z,ρ,τ,C,t,C',R,r,e,k⟩:=h;unfold rR at e;split at e
 ·rename_i hn;obtain⟨⟨u,Cn⟩,e1,e⟩:=aL.mp e;cases e
  refine⟨fun a=>Z a\/a∈ρ,ts,u,Cn,hn.1,fun a z=>?_,by rw[sY];exact r.cf hn.2,e1,fun v H' ρ' σ' τ' R' rv=>?_⟩
  ·rcases z with z|z
   ·exact R.zd a z
   ·exact R.cel_some z
  ·have em:mask H' (fun a=>Z a\/a∈ρ) ρ'=mask H' Z (ρ++ρ'):=by
    funext a;unfold mask;by_cases h:(Z a\/a∈ρ)\/a∈ρ'
    ·rw[if_pos h,if_pos (by rcases h with(h|h)|h
                            ·exact .inl h
                            ·exact .inr (bM.mpr (.inl h))
                            ·exact .inr (bM.mpr (.inr h)))]
    ·rw[if_neg h,if_neg (by
      rintro(z|z)
      ·exact h (.inl (.inl z))
      ·rcases bM.mp z with z|z
       ·exact h (.inl (.inr z))
       ·exact h (.inr z))]
   have hidx:∀(c:Nat)(a:Addr),ρ'[c]?=some a->(ρ++ρ')[C.length+c]?=some a:=fun c a z=>by
    rw[<-R.len,bH (by lia)];rw[show ρ.length+c - ρ.length=c by lia];exact z
   have st:Step H H' ρ (ρ++ρ'):=.of R'.old fun a ha=>(R'.frs a ha).1
   have nR:Rel K H₀ Z (ρ++ρ') τ (C++Cn.map (shc C.length)) σ H':=by
    refine⟨R.old.trans R'.old,fun a ha=>?_,?_,fun a z=>R'.zd a (.inl z),fun i t e=>?_,fun c a e=>?_,?_,R.lnt⟩
    ·rcases bM.mp ha with ha|ha
     ·exact R.frs a ha
     ·exact⟨R.old.free (R'.frs a ha).1,fun z=>(R'.frs a ha).2 (.inl z)⟩
    ·exact dR.mpr ⟨R.nd,R'.nd,fun a h1 b h2 z=>by subst z;exact(R'.frs a h2).2 (.inr h1)⟩
    ·obtain⟨v,h1,h2⟩:=R.loc i t e
     exact⟨v,h1,h2.step st⟩
    ·by_cases hc:c<ρ.length
     ·rw[aY hc]at e;obtain⟨us,ws,ob,h1,h2,h4,h3⟩:=R.cel c a e
      exact⟨us,ws,ob,by rw[aY (by rw[<-R.len];exact hc)];exact h1,R'.old _ _ h2,h4,h3.step st⟩
     ·rw[bH (by lia)]at e;obtain⟨us,ws,ob,h1,h2,h4,h3⟩:=R'.cel _ a e
      refine⟨shc C.length us,ws,ob,?_,h2,h4,?_⟩
      ·rw[bH (by rw[<-R.len];lia),<-R.len,bJ,h1];rfl
      ·rw[em]at h3;exact h3.sh hidx
    ·rw[bC,bC,aR,R.len,R'.len]
   rw[em]at rv
   exact k v H' (ρ++ρ') nR (rv.sh hidx) st
 ·cases e
theorem aKi{n:Nat}{E:XK}(h:trE K (nB fa (rR n G)) σ H Q):z7 (aCH K n G) [] E (trA K fa) σ H Q:=
 oF (aBY h) fun vs _ q=>by rw[aW];exact aI9 q
def aDJ(K:aO)(n:Nat)(G:List T->Sto->Option Sto):Sp:=fun vs H Q _=>∃H₀ Z ρ τ C σ ts C',Rel K H₀ Z ρ τ C σ H/\RTs K (mask H Z ρ) ρ ts vs/\ts.length=n/\G ts C=some C'/\
 ∀H' ρ',Rel K H₀ Z ρ' τ C' σ H'->SStep Z H H' ρ ρ'->Q .non H'
theorem aGt{n:Nat}{G:List T->Sto->Option Sto}:∀vs H Q E,aDJ K n G vs H Q E->vs.length=n:=fun vs H Q E zz=>by obtain⟨H₀,Z,ρ,τ,C,σ,ts,C',R,r,h,_⟩:=zz;rw[r.length,h]
def aE4(B:FS)(m:Nat)(ts:List T)(C:Sto):Option Sto:=match B (st0 m ts) C with
 |some (.nx,_,C')=>some C'
 |_=>none
theorem Rel.locals{H₀:Hp}{Z:Addr->Prop}{ρ:Rho}{τ:TSt}{C:Sto}{ts:List T}{vs:List V}{m:Nat}(R:Rel K H₀ Z ρ τ C σ H)(h:RTs K (mask H Z ρ) ρ ts vs):
 Rel K H₀ Z ρ (st0 m ts) C (vs.map some++aT (m - vs.length) none) H:=by
 refine⟨R.old,R.frs,R.nd,R.zd,fun i t e=>?_,R.cel,R.len,by simp[st0,h.length]⟩
 unfold st0 at e;have hi:i<ts.length:=by
  by_cases hi:i<ts.length
  ·exact hi
  ·rw[bH (by simpa using hi),cM]at e;split at e<;>cases e
 rw[aY (by simpa using hi),bJ]at e;cases q:ts[i]?with
 |none=>rw[q]at e;cases e
 |some u=>
  rw[q]at e;cases e;obtain⟨v,h1,h2⟩:=h.get q
  refine⟨v,?_,h2⟩
  rw[aY (by simpa[h.length]using hi),bJ,h1];rfl
theorem aKw{n m:Nat}{F:FS}{vs:List V}{E:XK}(h:aDJ K n (aE4 F m) vs H Q E):
 trS K W F {nx:=fun _ H'=>Q .non H',rt:=Q} (vs.map some++aT (m - vs.length) none) H:=by
 obtain⟨H₀,Z,ρ,τ,C,σ0,ts,C',R,r,hn,e,k⟩:=h;unfold aE4 at e;split at e
 ·rename_i τ' C2 hF;have e:C2=C':=cN.inj e;subst e
  refine⟨H₀,Z,ρ,st0 m ts,C,.nx,τ',C2,R.locals r,hF,fun σ' H' ρ' R' s'=>?_⟩
  refine k H' ρ' ⟨R'.old,R'.frs,R'.nd,R'.zd,fun i t e=>?_,R'.cel,R'.len,R.lnt⟩ s'
  obtain⟨v,h1,h2⟩:=R.loc i t e
  exact⟨v,h1,h2.step s'⟩
 ·cases e
noncomputable def aBv(n:Nat)(G:List T->Sto->Option Sto)(fa:FN):FS:=fun τ C=>(fa τ C).bind fun p=>if p.1.length=n then(G p.1 p.2).map fun C'=>(.nx,τ,C')else none
theorem aNV{n:Nat}{G:List T->Sto->Option Sto}{E:XK}(h:trS K W (aBv n G fa) D σ H):aED (z7 (aDJ K n G) [] E (trA K fa)) D σ H:=by
 obtain⟨H₀,Z,ρ,τ,C,fl,τ',C',R,e,k⟩:=h;unfold aBv at e;obtain⟨⟨ts,C1⟩,e1,e⟩:=aK.mp e;dsimp only at e;split at e
 ·rename_i hl;obtain⟨C2,e2,e⟩:=aL.mp e;cases e
  refine⟨H₀,Z,ρ,τ,C,ts,C1,R,e1,fun vs H1 ρ1 R1 h1 s1=>?_⟩
  show aDJ K n G (vs++[]) H1 (fun x H1=>D.nx σ H1) E;rw[aW]
  exact⟨H₀,Z,ρ1,τ,C1,σ,ts,_,R1,h1,hl,e2,fun H' ρ' R' s'=>k σ H' ρ' R' (s1.ss.trans s')⟩
 ·cases e
end
end TL
namespace TL
open PySem PySem.Spec PyProof.Rows L2
section
variable {X:Cx}{e:Expr}{es:List Expr}{fr:FN}{p pos pos':Pos}
structure aEO(P:Program)(w:World)(K:aO)(mg:Str->Option Value)(base:Heap)(k:Nat)(x:Str)(n:Nat)(G:List T->Option (T×Sto)):Prop where
 ex:∃f fd ps,mV P w K mg base CX0 k f fd ps (aCH K n G)/\mg x=some (.ref f)/\cF K (.ref f)=true/\Binds K fd ps []
structure aGu(P:Program)(w:World)(K:aO)(mg:Str->Option Value)(base:Heap)(k:Nat)(x:Str)(n:Nat)(G:List T->Sto->Option Sto):Prop where
 ex:∃f fd ps,mV P w K mg base CX0 k f fd ps (aDJ K n G)/\mg x=some (.ref f)/\cF K (.ref f)=true/\Binds K fd ps []
theorem aE2{k n:Nat}{x:Str}{G:List T->Option (T×Sto)}(D:aEO X.prog X.w X.K X.mg X.base k x n G)(hr:Room k X.A)(ha:QA X (e::es) fr)(hg:Gl X x:=by rfl)(hdb:(x==("__debug__":Str))=false:=by decide)
 (he:starEach (e::es) X.env=(false,eval e X.env)::starEach es X.env:=by rfl)(hpl:(backTo pos (starEach es X.env)).any (·.1)=false:=by rfl):QE X (.Call (.Name x p) (e::es) [] pos) (aBe n G fr):=by
 obtain⟨f,fd,ps,F,hm,hk,hb⟩:=D.ex
 exact(tD (E:=fun _ _ _=>False) F hr hg hm hk hb .nil (fun _ _ _ _ _ _ _ h=>h.elim) ha hdb he hpl).imp fun _ _ _=>aKi
theorem aIc{k n:Nat}{x:Str}{G:List T->Sto->Option Sto}(D:aGu X.prog X.w X.K X.mg X.base k x n G)(hr:Room k X.A)(ha:QA X (e::es) fr)(hg:Gl X x:=by rfl)(hdb:(x==("__debug__":Str))=false:=by decide)
 (he:starEach (e::es) X.env=(false,eval e X.env)::starEach es X.env:=by rfl)(hpl:(backTo pos (starEach es X.env)).any (·.1)=false:=by rfl)(hs:swapsWith (.Call (.Name x p) (e::es) [] pos) none pos'.line X.env=pure false:=by rfl):QS X (.Expr (.Call (.Name x p) (e::es) [] pos) pos') (aBv n G fr):=by
 obtain⟨f,fd,ps,F,hm,hk,hb⟩:=D.ex
 exact(vX (tD (E:=fun _ _ _=>False) F hr hg hm hk hb .nil (fun _ _ _ _ _ _ _ h=>h.elim) ha hdb he hpl) hs).imp fun _ _ _=>aNV
section
variable {own frs:List Str}{is:List Nat}{scope:Scope}{cl:List (Str×Addr)}{elt a b:Expr}{ts ifs:List Expr}{tk}{tpos p2 spos:Pos}{fa fb fe:FE}{g:FG}{gt:FB}{x:Str}
end
end
end TL
namespace TL
open PySem L2
noncomputable def getN{α:Type}(f:Str):List Str->List α->Option α
 |n::ns,t::ts=>if f=n then some t else getN f ns ts
 |_,_=>none
noncomputable def pn(f:Str):List Str->List Str
 | []=>[f]
 |n::ns=>if n=f then n::ns else n::pn f ns
noncomputable def pv{α:Type}(f:Str)(t:α):List Str->List α->List α
 | [],_=>[t]
 |n::ns,x::ts=>if n=f then t::ts else x::pv f t ns ts
 |_::_,[]=>[]
theorem vM{f:Str}:∀{ns:List Str}{vs:List V},(ns.zip vs).lookup f=getN f ns vs
 | [],_=>rfl
 |_::_,[]=>rfl
 |n::ns,v::vs=>by
  rw[cB,bZ];unfold getN;by_cases h:f=n
  ·rw[if_pos h,beq_iff_eq.mpr h]
  ·rw[if_neg h,(beq_eq_false_iff_ne).mpr h];exact vM
theorem aBb{f:Str}{v:V}:∀{ns:List Str}{vs:List V},ns.length=vs.length->o8 f v (ns.zip vs)=(pn f ns).zip (pv f v ns vs)
 | [],_,_=>rfl
 |_::_,[],h=>by cases h
 |n::ns,x::vs,h=>by
  rw[cB];unfold o8 pn pv;split
  ·rfl
  ·rw[aBb (by simpa using h),cB]
theorem aDe{α:Type}{f:Str}{t:α}:∀{ns:List Str}{ts:List α},ns.length=ts.length->(pn f ns).length=(pv f t ns ts).length
 | [],_,_=>rfl
 |_::_,[],h=>by cases h
 |n::ns,x::ts,h=>by
  have h':ns.length=ts.length:=by simpa using h
  unfold pn pv;split
  ·simpa using h'
  ·simpa using aDe h'
section
variable {K:aO}{M:Hp}{ρ:Rho}
theorem RTs.getN{f:Str}:∀{ns:List Str}{ts:List T}{vs:List V}{t:T},RTs K M ρ ts vs->TL.getN f ns ts=some t->∃v,TL.getN f ns vs=some v/\RT K M ρ t v
 | [],ts,vs,t,_,e=>by unfold TL.getN at e;cases e
 |_::_,[],vs,t,_,e=>by unfold TL.getN at e;cases e
 |n::ns,x::ts,vs,t,h,e=>by
  obtain⟨v,r,rfl,h1,h2⟩:=h.cons_inv;unfold TL.getN at e|-;split at e
  ·rename_i hn;cases e;exact⟨v,if_pos hn,h1⟩
  ·rename_i hn;rw[if_neg hn];exact RTs.getN h2 e
theorem RTs.pv{f:Str}{t:T}{v:V}(h0:RT K M ρ t v):∀{ns:List Str}{ts:List T}{vs:List V},RTs K M ρ ts vs->RTs K M ρ (TL.pv f t ns ts) (TL.pv f v ns vs)
 | [],_,_,_=>.cons h0 .nil
 |n::ns,[],vs,h=>by rw[h.nil_inv];exact .nil
 |n::ns,x::ts,vs,h=>by
  obtain⟨u,r,rfl,h1,h2⟩:=h.cons_inv;unfold TL.pv;split
  ·exact .cons h0 h2
  ·exact .cons h1 (RTs.pv h0 h2)
end
noncomputable def oc(cls:String)(C:Sto):T->Option (Nat×List Str×List T)
 | .cell c=>(C[c]?).bind fun x=>match x.1 with
   | .o k ns=>if k=cls then some (c,ns,x.2)else none
   |_=>none
 |_=>none
theorem aJZ{cls:String}{C:Sto}{t:T}{c:Nat}{ns:List Str}{ts:List T}(h:oc cls C t=some (c,ns,ts)):t=.cell c/\C[c]?=some (.o cls ns,ts):=by
 unfold oc at h;split at h
 ·obtain⟨⟨k,us⟩,e,h⟩:=aK.mp h;dsimp only at h;split at h
  ·split at h
   ·rename_i hk;cases h;cases hk;exact⟨rfl,e⟩
   ·cases h
  ·cases h
 ·cases h
def i9(K:aO)(cls:String)(f:Str):Prop:=∀C,bU K mainGlobals (Str.ofString cls)=some (some (.ref C))->Cls K C/\oU K C f
def aFB(cls:String)(f:Str)(t:T)(C:Sto):Option (T×Sto):=(oc cls C t).bind fun x=>(getN f x.2.1 x.2.2).map fun u=>(u,C)
abbrev lL(cls:String)(f:Str)(a:FE):FE:=fUn a (aFB cls f)
def nN(cls:String)(f:Str)(fo fe:FE):FS:=fun τ C=>(fe τ C).bind fun p=>(fo τ p.2).bind fun q=>(oc cls q.2 q.1).bind fun x=>if x.2.1.length<900 then some (.nx,τ,q.2.set x.1 (.o cls (pn f x.2.1),pv f p.1 x.2.1 x.2.2))else none
def uX(cls:String)(f:Str)(g:Int->Int->Int)(fo fe:FE):FS:=fun τ C=>(fo τ C).bind fun q=>(oc cls q.2 q.1).bind fun x=>(getN f x.2.1 x.2.2).bind fun old=>match old with
 | .int i=>(fe τ q.2).bind fun p=>match p.1 with
   | .int j=>(oc cls p.2 q.1).bind fun y=>if y.2.1.length<900 then some (.nx,τ,p.2.set y.1 (.o cls (pn f y.2.1),pv f (.int (g i j)) y.2.1 y.2.2))else none
   |_=>none
 |_=>none
section
variable {K:aO}{W:XW}{σ:St}{H:Hp}{Q:VK}{D:Ends}{cls:String}{f:Str}
theorem Rel.oc{H₀:Hp}{Z:Addr->Prop}{ρ:Rho}{τ:TSt}{C:Sto}{t:T}{v:V}{c:Nat}{ns:List Str}{ts:List T}(R:Rel K H₀ Z ρ τ C σ H)(h:RT K (mask H Z ρ) ρ t v)(e:TL.oc cls C t=some (c,ns,ts)):
 ∃a Cl dx vs,v=.ref a/\ρ[c]?=some a/\ns.length=vs.length/\bU K mainGlobals (Str.ofString cls)=some (some (.ref Cl))/\H a=some (.ins Cl dx (ns.zip vs))/\RTs K (mask H Z ρ) ρ ts vs:=by
 obtain⟨rfl,e0⟩:=aJZ e;unfold RT at h;obtain⟨a,ev,q⟩:=h;obtain⟨x,vs,ob,h1,h2,h3,h4⟩:=R.cel c a q;rw[e0]at h1;cases h1;obtain⟨hl,Cl,dx,hn,ho⟩:=h3;subst ho
 exact⟨a,Cl,dx,vs,ev,q,hl,hn,h2,h4⟩
theorem aN6{fa:FE}(hc:i9 K cls f)(h:trE K (lL cls f fa) σ H Q):tFld K (trE K fa) f σ H Q:=by
 refine iX (aMd h) fun x H1 q=>?_
 obtain⟨t1,H₀,Z,ρ,τ,C,t,C',R,r,e,k⟩:=q;obtain⟨_,_,z,r1,r⟩:=r.cons_inv;cases z;unfold aFB at e;obtain⟨⟨c,ns,ts⟩,e1,e⟩:=aK.mp e;obtain⟨u,e2,e⟩:=aL.mp e;cases e;obtain⟨a,Cl,dx,vs,ev,q,hl,hn,hH,hr⟩:=R.oc r1 e1;obtain⟨v,e3,rv⟩:=hr.getN e2;obtain⟨h1,h2⟩:=hc Cl hn
 exact⟨a,Cl,dx,_,v,ev,hH,h1,h2,by rw[vM];exact e3,k v H1 ρ R rv .refl⟩
theorem aNG{fo fe:FE}(hc:i9 K cls f)(h:trS K W (nN cls f fo fe) D σ H):sFld K (trE K fo) (trE K fe) f D σ H:=by
 obtain⟨H₀,Z,ρ,τ,C,fl,τ',C',R,e,k⟩:=h;unfold nN at e;obtain⟨⟨t1,C1⟩,e1,e⟩:=aK.mp e;obtain⟨⟨t2,C2⟩,e2,e⟩:=aK.mp e;obtain⟨⟨c,ns,ts⟩,e3,e⟩:=aK.mp e;dsimp only at e;split at e
 ·rename_i hl9;cases e
  refine⟨H₀,Z,ρ,τ,C,t1,C1,R,e1,fun y H1 ρ1 R1 h1 s1=>?_⟩
  refine⟨H₀,Z,ρ1,τ,C1,t2,C2,R1,e2,fun x H2 ρ2 R2 h2 s2=>?_⟩
  obtain⟨a,Cl,dx,vs,ev,q,hl,hn,hH,hr⟩:=R2.oc h2 e3;obtain⟨p1,p2⟩:=hc Cl hn;obtain⟨w1,w2⟩:=R2.put (kd:=.o cls (pn f ns)) (ob:=.ins Cl dx ((pn f ns).zip (pv f y ns vs))) q (by rw[hH];trivial) ⟨aDe hl,Cl,dx,hn,rfl⟩ (hr.pv (h1.step s2))
  exact⟨a,Cl,dx,_,ev,hH,p1,p2,by rw[dC];lia,by rw[aBb hl];exact k σ _ ρ2 w1 ((s1.trans s2).ss.trans w2)⟩
 ·cases e
theorem aCe{fo fe:FE}{g:Int->Int->Int}{rd:V->V->Hp->VK->Prop}(hrd:∀i j H Q,Q (.int (g i j)) H->rd (.int i) (.int j) H Q)(hc:i9 K cls f)(h:trS K W (uX cls f g fo fe) D σ H):sFldAug K (trE K fo) (trE K fe) rd f D σ H:=by
 obtain⟨H₀,Z,ρ,τ,C,fl,τ',C',R,e,k⟩:=h;unfold uX at e;obtain⟨⟨t1,C1⟩,e1,e⟩:=aK.mp e;obtain⟨⟨c,ns,ts⟩,e3,e⟩:=aK.mp e;obtain⟨old,e4,e⟩:=aK.mp e;dsimp only at e;split at e
 ·rename_i i;obtain⟨⟨t2,C2⟩,e2,e⟩:=aK.mp e;dsimp only at e;split at e
  ·rename_i j;obtain⟨⟨c2,ns2,ts2⟩,e5,e⟩:=aK.mp e;dsimp only at e;split at e
   ·rename_i hl9;cases e
    refine⟨H₀,Z,ρ,τ,C,t1,C1,R,e1,fun x H1 ρ1 R1 h1 s1=>?_⟩
    obtain⟨a,Cl,dx,vs,ev,q,hl,hn,hH,hr⟩:=R1.oc h1 e3;obtain⟨v,e6,rv⟩:=hr.getN e4;obtain⟨p1,p2⟩:=hc Cl hn
    refine⟨a,Cl,dx,_,v,ev,hH,p1,p2,by rw[vM];exact e6,?_⟩
    refine⟨H₀,Z,ρ1,τ,C1,_,C2,R1,e2,fun y H2 ρ2 R2 h2 s2=>?_⟩
    rw[rv.int_inv,h2.int_inv]
    refine hrd i j H2 _ ?_
    obtain⟨a',Cl',dx',vs',ev',q',hl',hn',hH',hr'⟩:=R2.oc (h1.step s2) e5;rw[ev]at ev';cases ev';rw[hn]at hn';cases hn';obtain⟨w1,w2⟩:=R2.put (kd:=.o cls (pn f ns2)) (ob:=.ins Cl dx' ((pn f ns2).zip (pv f (.int (g i j)) ns2 vs'))) (ts:=pv f (.int (g i j)) ns2 ts2) q' (by rw[hH'];trivial) ⟨aDe hl',Cl,dx',hn,rfl⟩ (hr'.pv .int)
    exact⟨dx',_,hH',by rw[dC];lia,by rw[aBb hl'];exact k σ _ ρ2 w1 ((s1.trans s2).ss.trans w2)⟩
   ·cases e
  ·cases e
 ·cases e
end
end TL
namespace TL
open PySem PySem.Spec PyProof.Rows L2
section
variable {X:Cx}{e o value:Expr}{fa fo fe:FE}{cls:String}{f:Str}{pos pos' tpos:Pos}
theorem kE(hc:i9 X.K cls f)(he:QE X e fa)(hb:attributeBase e f X.env (eval e X.env)=eval e X.env:=by rfl):QE X (.Attribute e f pos) (lL cls f fa):=(aNk he hb).imp fun _ _ _=>aN6 hc
theorem o6(hc:i9 X.K cls f)(ho:QE X o fo)(hv:QE X value fe)(hs:swapsWith value (some (.Attribute o f pos')) pos.line X.env=pure false:=by rfl):QS X (.Assign [.Attribute o f pos'] value pos) (nN cls f fo fe):=(aME ho hv hs).imp fun _ _ _=>aNG hc
theorem aF0(hc:i9 X.K cls f)(ho:QE X o fo)(hv:QE X value fe):QS X (.AugAssign (.Attribute o f tpos) .Add value pos) (uX cls f (fun i j=>i+j) fo fe):=(zU ho hv aMb).imp fun _ _ _=>aCe (fun i j H Q q=>⟨i,j,rfl,rfl,q⟩) hc
theorem aF3(hc:i9 X.K cls f)(ho:QE X o fo)(hv:QE X value fe):QS X (.AugAssign (.Attribute o f tpos) .Sub value pos) (uX cls f (fun i j=>i - j) fo fe):=(zU ho hv aHB).imp fun _ _ _=>aCe (fun i j H Q q=>⟨i,j,rfl,rfl,q⟩) hc
end
end TL
namespace TL
open PySem L2
def spS(K:aO)(n:Nat)(G:List T->Sto->Option (T×Sto)):Sp:=fun vs H Q _=>∃H₀ Z ρ τ C σ ts r C',Rel K H₀ Z ρ τ C σ H/\RTs K (mask H Z ρ) ρ ts vs/\ts.length=n/\G ts C=some (r,C')/\
 ∀v H' ρ',Rel K H₀ Z ρ' τ C' σ H'->RT K (mask H' Z ρ') ρ' r v->Step H H' ρ ρ'->Q v H'
def nA(B:FS)(m:Nat)(ts:List T)(C:Sto):Option (T×Sto):=match B (st0 m ts) C with
 |some (.nx,_,C')=>some (.non,C')
 |some (.rt r,_,C')=>some (r,C')
 |_=>none
section
variable {K:aO}{W:XW}{σ:St}{H:Hp}{Q:VK}{D:Ends}
variable{G:List T->Sto->Option (T×Sto)}{fa:FN}{cls:String}{Ca:Addr}
theorem jS{n:Nat}:∀vs H Q E,spS K n G vs H Q E->vs.length=n:=fun vs H Q E zz=>by obtain⟨H₀,Z,ρ,τ,C,σ,ts,r,C',R,rr,h,_⟩:=zz;rw[rr.length,h]
theorem Rel.back{H₀:Hp}{Z:Addr->Prop}{ρ ρ':Rho}{τ τ':TSt}{C C':Sto}{σ':St}{H':Hp}(R:Rel K H₀ Z ρ τ C σ H)(R':Rel K H₀ Z ρ' τ' C' σ' H')(s:Step H H' ρ ρ'):Rel K H₀ Z ρ' τ C' σ H':=
 ⟨R'.old,R'.frs,R'.nd,R'.zd,fun i t e=>let ⟨v,h1,h2⟩:=R.loc i t e;⟨v,h1,h2.step s⟩,R'.cel,R'.len,R.lnt⟩
theorem kJ{n m:Nat}{F:FS}{vs:List V}{E:XK}(h:spS K n (nA F m) vs H Q E):
 trS K W F {nx:=fun _ H'=>Q .non H',rt:=Q} (vs.map some++aT (m - vs.length) none) H:=by
 obtain⟨H₀,Z,ρ,τ,C,σ0,ts,r,C',R,rr,hn,e,k⟩:=h;unfold nA at e;split at e
 ·rename_i τ' C2 hF;cases e
  refine⟨H₀,Z,ρ,st0 m ts,C,.nx,τ',C',R.locals rr,hF,fun σ' H' ρ' R' s'=>?_⟩
  exact k .non H' ρ' (R.back R' s') .non s'
 ·rename_i u τ' C2 hF;cases e
  refine⟨H₀,Z,ρ,st0 m ts,C,.rt r,τ',C',R.locals rr,hF,fun σ' H' ρ' R' s'=>?_⟩
  exact fun v hv=>k v H' ρ' (R.back R' s') hv s'
 ·cases e
noncomputable def pY(n:Nat)(G:List T->Sto->Option (T×Sto))(ts:List T)(C:Sto):Option (T×Sto):=if ts.length=n then G ts C else none
abbrev kZ(n:Nat)(G:List T->Sto->Option (T×Sto))(fa:FN):FE:=nB fa (pY n G)
theorem aBd{n:Nat}{vs:List V}{E:XK}(h:∃ts,trV K σ ts vs (pY n G ts) H Q):spS K n G vs H Q E:=by
 obtain⟨ts,H₀,Z,ρ,τ,C,t,C',R,r,e,k⟩:=h;unfold pY at e;split at e
 ·rename_i hn
  exact⟨H₀,Z,ρ,τ,C,σ,ts,t,C',R,r,hn,e,fun v H' ρ' R' rv s=>k v H' ρ' R' rv s⟩
 ·cases e
theorem aJ9{n:Nat}{E:XK}(h:trE K (kZ n G fa) σ H Q):z7 (spS K n G) [] E (trA K fa) σ H Q:=
 oF (aBY h) fun vs _ q=>by rw[aW];exact aBd q
def lH(cls:String)(m:Str)(n:Nat)(G:List T->Sto->Option (T×Sto))(fo:FE)(fa:FN):FE:=fun τ C=>(fo τ C).bind fun p=>(oc cls p.2 p.1).bind fun x=>match getN m x.2.1 x.2.2 with
 |some _=>none
 |none=>(fa τ p.2).bind fun q=>pY n G (p.1::q.1) q.2
theorem aAr{α β:Type}{f:Str}:∀{ns:List Str}{ts:List α}{vs:List β},ts.length=vs.length->getN f ns ts=none->getN f ns vs=none
 | [],_,_,_,_=>by unfold getN;rfl
 |_::_,[],[],_,_=>by unfold getN;rfl
 |_::_,[],_::_,h,_=>by cases h
 |_::_,_::_,[],h,_=>by cases h
 |n::ns,t::ts,v::vs,h,e=>by
  unfold getN at e|-;split at e
  ·cases e
  ·rename_i hn;rw[if_neg hn];exact aAr (by simpa using h) e
theorem aIi{m:Str}{n:Nat}{fo:FE}{E:XK}(hc:bU K mainGlobals (Str.ofString cls)=some (some (.ref Ca)))(h:trE K (lH cls m n G fo fa) σ H Q):aGO Ca m (spS K n G) [] E (trE K fo) (trA K fa) σ H Q:=by
 obtain⟨H₀,Z,ρ,τ,C,t,C',R,e,k⟩:=h;unfold lH at e;obtain⟨⟨t1,C1⟩,e1,e⟩:=aK.mp e;obtain⟨⟨c,ns,ts⟩,e2,e⟩:=aK.mp e;dsimp only at e2 e;split at e
 ·cases e
 ·rename_i hm;obtain⟨⟨us,C2⟩,e3,e⟩:=aK.mp e;dsimp only at e3 e
  refine⟨H₀,Z,ρ,τ,C,t1,C1,R,e1,fun x H1 ρ1 R1 h1 s1=>?_⟩
  obtain⟨a,Cl,dx,vs,ev,q,hl,hn,hH,hr⟩:=R1.oc h1 e2;rw[hc]at hn;cases hn
  refine⟨a,dx,_,ev,hH,by rw[vM];exact aAr (by rw[hr.length]) hm,?_⟩
  refine⟨H₀,Z,ρ1,τ,C1,us,C2,R1,e3,fun ws H2 ρ2 R2 h2 s2=>?_⟩
  dsimp only;rw[aW]
  exact aBd ⟨t1::us,H₀,Z,ρ2,τ,C2,t,C',R2,.cons (h1.step s2) h2,e,fun v H3 ρ3 R3 h3 s3=>k v H3 ρ3 R3 h3 ((s1.trans s2).trans s3)⟩
def uT(cls:String)(n:Nat)(G:List T->Sto->Option (T×Sto))(dts:List T)(fa:FN):FE:=fun τ C=>(fa τ C).bind fun p=>(pY n G (.cell p.2.length::(p.1++dts)) (p.2++[(.o cls [],[])])).bind fun q=>match q.1 with
 | .non=>some (.cell p.2.length,q.2)
 |_=>none
theorem aMy{n:Nat}{dts:List T}{dvs:List V}{E:XK}(hc:bU K mainGlobals (Str.ofString cls)=some (some (.ref Ca)))(hd:∀M ρ,RTs K M ρ dts dvs)
 (h:trE K (uT cls n G dts fa) σ H Q):tMake Ca (spS K n G) dvs E (trA K fa) σ H Q:=by
 obtain⟨H₀,Z,ρ,τ,C,t,C',R,e,k⟩:=h;unfold uT at e;obtain⟨⟨ts,C1⟩,e1,e⟩:=aK.mp e;obtain⟨⟨r,C2⟩,e2,e⟩:=aK.mp e;dsimp only at e2 e;split at e
 ·cases e
  refine⟨H₀,Z,ρ,τ,C,ts,C1,R,e1,fun vs H1 ρ1 R1 h1 s1 x dx hx hdx hne=>?_⟩
  obtain⟨R2,s2⟩:=R1.alloc (o:=.own x) hdx;have hx2:upd H1 dx (.own x) x=none:=by rw[fQ (Ne.symm hne)];exact hx
  obtain⟨R3,s3,r3⟩:=R2.alloc_cl (kd:=.o cls []) (ts:=[]) (vs:=[]) (ob:=.ins Ca dx []) hx2 ⟨rfl,Ca,dx,hc,rfl⟩ .nil
  refine aBd (σ:=σ) ⟨.cell C1.length::(ts++dts),H₀,Z,ρ1++[x],τ,C1++[(.o cls [],[])],.non,_,R3,.cons r3 (((h1.step s2).step s3).append (hd _ _)),e2,fun v H4 ρ4 R4 h4 s4=>⟨h4.non_inv,?_⟩⟩
  exact k _ H4 ρ4 R4 (r3.step s4) (((s1.trans s2).trans s3).trans s4)
 ·cases e
end
end TL
namespace L2
open PySem PySem.Spec PyProof.Rows
section
variable {κ:Type}[DecidableEq κ]
variable{p:κ×V}{r kvs:List (κ×V)}{o:Option V}{u:Option Value}
noncomputable def sA(kvs:List (κ×V))(k:κ):Option V:=(kvs.find? fun kv=>decide (kv.1=k)).map (·.2)
noncomputable def putK(kvs:List (κ×V))(k:κ)(v:V):List (κ×V):=
 if(kvs.any fun kv=>decide (kv.1=k))=true then kvs.map (fun kv=>if kv.1=k then(kv.1,v)else kv)else kvs++[(k,v)]
theorem sE{k:κ}(e:p.1=k):sA (p::r) k=some p.2:=by simp[sA,c8,e]
theorem pS{k:κ}(e:¬p.1=k):sA (p::r) k=sA r k:=by simp[sA,c8,e]
theorem aCK(k:κ):∀kvs:List (κ×V),(kvs.any fun kv=>decide (kv.1=k))=(sA kvs k).isSome
 | []=>rfl
 |p::r=>by
  rw[aOB];by_cases e:p.1=k
  ·simp only[sE e,decide_eq_true e,Bool.true_or,Option.isSome_some]
  ·rw[pS e,decide_eq_false e,Bool.false_or];exact aCK k r
theorem qI(kvs:List (κ×V))(k:κ)(v:V):(putK kvs k v).length<=kvs.length+1:=by
 unfold putK;split
 ·rw[aR];lia
 ·rw[bC,aN,aQ];lia
theorem pI.isSome_eq(r:pI o u):o.isSome=u.isSome:=by
 cases o with
 |none=>cases u with
  |none=>rfl
  |some _=>exact(show False from r).elim
 |some _=>cases u with
  |none=>exact(show False from r).elim
  |some _=>rfl
theorem pI.getD{d:V}{d':Value}(r:pI o u)(rd:RelV d d'):RelV (o.getD d) (u.getD d'):=by
 cases o with
 |none=>cases u with
  |none=>exact rd
  |some _=>exact(show False from r).elim
 |some _=>cases u with
  |none=>exact(show False from r).elim
  |some _=>exact r
theorem KV.val{vs:List (κ×Value)}(r:KV kvs vs)(k:κ):pI (sA kvs k) (valueAt vs k):=by
 unfold KV at r;induction r with
 |nil=>exact True.intro
 | @cons p q ps qs h t ih=>
   obtain⟨h1,h2⟩:=h;by_cases e:p.1=k
   ·have e':q.1=k:=h1.symm.trans e;have b:valueAt (q::qs) k=some q.2:=by simp[valueAt,c8,e']
    rw[sE e,b];exact h2
   ·have e':¬q.1=k:=fun z=>e (h1.trans z)
    have b:valueAt (q::qs) k=valueAt qs k:=by simp[valueAt,c8,e']
    rw[pS e,b];exact ih
theorem KV.any{vs:List (κ×Value)}(r:KV kvs vs)(k:κ):(kvs.any fun kv=>decide (kv.1=k))=vs.any fun kv=>decide (kv.1=k):=by
 unfold KV at r;induction r with
 |nil=>rfl
 |cons h t ih=>rw[aOB,aOB,ih,h.1]
theorem KV.repl{vs:List (κ×Value)}(r:KV kvs vs)(k:κ){y:V}{u:Value}(ry:RelV y u):
 KV (kvs.map fun kv=>if kv.1=k then(kv.1,y)else kv) (vs.map fun kv=>if kv.1=k then(kv.1,u)else kv):=by
 unfold KV at r|-;induction r with
 |nil=>exact .nil
 | @cons p q ps qs h t ih=>
   rw[aM,aM]
   refine .cons ?_ ih
   obtain⟨h1,h2⟩:=h;by_cases e:p.1=k
   ·rw[if_pos e,if_pos (h1.symm.trans e)];exact⟨h1,ry⟩
   ·rw[if_neg e,if_neg (fun z=>e (h1.trans z))];exact⟨h1,h2⟩
theorem KV.put{vs:List (κ×Value)}(r:KV kvs vs)(k:κ){y:V}{u:Value}(ry:RelV y u):KV (putK kvs k y) (stored vs k u):=by
 unfold putK stored;rw[r.any k];by_cases e:(vs.any fun kv=>decide (kv.1=k))=true
 ·rw[if_pos e,if_pos e];exact r.repl k ry
 ·rw[if_neg e,if_neg e];exact Paired.snoc r ⟨rfl,ry⟩
theorem KV.length{vs:List (κ×Value)}(r:KV kvs vs):kvs.length=vs.length:=Paired.length r
end
variable{u:Value}{kvs:List (List Key×V)}{xs:List (List Key×Addr×Value)}
theorem wR{P:Program}{w:World}{k:Key}(r:RelV (kV k) u):(jA P w).is k u=true:=by
 cases k with
 |inl i=>obtain⟨t,e⟩:=(show∃t,u=Value.int i t from r);subst e;exact aCx P w i t
 |inr x=>obtain⟨t,e⟩:=(show∃t,u=Value.str x t from r);subst e;exact aBX P w x t
theorem aAm{P:Program}{w:World}:∀{ks:List Key}{us:List Value},Vals (ks.map kV) us->ItemsAre (jA P w) ks us
 | [],_,r=>by rw[bD]at r;cases r;exact .nil
 |k::ks,_,r=>by
  rw[aM]at r;cases r with
  |cons h t=>exact .cons (wR h) (aAm t)
abbrev KT(H:Hp):List (List Key×V)->List (List Key×Addr×Value)->Prop:=Paired fun p q=>p.1=q.1/\H q.2.1=some (.tup (p.1.map kV))/\RelV p.2 q.2.2
theorem KT.val{H:Hp}(r:KT H kvs xs)(k:List Key):pI (sA kvs k) ((atKey xs k).map (·.2)):=by
 induction r with
 |nil=>exact True.intro
 | @cons p q ps qs h t ih=>
   obtain⟨h1,_,h2⟩:=h;by_cases e:p.1=k
   ·have e':q.1=k:=h1.symm.trans e;have b:atKey (q::qs) k=some q.2:=by simp[atKey,c8,e']
    rw[sE e,b];exact h2
   ·have e':¬q.1=k:=fun z=>e (h1.trans z)
    have b:atKey (q::qs) k=atKey qs k:=by simp[atKey,c8,e']
    rw[pS e,b];exact ih
theorem KT.repl{H:Hp}(r:KT H kvs xs)(k:List Key){y:V}(ry:RelV y u):
 KT H (kvs.map fun kv=>if kv.1=k then(kv.1,y)else kv) (xs.map (putAt k u)):=by
 induction r with
 |nil=>exact .nil
 | @cons p q ps qs h t ih=>
   rw[aM,aM]
   refine .cons ?_ ih
   obtain⟨h1,h2,h3⟩:=h;unfold putAt;by_cases e:p.1=k
   ·rw[if_pos e,if_pos (h1.symm.trans e)];exact⟨h1,h2,ry⟩
   ·rw[if_neg e,if_neg (fun z=>e (h1.trans z))];exact⟨h1,h2,h3⟩
theorem KT.put{H:Hp}(r:KT H kvs xs)(k:List Key){b:Addr}{y:V}(hb:H b=some (.tup (k.map kV)))(ry:RelV y u):
 KT H (putK kvs k y) (storedH xs k b u):=by
 have e:(kvs.any fun kv=>decide (kv.1=k))=(atKey xs k).isSome:=by
  rw[aCK,(r.val k).isSome_eq,aOX]
 unfold putK storedH;rw[e];by_cases q:(atKey xs k).isSome=true
 ·rw[if_pos q,if_pos q];exact r.repl k ry
 ·rw[if_neg q,if_neg q];exact Paired.snoc r ⟨rfl,hb,ry⟩
theorem KT.keeps{H H':Hp}(r:KT H kvs xs)(ht:∀b ys,H b=some (.tup ys)->H' b=some (.tup ys)):KT H' kvs xs:=
 Paired.mapP r fun _ _ z=>⟨z.1,ht _ _ z.2.1,z.2.2⟩
section
variable {P:Program}{w:World}{H:Hp}{h:Heap}{a:Addr}
theorem aLf{u:HO}(ok:HOk P w H h)(e:Rd H a u):jU P w H h a u:=e.ok ok
theorem xA{kvs:List (Key×V)}(ok:HOk P w H h)(e:Rd H a (.dK kvs)):kvs.length<=sizeLine/\(a==sysModules)=false/\∃vs,KV kvs vs/\h.DictOf (jA P w) a vs:=
 show jU P w H h a (.dK kvs)from aLf ok e
theorem aEw{kvs:List (Key×V)}(ok:HOk P w H h)(e:H a=some (.dK kvs)):kvs.length<=sizeLine/\(a==sysModules)=false/\∃vs,KV kvs vs/\h.DictOf (jA P w) a vs:=xA ok (.inl e)
theorem tX{ks:List Key}(ok:HOk P w H h)(e:H a=some (.tup (ks.map kV))):(tupleKind (jA P w)).is h ks a:=by
 obtain⟨_,its,r,o,h1,h2,n,h3⟩:=(show jU P w H h a (.tup (ks.map kV))from ok a _ e)
 exact⟨o,its.toArray,n,h1,h2,h3,by simpa using aAm r⟩
theorem wP{kvs:List (List Key×V)}(ok:HOk P w H h)(e:Rd H a (.dT kvs)):kvs.length<=sizeLine/\(a==sysModules)=false/\
 ∃xs,KT H kvs xs/\h.DictOfH (tupleKind (jA P w)) a xs:=by
 obtain⟨z,y,xs,r,o,es,ep,h1,h2,h3,h4,h5⟩:=(show jU P w H h a (.dT kvs)from aLf ok e)
 refine⟨z,y,xs,r,o,es,ep,h1,h2,h3,h4,fun x hx=>?_,h5⟩
 have all:∀{l:List (List Key×V)}{m:List (List Key×Addr×Value)},KT H l m->∀x∈m,(tupleKind (jA P w)).is h x.1 x.2.1:=by
  intro l m q;induction q with
  |nil=>intro x hx;exact nomatch hx
  | @cons p q ps qs hq t ih=>
    intro x hx;rcases bE.mp hx with e|hx
    ·subst e
     exact tX ok (by rw[<-hq.1];exact hq.2.1)
    ·exact ih x hx
 exact all r x hx
theorem aNI{kvs:List (List Key×V)}(ok:HOk P w H h)(e:H a=some (.dT kvs)):kvs.length<=sizeLine/\(a==sysModules)=false/\
 ∃xs,KT H kvs xs/\h.DictOfH (tupleKind (jA P w)) a xs:=wP ok (.inl e)
end
def p8(H:Hp)(a:Addr)(y:V)(r:Option V):Prop:=
 (∃kvs k,Rd H a (.dK kvs)/\y=kV k/\r=sA kvs k)\/∃kvs k b,Rd H a (.dT kvs)/\y=.ref b/\H b=some (.tup (k.map kV))/\r=sA kvs k
def zA(H:Hp)(a:Addr)(y v:V)(H':Hp):Prop:=
 (∃kvs k,H a=some (.dK kvs)/\y=kV k/\kvs.length<sizeLine/\H'=upd H a (.dK (putK kvs k v)))\/
 ∃kvs k b,H a=some (.dT kvs)/\y=.ref b/\H b=some (.tup (k.map kV))/\kvs.length<sizeLine/\H'=upd H a (.dT (putK kvs k v))
theorem p8.k{H:Hp}{a:Addr}{kvs:List (Key×V)}{k:Key}(e:H a=some (.dK kvs)):p8 H a (kV k) (sA kvs k):=.inl ⟨kvs,k,.inl e,rfl,rfl⟩
theorem p8.t{H:Hp}{a b:Addr}{kvs:List (List Key×V)}{k:List Key}(e:H a=some (.dT kvs))(eb:H b=some (.tup (k.map kV))):p8 H a (.ref b) (sA kvs k):=.inr ⟨kvs,k,b,.inl e,rfl,eb,rfl⟩
theorem zA.k{H:Hp}{a:Addr}{kvs:List (Key×V)}{k:Key}{v:V}(e:H a=some (.dK kvs))(hl:kvs.length<sizeLine):zA H a (kV k) v (upd H a (.dK (putK kvs k v))):=.inl ⟨kvs,k,e,rfl,hl,rfl⟩
theorem zA.t{H:Hp}{a b:Addr}{kvs:List (List Key×V)}{k:List Key}{v:V}(e:H a=some (.dT kvs))(eb:H b=some (.tup (k.map kV)))(hl:kvs.length<sizeLine):
 zA H a (.ref b) v (upd H a (.dT (putK kvs k v))):=.inr ⟨kvs,k,b,e,rfl,eb,hl,rfl⟩
section
variable {X:Cx}{pins:List (Addr×Obj)}{σ:St}{H:Hp}{s:Shared}{a:Addr}{y v:V}{u r:Value}{o:Option V}{A:Around}{E:Value->Shared->Prop}
variable{Q:Value->Shared->Prop}{h':Heap}
theorem Inv.big(I:Inv X pins σ H s):sysModules<s.heap.objs.size:=by
 have h:mainGlobals<s.heap.objs.size:=(I.mod.glob.keeps I.bk).lt
 exact aPD (by decide) h
theorem aAd(hu:A.units+1<cLine)(I:Inv X pins σ H s)(g:p8 H a y (some v))(ry:RelV y u)(h:∀w' s',Inv X pins σ H s'->RelV v w'->Q w' s'):
 wpAny (model X.prog X.w) A (getItem (.ref a) u) Q E s:=by
 rcases g with⟨kvs,k,e,ey,l⟩| ⟨kvs,k,b,e,ey,eb,l⟩
 ·subst ey;obtain⟨z,hd,vs,rel,dd⟩:=xA I.hok e;obtain⟨w',hw,rw'⟩:=pI.some_of (v:=v) (o:=valueAt vs k) (by rw[l];exact rel.val k)
  exact wpAny_getItem_of (wR ry) dd.mapOf hw (h w' _ (I.tok _) rw')
 ·subst ey;cases (show u=Value.ref b from ry);obtain⟨z,hd,xs,rel,dd⟩:=wP I.hok e;obtain⟨w',hw,rw'⟩:=pI.some_of (v:=v) (o:=(atKey xs k).map (·.2)) (by rw[l];exact rel.val k);obtain⟨p,hp,hp2⟩:=aL.mp hw
  refine wpAny_getItem_heap (tupleKind_room_in1 hu) (tX I.hok eb) dd hp ?_
  rw[hp2]
  exact h w' _ (I.tok _) rw'
theorem aOi(hu:A.units+1<cLine)(I:Inv X pins σ H s)(g:p8 H a y o)(ry:RelV y u)(h:∀s',Inv X pins σ H s'->Q (.bool o.isSome) s'):
 wpAny (model X.prog X.w) A (compareOp .In u (.ref a)) Q E s:=by
 rcases g with⟨kvs,k,e,ey,l⟩| ⟨kvs,k,b,e,ey,eb,l⟩
 ·subst ey;obtain⟨z,hd,vs,rel,dd⟩:=xA I.hok e
  refine wpAny_in_of (wR ry) hd dd.mapOf ?_
  rw[<-(rel.val k).isSome_eq,<-l]
  exact h _ (I.tok _)
 ·subst ey;cases (show u=Value.ref b from ry);obtain⟨z,hd,xs,rel,dd⟩:=wP I.hok e
  refine wpAny_in_heap (tupleKind_room_in1 hu) (tX I.hok eb) hd dd ?_
  have q:=(rel.val k).isSome_eq;rw[aOX]at q;rw[<-q,<-l]
  exact h _ (I.tok _)
theorem aKk(hu:A.units+1<cLine)(I:Inv X pins σ H s)(g:p8 H a y o)(ry:RelV y u)(h:∀s',Inv X pins σ H s'->Q (.bool (!o.isSome)) s'):
 wpAny (model X.prog X.w) A (compareOp .NotIn u (.ref a)) Q E s:=by
 rcases g with⟨kvs,k,e,ey,l⟩| ⟨kvs,k,b,e,ey,eb,l⟩
 ·subst ey;obtain⟨z,hd,vs,rel,dd⟩:=xA I.hok e
  refine wpAny_notIn_of (wR ry) hd dd.mapOf ?_
  rw[<-(rel.val k).isSome_eq,<-l]
  exact h _ (I.tok _)
 ·subst ey;cases (show u=Value.ref b from ry);obtain⟨z,hd,xs,rel,dd⟩:=wP I.hok e
  refine wpAny_notIn_heap (tupleKind_room_in1 hu) (tX I.hok eb) hd dd ?_
  have q:=(rel.val k).isSome_eq;rw[aOX]at q;rw[<-q,<-l]
  exact h _ (I.tok _)
theorem vZ{t':Nat}{ob:HO}(I:Inv X pins σ H s)(mu:Mut (H a))(hs:Heap.SameBut a s.heap h')(he:∃q,h'.get? a=some q)(new:jU X.prog X.w (upd H a ob) h' a ob):
 Inv X pins σ (upd H a ob) {s with heap:=h',toks:=t'}:=
 I.write (x:=a) (e:=a) mu (.inl rfl) (fun b q hb z=>(hs.2 b hb).trans z) he new
theorem aDF{P:Program}{w:World}{H':Hp}{kvs:List (Key×V)}{vs:List (Key×Value)}(z:kvs.length<=sizeLine)(hd:(a==sysModules)=false)(rel:KV kvs vs)(dd:h'.DictOf (jA P w) a vs):
 jU P w H' h' a (.dK kvs):=⟨z,hd,vs,rel,dd⟩
theorem zY{H':Hp}{Q:Unit->Shared->Prop}(hu:A.units+1<cLine)(I:Inv X pins σ H s)(g:zA H a y v H')(ry:RelV y u)(rv:RelV v r)(h:∀s',Inv X pins σ H' s'->Q () s'):
 wpAny (model X.prog X.w) A (setItem (.ref a) u r) Q E s:=by
 rcases g with⟨kvs,k,e,ey,l,eH⟩| ⟨kvs,k,b,e,ey,eb,l,eH⟩
 ·subst ey eH;obtain⟨z,hd,vs,rel,dd⟩:=aEw I.hok e;have hz:vs.length<=sizeLine:=by rw[<-rel.length];exact z
  have hl:(putK kvs k v).length<=sizeLine:=by have:=qI kvs k v;lia
  refine wpAny_setItem_pairs (hsz:=hz) (wR ry) dd fun h' dd' hs=>h _ ?_
  have he:∃q,h'.get? a=some q:=let ⟨q,_,_,hq,_⟩:=dd';⟨q,hq⟩
  exact vZ I (by rw[e];exact True.intro) hs he (aDF hl hd (rel.put k rv) dd')
 ·subst ey eH;cases (show u=Value.ref b from ry);obtain⟨z,hd,xs,rel,dd⟩:=aNI I.hok e;have hz:xs.length<=sizeLine:=by rw[<-Paired.length rel];exact z
  have hl:(putK kvs k v).length<=sizeLine:=by have:=qI kvs k v;lia
  refine wpAny_setItem_heap (hsz:=hz) (tupleKind_room_in1 hu) (tX I.hok eb) dd fun h' dd' hs=>h _ ?_
  obtain⟨q,es,ep,hq,h2,h3,h4,_,h5⟩:=dd'
  refine vZ I (by rw[e];exact True.intro) hs ⟨q,hq⟩ ⟨hl,hd,_,(rel.put k eb rv).keeps fun c ys ec=>?_,q,es,ep,hq,h2,h3,h4,h5⟩
  rw[fQ (nL ec e (fun z=>nomatch z))]
  exact ec
end
section
variable {X:Cx}{pins:List (Addr×Obj)}{σ:St}{H:Hp}{s:Shared}{a:Addr}{kvs:List (Key×V)}{k:Key}{u:Value}{A:Around}{E:Value->Shared->Prop}
end
variable{s:Shared}
def aL4(i:Expr):Prop:=∀ov iv,subscripted i false ov iv=operate [ov,iv] (getItem ov iv)
theorem aKF{prog:Program}{w:World}{A:Around}{E:Value->Shared->Prop}{env:Env}{value slice:Expr}{pos:Pos}{T id:String}{Q:Value->Shared->Prop}
 (hl:typeLookup (.type T) "__getitem__"=pure (some (.builtin id)))(hs:aL4 slice)
 (h:wpAny (model prog w) A (eval value env) (fun o s₁=>wpAny (model prog w) A (eval slice env) (fun i s₂=>s₂.TypeIs o T/\wpAny (model prog w) A (getItem o i) Q E s₂) E s₁) E s):
 wpAny (model prog w) A (eval (.Subscript value slice pos) env) Q E s:=by
 refine Subscript_ (wpAny_mono h (fun o s₁ h₁=>wpAny_mono h₁ (fun i s₂ h₂=>?_) fun _ _ x=>x) fun _ _ x=>x)
 obtain⟨hT,h₂⟩:=h₂;unfold subscriptTail
 refine wpAny_bind ?_
 rw[getitemInPython_of_ne hT.not_modules]
 refine wpAny_bind (wpAny_specialOf hT hl ?_)
 have fin:wpAny (model prog w) A (subscripted slice false o i) (fun r s₃=>wpAny (model prog w) A (letTemporaryGo value o r>>=fun _=>pure r) Q E s₃) E s₂:=by
  rw[hs o i]
  exact wpAny_operating (wpAny_mono h₂ (fun r s₃ h₃=>wpAny_bind (wpAny_letTemporaryGo (wpAny_pure h₃))) fun _ _ x=>x)
 first
  |exact wpAny_pure (wpAny_bind fin)
  |exact wpAny_bind (wpAny_pure (wpAny_bind fin))
  |exact wpAny_bind fin
theorem aBG{X:Cx}{pins:List (Addr×Obj)}{σ:St}{H:Hp}{a:Addr}{y:V}{o:Option V}(I:Inv X pins σ H s)(g:p8 H a y o):s.TypeIs (.ref a) "dict":=by
 rcases g with⟨kvs,k,e,_,_⟩| ⟨kvs,k,b,e,_,_,_⟩
 ·obtain⟨_,_,vs,_,dd⟩:=xA I.hok e
  exact dd.typeIs
 ·obtain⟨_,_,xs,_,dd⟩:=wP I.hok e
  exact dd.typeIs
noncomputable def tDGet(td ty:TE):TE:=fun σ H Q=>td σ H fun x H1=>ty σ H1 fun y H2=>∃a v,x=.ref a/\p8 H2 a y (some v)/\Q v H2
noncomputable def tDIn(ty td:TE):TE:=fun σ H Q=>ty σ H fun y H1=>td σ H1 fun x H2=>∃a o,x=.ref a/\p8 H2 a y o/\Q (.bl o.isSome) H2
noncomputable def tDNotIn(ty td:TE):TE:=fun σ H Q=>ty σ H fun y H1=>td σ H1 fun x H2=>∃a o,x=.ref a/\p8 H2 a y o/\Q (.bl (!o.isSome)) H2
noncomputable def sDPut(td ty tv:TE):TS:=fun D σ H=>tv σ H fun v H1=>td σ H1 fun x H2=>ty σ H2 fun y H3=>∃a H4,x=.ref a/\zA H3 a y v H4/\D.nx σ H4
def sDAug(td ty tv:TE)(rd:V->V->Hp->VK->Prop):TS:=fun D σ H=>td σ H fun x H1=>ty σ H1 fun y H2=>∃a v,x=.ref a/\p8 H2 a y (some v)/\
 tv σ H2 fun y2 H3=>rd v y2 H3 fun z H4=>∃H5,zA H4 a y z H5/\D.nx σ H5
section
variable {X:Cx}{o i e value:Expr}{pos pos' tpos:Pos}{td ty tv:TE}
theorem aKa(hu:X.A.units+1<cLine)(ho:PE X o td)(hi:PE X i ty)(hs:aL4 i):PE X (.Subscript o i pos) (tDGet td ty):=by
 intro pins s σ H Q I h
 refine aKF PySem.F.slot_dict_getitem.lookup hs (thn (ho pins s σ H _ I h) fun u s1 ⟨x,H1,I1,rx,q1⟩=>thn (hi pins s1 σ H1 _ I1 q1) fun iv s2 zz=>?_)
 obtain⟨y,H2,I2,ry,a,v,ex,g,q2⟩:=zz;subst ex;obtain rfl:u=Value.ref a:=rx
 exact⟨aBG I2 g,aAd hu I2 g ry fun w' s3 I3 rw'=>⟨v,H2,I3,rw',q2⟩⟩
theorem aLH(hu:X.A.units+1<cLine)(hi:PE X i ty)(ho:PE X o td):PC X .In i o (tDIn ty td):=by
 intro pins s σ H Q I h
 refine thn (hi pins s σ H _ I h) fun iv s1 ⟨y,H1,I1,ry,q1⟩=>thn (ho pins s1 σ H1 _ I1 q1) fun u s2 zz=>?_
 obtain⟨x,H2,I2,rx,a,ov,ex,g,q2⟩:=zz;subst ex;obtain rfl:u=Value.ref a:=rx
 exact aOi hu I2 g ry fun s3 I3=>⟨.bl ov.isSome,H2,I3,rfl,q2⟩
theorem aGa(hu:X.A.units+1<cLine)(hi:PE X i ty)(ho:PE X o td):PC X .NotIn i o (tDNotIn ty td):=by
 intro pins s σ H Q I h
 refine thn (hi pins s σ H _ I h) fun iv s1 ⟨y,H1,I1,ry,q1⟩=>thn (ho pins s1 σ H1 _ I1 q1) fun u s2 zz=>?_
 obtain⟨x,H2,I2,rx,a,ov,ex,g,q2⟩:=zz;subst ex;obtain rfl:u=Value.ref a:=rx
 exact aKk hu I2 g ry fun s3 I3=>⟨.bl (!ov.isSome),H2,I3,rfl,q2⟩
theorem aKf(hu:X.A.units+1<cLine)(ho:PE X o td)(hi:PE X i ty)(hv:PE X value tv)(hs:swapsWith value (some (.Subscript o i pos')) pos.line X.env=pure false):
 PS X (.Assign [.Subscript o i pos'] value pos) (sDPut td ty tv):=by
 intro pins s σ H D I h
 refine wpAny_Assign_Subscript (thn (hv pins s σ H _ I h) fun r s1 ⟨v,H1,I1,rv,q1⟩=>thn (ho pins s1 σ H1 _ I1 q1) fun u s2 ⟨x,H2,I2,rx,q2⟩=>thn (hi pins s2 σ H2 _ I2 q2) fun iv s3 ⟨y,H3,I3,ry,a,H4,ex,g,q3⟩=>?_) hs
 subst ex;obtain rfl:u=Value.ref a:=rx
 exact zY hu I3 g ry rv fun s4 I4=>⟨σ,H4,I4,q3⟩
theorem aJW{op:Operator}{rd:V->V->Hp->VK->Prop}(hu:X.A.units+1<cLine)(ho:PE X o td)(hi:PE X i ty)(hv:PE X value tv)(hop:aKP X op rd)
 (ha:∀ov iv new,augStore i ov iv new=(do holding [new,ov,iv] (setItem ov iv new);release [new,ov,iv] [];pure .next)):PS X (.AugAssign (.Subscript o i tpos) op value pos) (sDAug td ty tv rd):=by
 intro pins s σ H D I h
 refine wpAny_AugAssign_SubscriptAny (thn (ho pins s σ H _ I h) fun u s1 ⟨x,H1,I1,rx,q1⟩=>thn (hi pins s1 σ H1 _ I1 q1) fun iv s2 ⟨y,H2,I2,ry,a,v,ex,g,q2⟩=>?_) ha
 subst ex;obtain rfl:u=Value.ref a:=rx
 refine aAd hu I2 g ry fun w' s3 I3 rw'=>thn (hv pins s3 σ H2 _ I3 q2) fun w2 s4 ⟨y2,H3,I4,ry2,q3⟩=>thn (hop pins s4 σ H3 v y2 w' w2 _ I4 rw' ry2 q3) fun w3 s5 zz=>?_
 obtain⟨z,H4,I5,rz,H5,g5,q4⟩:=zz
 exact zY hu I5 g5 ry rz fun s6 I6=>⟨σ,H5,I6,q4⟩
end
variable{P:Program}{w:World}
theorem aCG{H:Hp}(h:Heap)(hb:sysModules<h.objs.size):jU P w H (h.push {cls:=.type "dict",data:=.dict #[]}) h.objs.size (.dK []):=
 ⟨dJ _,beq_eq_false_iff_ne.mpr (Ne.symm (bT hb)),[],.nil,Heap.DictOf.new h⟩
theorem aHH{H:Hp}(h:Heap)(hb:sysModules<h.objs.size):jU P w H (h.push {cls:=.type "dict",data:=.dict #[]}) h.objs.size (.dT []):=
 ⟨dJ _,beq_eq_false_iff_ne.mpr (Ne.symm (bT hb)),[],.nil,_,#[],0,Heap.get?_push_size _ rfl,⟨rfl,rfl,rfl⟩,rfl,rfl,aPQ⟩
def tDNewK:TE:=fun _ H Q=>∀p,H p=none->Q (.ref p) (upd H p (.dK []))
def tDNewT:TE:=fun _ H Q=>∀p,H p=none->Q (.ref p) (upd H p (.dT []))
section
variable {X:Cx}{pos:Pos}
theorem aIj:PE X (.Dict [] [] pos) tDNewK:=fun pins s σ H Q I h=>
 wpAny_Dict_empty ⟨.ref s.heap.objs.size,_,I.laid (a:=s.heap.objs.size) (o:=.dK []) (t':=s.toks) (fun _ _ q=>Heap.get?_push_of_some _ q) (bI _) (aCG s.heap I.big),rfl,h _ (I.hok.fresh (bI _))⟩
theorem aHZ:PE X (.Dict [] [] pos) tDNewT:=fun pins s σ H Q I h=>
 wpAny_Dict_empty ⟨.ref s.heap.objs.size,_,I.laid (a:=s.heap.objs.size) (o:=.dT []) (t':=s.toks) (fun _ _ q=>Heap.get?_push_of_some _ q) (bI _) (aHH s.heap I.big),rfl,h _ (I.hok.fresh (bI _))⟩
end
variable{X:Cx}{pos:Pos}{trs:List (TE×TE)}
def aC7:List (TE×TE)->St->Hp->(List (V×V)->Hp->Prop)->Prop
 | [],_,H,Q=>Q [] H
 | (tk,tv)::r,σ,H,Q=>tk σ H fun x H1=>tv σ H1 fun y H2=>aC7 r σ H2 fun ps H3=>Q ((x,y)::ps) H3
abbrev VV:List (V×V)->List (Value×Value)->Prop:=Paired fun p q=>RelV p.1 q.1/\RelV p.2 q.2
def PPs(X:Cx)(pos:Pos)(keys:List (Option Expr))(values:List Expr)(trs:List (TE×TE)):Prop:=
 ∀(pins:List (Addr×Obj))(s:Shared)(σ:St)(H:Hp)(Q:List (V×V)->Hp->Prop),Inv X pins σ H s->aC7 trs σ H Q->
  wpAny (model X.prog X.w) X.A (evalPairs (pairTrees keys values X.env pos)) (fun vs s'=>∃ps H',Inv X pins σ H' s'/\VV ps vs/\Q ps H') X.xe s
theorem aKK:PPs X pos [] [] []:=fun pins s σ H Q I h=>pairTrees_nil_walk ⟨[],H,I,.nil,h⟩
theorem aHc{k v:Expr}{ks:List (Option Expr)}{vs:List Expr}{tk tv:TE}(hk:PE X k tk)(hv:PE X v tv)(hr:PPs X pos ks vs trs):
 PPs X pos (some k::ks) (v::vs) ((tk,tv)::trs):=fun pins s σ H Q I h=>
 pairTrees_cons_walk (thn (hk pins s σ H _ I h) fun u s1 ⟨x,H1,I1,rx,q1⟩=>thn (hv pins s1 σ H1 _ I1 q1) fun w2 s2 ⟨y,H2,I2,ry,q2⟩=>
  thn (hr pins s2 σ H2 _ I2 q2) fun ws s3 ⟨ps,H3,I3,rel,q3⟩=>⟨(x,y)::ps,H3,I3,.cons ⟨rx,ry⟩ rel,q3⟩)
def pK(kvs more:List (Key×V)):List (Key×V):=more.foldl (fun acc kv=>putK acc kv.1 kv.2) kvs
theorem KV.merge:∀{more:List (Key×V)}{rs:List (Key×Value)}{kvs:List (Key×V)}{vs:List (Key×Value)},KV more rs->KV kvs vs->KV (pK kvs more) (merged vs rs):=by
 intro more rs kvs vs r;unfold KV at r;induction r generalizing kvs vs with
 |nil=>intro q;exact q
 | @cons p q ps qs h t ih=>
   intro r0;have e:KV (putK kvs p.1 p.2) (stored vs q.1 q.2):=by
    have:=r0.put p.1 h.2;rw[<-h.1];exact this
   exact ih e
theorem nU:∀(more kvs:List (Key×V)),(pK kvs more).length<=kvs.length+more.length
 | [],kvs=>by show kvs.length<=kvs.length+0;lia
 |p::r,kvs=>by
  have h1:=nU r (putK kvs p.1 p.2);have h2:=qI kvs p.1 p.2;show(pK (putK kvs p.1 p.2) r).length<=_;rw[aN];lia
theorem xO{P:Program}{w:World}:∀{kvs:List (Key×V)}{ws:List (Value×Value)},VV (kvs.map fun kv=>(kV kv.1,kv.2)) ws->∃rs,Carries (jA P w) ws rs/\KV kvs rs
 | [],_,r=>by rw[bD]at r;cases r;exact⟨[],True.intro,.nil⟩
 |p::kvs,_,r=>by
  rw[aM]at r;cases r with
  | @cons a b as bs h t=>
    obtain⟨rs,c,q⟩:=xO (P:=P) (w:=w) t;obtain⟨b1,b2⟩:=b
    exact⟨(p.1,b2)::rs,⟨wR h.1,rfl,c⟩,.cons ⟨rfl,h.2⟩ q⟩
def tDisp(trs:List (TE×TE)):TE:=fun σ H Q=>∀p,H p=none->aC7 trs σ (upd H p (.dK [])) fun ps H2=>H2 p=some (.dK [])/\∃kvs:List (Key×V),ps=kvs.map (fun kv=>(kV kv.1,kv.2))/\kvs.length<=15/\Q (.ref p) (upd H2 p (.dK (pK [] kvs)))
theorem aJH{keys:List (Option Expr)}{values:List Expr}(h:PPs X pos keys values trs)(hall:keys.all (·.isSome)=true)(hl:keys.length=values.length)(h0:keys≠[])
 (h15:keys.length<=15):PE X (.Dict keys values pos) (tDisp trs):=by
 intro pins s σ H Q I q;have hn:=I.hok.fresh (bI s.heap.objs.size);have I1:=I.laid (a:=s.heap.objs.size) (o:=.dK []) (h':=s.heap.push {cls:=.type "dict",data:=.dict #[]}) (t':=s.toks) (fun _ _ q=>Heap.get?_push_of_some _ q) (bI _) (aCG s.heap I.big)
 refine wpAny_Dict_walk (knd:=jA X.prog X.w) hall hl h0 h15 (thn (h pins _ σ _ _ I1 (q _ hn)) fun ws s2 zz=>?_)
 obtain⟨ps,H2,I2,rel,e,kvs,ep,lk,q2⟩:=zz;subst ep;obtain⟨rs,c,rk⟩:=xO (P:=X.prog) (w:=X.w) rel;obtain⟨z,hd,vs0,r0,dd⟩:=aEw I2.hok e;cases r0
 refine⟨rs,c,dd,fun h' dd' hs=>⟨.ref s.heap.objs.size,_,?_,rfl,q2⟩⟩
 have hz:(pK [] kvs).length<=sizeLine:=by
  have h1:=nU kvs [];rw[aQ]at h1;rw[sizeLine_eq];lia
 have he:∃q,h'.get? s.heap.objs.size=some q:=let ⟨q,_,_,hq,_⟩:=dd';⟨q,hq⟩
 exact vZ I2 (by rw[e];exact True.intro) hs he (aDF hz hd (rk.merge .nil) dd')
structure M1(X:Cx)(o:Expr)(m:Str)(apos:Pos)(e:Expr)(cpos:Pos):Prop where
 base:attributeBase o m X.env (eval o X.env)=eval o X.env
 few:((backTo cpos (starEach [e] X.env)).all (fun x=> !x.1)&&(backToKw cpos (keywordEach [] X.env)).all (fun x=>x.1.isSome)
  &&decide (([e]:List Expr).length+([]:List Keyword).length+(if([]:List Keyword).isEmpty then 0 else 1)<30))=true
 line:(apos.endLine==cpos.line)=true
 trees:backTo cpos (starEach [e] X.env)=[(false,eval e X.env)]
structure M2(X:Cx)(o:Expr)(m:Str)(apos:Pos)(e f:Expr)(cpos:Pos):Prop where
 base:attributeBase o m X.env (eval o X.env)=eval o X.env
 few:((backTo cpos (starEach [e,f] X.env)).all (fun x=> !x.1)&&(backToKw cpos (keywordEach [] X.env)).all (fun x=>x.1.isSome)
  &&decide (([e,f]:List Expr).length+([]:List Keyword).length+(if([]:List Keyword).isEmpty then 0 else 1)<30))=true
 line:(apos.endLine==cpos.line)=true
 trees:backTo cpos (starEach [e,f] X.env)=[(false,eval e X.env),(false,eval f X.env)]
def IsD(H:Hp)(a:Addr):Prop:=(∃kvs,Rd H a (.dK kvs))\/∃kvs,Rd H a (.dT kvs)
theorem aG7{pins:List (Addr×Obj)}{σ:St}{H:Hp}{s:Shared}{a:Addr}(I:Inv X pins σ H s)(d:IsD H a):
 s.TypeIs (.ref a) "dict"/\(∀b,Value.ref a=.ref b->∃ob,s.heap.get? b=some ob/\ob.dict=none)/\(a==sysModules)=false:=by
 rcases d with⟨kvs,e⟩| ⟨kvs,e⟩
 ·obtain⟨_,hd,vs,_,dd⟩:=xA I.hok e
  refine⟨dd.typeIs,fun b q=>?_,hd⟩
  cases q;obtain⟨ob,_,_,h1,h2,_⟩:=dd
  exact⟨ob,h1,h2.2.1⟩
 ·obtain⟨_,hd,xs,_,dd⟩:=wP I.hok e
  refine⟨dd.typeIs,fun b q=>?_,hd⟩
  cases q;obtain⟨ob,_,_,h1,h2,_⟩:=dd
  exact⟨ob,h1,h2.2.1⟩
section
variable {X:Cx}{pins:List (Addr×Obj)}{σ:St}{H:Hp}{s:Shared}{a:Addr}{y d:V}{u r:Value}{o:Option V}{A:Around}{E:Value->Shared->Prop}
theorem aL5{Q:Value->Shared->Prop}(hu:A.units+1<cLine)(I:Inv X pins σ H s)(g:p8 H a y o)(ry:RelV y u)(rd:RelV d r)(h:∀w' s',Inv X pins σ H s'->RelV (o.getD d) w'->Q w' s'):
 wpAny (model X.prog X.w) A (call (.builtin "dict.get") [.ref a,u,r]) Q E s:=by
 rcases g with⟨kvs,k,e,ey,l⟩| ⟨kvs,k,b,e,ey,eb,l⟩
 ·subst ey;obtain⟨z,hd,vs,rel,dd⟩:=xA I.hok e
  refine call_meetsIn PySem.F.slot_dict_get dd.typeIs PySem.F.entry_dict_get (PySem.F.args_dict_get_3 _ _ _) (meets_dict_get_default (jA X.prog X.w) a (wR ry) hd r) ⟨_,dd.mapOf,h _ _ (I.tok _) ?_⟩
  rw[l]
  exact(rel.val k).getD rd
 ·subst ey;cases (show u=Value.ref b from ry);obtain⟨z,hd,xs,rel,dd⟩:=wP I.hok e
  refine call_meetsIn PySem.F.slot_dict_get dd.typeIs PySem.F.entry_dict_get (PySem.F.args_dict_get_3 _ _ _) (meetsH_dict_get_default (tupleKind (jA X.prog X.w)) a b hd r) ⟨tupleKind_room_in1 hu,k,xs,tX I.hok eb,dd,h _ _ (I.tok _) ?_⟩
  rw[l]
  exact(rel.val k).getD rd
end
noncomputable def tDGet2(td ty tx:TE):TE:=fun σ H Q=>td σ H fun x H1=>∃a,x=.ref a/\IsD H1 a/\ty σ H1 fun y H2=>tx σ H2 fun z H3=>∃o,p8 H3 a y o/\Q (o.getD z) H3
section
variable {X:Cx}{o e f:Expr}{apos cpos:Pos}{td ty tx:TE}
theorem aHL(hu:X.A.units+1<cLine)(ho:PE X o td)(he:PE X e ty)(hf:PE X f tx)(m:M2 X o "get" apos e f cpos):PE X (.Call (.Attribute o "get" apos) [e,f] [] cpos) (tDGet2 td ty tx):=by
 intro pins s σ H Q I h
 refine wpAny_Call_method m.base m.few m.line PySem.F.plainAttrs_dict PySem.F.slot_dict_get PySem.F.type_dict_get (thn (ho pins s σ H _ I h) fun u s1 zz=>?_)
 obtain⟨x,H1,I1,rx,a,ex,d,q1⟩:=zz;subst ex;obtain rfl:u=Value.ref a:=rx;obtain⟨t1,t2,_⟩:=aG7 I1 d
 refine⟨t1,t2,?_⟩
 rw[m.trees]
 refine Calls.callWith_builtin rfl (Calls.evalArgs_plain (Calls.spliced_cons (thn (he pins s1 σ H1 _ I1 q1) fun iv s2 ⟨y,H2,I2,ry,q2⟩=>
  Calls.spliced_cons (thn (hf pins s2 σ H2 _ I2 q2) fun fv s3 ⟨z,H3,I3,rz,ov,g,q3⟩=>Calls.spliced_nil ?_))))
 exact aL5 hu I3 g ry rz fun w' s4 I4 rw'=>⟨_,H3,I4,rw',q3⟩
end
section
variable {X:Cx}{pins:List (Addr×Obj)}{σ:St}{H:Hp}{s:Shared}{a:Addr}{kvs:List (Key×V)}{A:Around}{E:Value->Shared->Prop}
end
section
variable {X:Cx}{pins:List (Addr×Obj)}{σ:St}{H:Hp}{s:Shared}{a:Addr}{y:V}{u:Value}{A:Around}{E:Value->Shared->Prop}
end
end L2
namespace TL
open PySem L2
section
variable {κ:Type}[DecidableEq κ]{α:Type}
variable{ks:List κ}
noncomputable def vl(l:List (κ×α))(k:κ):Option α:=(l.find? fun kv=>decide (kv.1=k)).map (·.2)
noncomputable def pkK(k:κ)(ks:List κ):List κ:=if k∈ks then ks else ks++[k]
noncomputable def pvK(k:κ)(v:α)(ks:List κ)(vs:List α):List α:=if k∈ks then(ks.zip vs).map fun kv=>if kv.1=k then v else kv.2 else vs++[v]
theorem aD5{k:κ}:∀{ks:List κ}{vs:List α},ks.length=vs.length->((ks.zip vs).any fun kv=>decide (kv.1=k))=decide (k∈ks)
 | [],_,_=>rfl
 |_::_,[],h=>by cases h
 |x::ks,v::vs,h=>by
  rw[cB,aOB,aD5 (by simpa using h)];by_cases e:x=k
  ·simp[e]
  ·simp[e,Ne.symm e]
theorem uW{k:κ}{v:α}:∀{ks:List κ}{vs:List α},ks.length=vs.length->(ks.zip vs).map (fun kv=>if kv.1=k then(kv.1,v)else kv)=ks.zip ((ks.zip vs).map fun kv=>if kv.1=k then v else kv.2)
 | [],_,_=>rfl
 |_::_,[],h=>by cases h
 |x::ks,w::vs,h=>by
  rw[cB,aM,aM,cB,uW (by simpa using h)];dsimp only;split<;>rfl
theorem yH{k:κ}{v:V}{vs:List V}(h:ks.length=vs.length):putK (ks.zip vs) k v=(pkK k ks).zip (pvK k v ks vs):=by
 unfold putK pkK pvK;rw[aD5 h];by_cases e:k∈ks
 ·rw[if_pos (decide_eq_true e),if_pos e,if_pos e,uW h]
 ·rw[if_neg (by simpa using e),if_neg e,if_neg e,List.zip_append h];rfl
theorem aDc{k:κ}{v:α}{vs:List α}(h:ks.length=vs.length):(pkK k ks).length=(pvK k v ks vs).length:=by
 unfold pkK pvK;split
 ·rw[aR,dC,<-h,Nat.min_self]
 ·simp[h]
end
section
variable {K:aO}{M:Hp}{ρ:Rho}{κ:Type}[DecidableEq κ]
theorem RTs.vl{k:κ}:∀{ks:List κ}{ts:List T}{vs:List V},RTs K M ρ ts vs->∀{t:T},TL.vl (ks.zip ts) k=some t->∃v,sA (ks.zip vs) k=some v/\RT K M ρ t v
 | [],_,_,_,_,e=>by cases e
 |_::_,[],_,_,_,e=>by cases e
 |x::ks,u::ts,vs,h,t,e=>by
  obtain⟨v,r,rfl,h1,h2⟩:=h.cons_inv;rw[cB];rw[cB]at e;unfold TL.vl at e;rw[c8]at e;by_cases q:x=k
  ·rw[show decide ((x,u).1=k)=true from decide_eq_true q]at e;cases e
   exact⟨v,sE q,h1⟩
  ·rw[show decide ((x,u).1=k)=false from decide_eq_false q]at e;rw[pS (p:=(x,v)) q]
   exact RTs.vl h2 e
theorem RTs.vlN{k:κ}:∀{ks:List κ}{ts:List T}{vs:List V},RTs K M ρ ts vs->TL.vl (ks.zip ts) k=none->sA (ks.zip vs) k=none
 | [],_,_,_,_=>rfl
 |_::_,[],vs,h,_=>by rw[h.nil_inv];rfl
 |x::ks,u::ts,vs,h,e=>by
  obtain⟨v,r,rfl,h1,h2⟩:=h.cons_inv;rw[cB]at e|-;unfold TL.vl at e;rw[c8]at e;by_cases q:x=k
  ·rw[show decide ((x,u).1=k)=true from decide_eq_true q]at e;cases e
  ·rw[show decide ((x,u).1=k)=false from decide_eq_false q]at e;rw[pS (p:=(x,v)) q]
   exact RTs.vlN h2 e
theorem RTs.pvK{k:κ}{t:T}{v:V}(h0:RT K M ρ t v){ks:List κ}{ts:List T}{vs:List V}(h:RTs K M ρ ts vs):RTs K M ρ (TL.pvK k t ks ts) (TL.pvK k v ks vs):=by
 unfold TL.pvK;split
 ·have:∀{ks:List κ}{ts:List T}{vs:List V},RTs K M ρ ts vs->RTs K M ρ ((ks.zip ts).map fun kv=>if kv.1=k then t else kv.2) ((ks.zip vs).map fun kv=>if kv.1=k then v else kv.2):=by
   intro ks;induction ks with
   |nil=>intro ts vs _;exact .nil
   |cons x ks ih=>
    intro ts vs h;cases ts with
    |nil=>rw[h.nil_inv];exact .nil
    |cons u ts=>
     obtain⟨w,r,rfl,h1,h2⟩:=h.cons_inv;rw[cB,cB,aM,aM]
     refine .cons ?_ (ih h2)
     dsimp only;split
     ·exact h0
     ·exact h1
  exact this h
 ·exact h.append (.cons h0 .nil)
end
variable{c:Nat}{ks:List (List Key)}
noncomputable def kyT:T->Option Key
 | .int i=>some (.inl i)
 |_=>none
def aJL:List T->Option (List Key)
 | []=>some []
 |t::ts=>(kyT t).bind fun k=>(aJL ts).map fun ks=>k::ks
def ktT:T->Option (List Key)
 | .tup ts=>aJL ts
 |_=>none
noncomputable def dkc(C:Sto):T->Option (Nat×List Key×List T)
 | .cell c=>(C[c]?).bind fun x=>match x.1 with
   | .dk ks=>some (c,ks,x.2)
   |_=>none
 |_=>none
noncomputable def dtc(C:Sto):T->Option (Nat×List (List Key)×List T)
 | .cell c=>(C[c]?).bind fun x=>match x.1 with
   | .dt ks=>some (c,ks,x.2)
   |_=>none
 |_=>none
noncomputable def dzc(C:Sto):T->Option (Nat×List (List Key)×List T)
 | .cell c=>(C[c]?).bind fun x=>match x.1 with
   | .dt ks=>some (c,ks,x.2)
   | .dz ks=>some (c,ks,x.2)
   |_=>none
 |_=>none
theorem aCR{C:Sto}{t:T}{ks:List Key}{ts:List T}(h:dkc C t=some (c,ks,ts)):t=.cell c/\C[c]?=some (.dk ks,ts):=by
 unfold dkc at h;split at h
 ·obtain⟨⟨k,us⟩,e,h⟩:=aK.mp h;dsimp only at h;split at h
  ·cases h;exact⟨rfl,e⟩
  ·cases h
 ·cases h
theorem aGr{C:Sto}{t:T}{ts:List T}(h:dtc C t=some (c,ks,ts)):t=.cell c/\C[c]?=some (.dt ks,ts):=by
 unfold dtc at h;split at h
 ·obtain⟨⟨k,us⟩,e,h⟩:=aK.mp h;dsimp only at h;split at h
  ·cases h;exact⟨rfl,e⟩
  ·cases h
 ·cases h
theorem aH1{C:Sto}{t:T}{ts:List T}(h:dzc C t=some (c,ks,ts)):t=.cell c/\(C[c]?=some (.dt ks,ts)\/C[c]?=some (.dz ks,ts)):=by
 unfold dzc at h;split at h
 ·obtain⟨⟨k,us⟩,e,h⟩:=aK.mp h;dsimp only at h;split at h
  ·cases h;exact⟨rfl,.inl e⟩
  ·cases h;exact⟨rfl,.inr e⟩
  ·cases h
 ·cases h
section
variable {K:aO}{W:XW}{σ:St}{H:Hp}{Q:VK}{D:Ends}{M:Hp}{ρ:Rho}
variable{fk fv fd:FE}{td tk:T}
theorem aAP{t:T}{v:V}{k:Key}(h:RT K M ρ t v)(e:kyT t=some k):v=kV k:=by
 unfold kyT at e;split at e
 ·cases e;exact h.int_inv
 ·cases e
theorem aD1:∀{ts:List T}{vs:List V}{ks:List Key},RTs K M ρ ts vs->aJL ts=some ks->vs=ks.map kV
 | [],_,_,h,e=>by cases e;exact h.nil_inv
 |t::ts,vs,ks,h,e=>by
  obtain⟨v,r,rfl,h1,h2⟩:=h.cons_inv;unfold aJL at e;obtain⟨k,e1,e⟩:=aK.mp e;obtain⟨ks',e2,e⟩:=aL.mp e;cases e;rw[aAP h1 e1,aD1 h2 e2];rfl
theorem aG2{Z:Addr->Prop}{t:T}{v:V}{k:List Key}(h:RT K (mask H Z ρ) ρ t v)(e:ktT t=some k):∃b,v=.ref b/\H b=some (.tup (k.map kV)):=by
 unfold ktT at e;split at e
 ·unfold RT at h;obtain⟨a,vs,e1,q,r⟩:=h
  exact⟨a,e1,by rw[(lK.mp q).2.2,aD1 r e]⟩
 ·cases e
theorem Rel.dk{H₀:Hp}{Z:Addr->Prop}{τ:TSt}{C:Sto}{t:T}{v:V}{c:Nat}{ks:List Key}{ts:List T}(R:Rel K H₀ Z ρ τ C σ H)(h:RT K (mask H Z ρ) ρ t v)(e:dkc C t=some (c,ks,ts)):
 ∃a vs,v=.ref a/\ρ[c]?=some a/\ks.length=vs.length/\H a=some (.dK (ks.zip vs))/\RTs K (mask H Z ρ) ρ ts vs:=by
 obtain⟨rfl,e0⟩:=aCR e;unfold RT at h;obtain⟨a,ev,q⟩:=h;obtain⟨x,vs,ob,h1,h2,h3,h4⟩:=R.cel c a q;rw[e0]at h1;cases h1;obtain⟨hl,rfl⟩:=h3
 exact⟨a,vs,ev,q,hl,h2,h4⟩
theorem Rel.dt{H₀:Hp}{Z:Addr->Prop}{τ:TSt}{C:Sto}{t:T}{v:V}{c:Nat}{ks:List (List Key)}{ts:List T}(R:Rel K H₀ Z ρ τ C σ H)(h:RT K (mask H Z ρ) ρ t v)(e:dtc C t=some (c,ks,ts)):
 ∃a vs,v=.ref a/\ρ[c]?=some a/\ks.length=vs.length/\H a=some (.dT (ks.zip vs))/\RTs K (mask H Z ρ) ρ ts vs:=by
 obtain⟨rfl,e0⟩:=aGr e;unfold RT at h;obtain⟨a,ev,q⟩:=h;obtain⟨x,vs,ob,h1,h2,h3,h4⟩:=R.cel c a q;rw[e0]at h1;cases h1;obtain⟨hl,rfl⟩:=h3
 exact⟨a,vs,ev,q,hl,h2,h4⟩
theorem Rel.dz{H₀:Hp}{Z:Addr->Prop}{τ:TSt}{C:Sto}{t:T}{v:V}{c:Nat}{ks:List (List Key)}{ts:List T}(R:Rel K H₀ Z ρ τ C σ H)(h:RT K (mask H Z ρ) ρ t v)(e:dzc C t=some (c,ks,ts)):
 ∃a vs,v=.ref a/\ρ[c]?=some a/\ks.length=vs.length/\Rd H a (.dT (ks.zip vs))/\RTs K (mask H Z ρ) ρ ts vs:=by
 obtain⟨rfl,e0⟩:=aH1 e;unfold RT at h;obtain⟨a,ev,q⟩:=h;obtain⟨x,vs,ob,h1,h2,h3,h4⟩:=R.cel c a q;rcases e0 with e0|e0
 ·rw[e0]at h1;cases h1;obtain⟨hl,rfl⟩:=h3
  exact⟨a,vs,ev,q,hl,.inl h2,h4⟩
 ·rw[e0]at h1;cases h1;obtain⟨hl,o,rfl⟩:=h3
  exact⟨a,vs,ev,q,hl,.inr ⟨o,h2⟩,h4⟩
noncomputable def uV(kd:Kd):FE:=fun _ C=>some (.cell C.length,C++[(kd,[])])
theorem aJm(h:trE K (uV (.dk [])) σ H Q):tDNewK σ H Q:=by
 obtain⟨H₀,Z,ρ,τ,C,t,C',R,e,k⟩:=h;cases e;intro p hp;obtain⟨R1,s1,r1⟩:=R.alloc_cl (kd:=.dk []) (ts:=[]) (vs:=[]) (ob:=.dK []) hp ⟨rfl,rfl⟩ .nil
 exact k _ _ _ R1 r1 s1
theorem aJ2(h:trE K (uV (.dt [])) σ H Q):tDNewT σ H Q:=by
 obtain⟨H₀,Z,ρ,τ,C,t,C',R,e,k⟩:=h;cases e;intro p hp;obtain⟨R1,s1,r1⟩:=R.alloc_cl (kd:=.dt []) (ts:=[]) (vs:=[]) (ob:=.dT []) hp ⟨rfl,rfl⟩ .nil
 exact k _ _ _ R1 r1 s1
def t7(fk fv:FE):FE:=fun τ C=>(fk τ (C++[(.dk [],[])])).bind fun p=>(fv τ p.2).bind fun q=>(kyT p.1).bind fun k=>match dkc q.2 (.cell C.length)with
 |some (_,[],[])=>some (.cell C.length,q.2.set C.length (.dk [k],[q.1]))
 |_=>none
theorem aKU(h:trE K (t7 fk fv) σ H Q):tDisp [(trE K fk,trE K fv)] σ H Q:=by
 obtain⟨H₀,Z,ρ,τ,C,t,C',R,e,k⟩:=h;intro p hp;unfold t7 at e;obtain⟨⟨t1,C1⟩,e1,e⟩:=aK.mp e;obtain⟨⟨t2,C2⟩,e2,e⟩:=aK.mp e;obtain⟨ky,e3,e⟩:=aK.mp e;dsimp only at e2 e;split at e
 ·rename_i e4;cases e;obtain⟨R1,s1,r1⟩:=R.alloc_cl (kd:=.dk []) (ts:=[]) (vs:=[]) (ob:=.dK []) hp ⟨rfl,rfl⟩ .nil
  refine⟨H₀,Z,_,τ,_,t1,C1,R1,e1,fun x H1 ρ1 R1' h1 s2=>?_⟩
  refine⟨H₀,Z,ρ1,τ,C1,t2,C2,R1',e2,fun y H2 ρ2 R2 h2 s3=>?_⟩
  have r3:=(r1.step s2).step s3;obtain⟨a,vs,ev,q,hl,hH,hr⟩:=R2.dk r3 e4;have ec:=(aCR e4).1;cases ec;cases ev;rw[hr.nil_inv]at hH
  refine⟨hH,[(ky,y)],by rw[aAP h1 e3];rfl,by simp,?_⟩
  obtain⟨w1,w2⟩:=R2.put (kd:=.dk [ky]) (ts:=[t2]) (vs:=[y]) (ob:=.dK [(ky,y)]) q (by rw[hH];trivial) ⟨rfl,rfl⟩ (.cons h2 .nil)
  exact k _ _ ρ2 w1 (r3.step w2) (((s1.trans s2).trans s3).trans w2)
 ·cases e
def dval(C:Sto)(td tk:T):Option (Option T):=match dkc C td with
 |some x=>(kyT tk).map fun k=>vl (x.2.1.zip x.2.2) k
 |none=>(dzc C td).bind fun x=>(ktT tk).map fun k=>vl (x.2.1.zip x.2.2) k
theorem Rel.dval{H₀:Hp}{Z:Addr->Prop}{τ:TSt}{C:Sto}{x y:V}{o:Option T}(R:Rel K H₀ Z ρ τ C σ H)(h1:RT K (mask H Z ρ) ρ td x)(h2:RT K (mask H Z ρ) ρ tk y)(e:TL.dval C td tk=some o):
 ∃a w,x=.ref a/\IsD H a/\p8 H a y w/\match o with
  |some t=>∃v,w=some v/\RT K (mask H Z ρ) ρ t v
  |none=>w=none:=by
 unfold TL.dval at e;split at e
 ·rename_i z hz;obtain⟨c,ks,ts⟩:=z;obtain⟨k,e1,e⟩:=aL.mp e;obtain⟨a,vs,ev,q,hl,hH,hr⟩:=R.dk h1 hz
  refine⟨a,_,ev,.inl ⟨_,.inl hH⟩,by rw[aAP h2 e1];exact p8.k hH,?_⟩
  cases o with
  |some t=>exact hr.vl e
  |none=>exact hr.vlN e
 ·obtain⟨⟨c,ks,ts⟩,hz,e⟩:=aK.mp e;obtain⟨k,e1,e⟩:=aL.mp e;obtain⟨a,vs,ev,q,hl,hH,hr⟩:=R.dz h1 hz;obtain⟨b,eb,hb⟩:=aG2 h2 e1
  refine⟨a,_,ev,.inr ⟨_,hH⟩,.inr ⟨_,k,b,hH,eb,hb,rfl⟩,?_⟩
  cases o with
  |some t=>exact hr.vl e
  |none=>exact hr.vlN e
def aEB(td tk:T)(C:Sto):Option (T×Sto):=match dval C td tk with
 |some (some t)=>some (t,C)
 |_=>none
abbrev zQ(fd fk:FE):FE:=i8 fd fk aEB
theorem aM6(h:trE K (zQ fd fk) σ H Q):tDGet (trE K fd) (trE K fk) σ H Q:=by
 refine iX (aEv h) fun x H1 q=>iX q fun y H2 q=>?_
 obtain⟨t1,t2,H₀,Z,ρ,τ,C,t,C',R,r,e,k⟩:=q;obtain⟨_,_,z,r1,r⟩:=r.cons_inv;cases z;obtain⟨_,_,z,r2,r⟩:=r.cons_inv;cases z;unfold aEB at e;split at e
 ·rename_i u hu;cases e;obtain⟨a,w,ex,_,g,v,ew,rv⟩:=R.dval r1 r2 hu;subst ew
  exact⟨a,v,ex,g,k v H2 ρ R rv .refl⟩
 ·cases e
def wB(b:Bool)(tk td:T)(C:Sto):Option (T×Sto):=(dval C td tk).map fun o=>(.bl (o.isSome==b),C)
theorem aLi{x y:V}{H2:Hp}(b:Bool)(q:∃t1 t2,trV K σ [t1,t2] [y,x] (wB b t1 t2) H2 Q):∃a o,x=.ref a/\p8 H2 a y o/\Q (.bl (o.isSome==b)) H2:=by
 obtain⟨t1,t2,H₀,Z,ρ,τ,C,t,C',R,r,e,k⟩:=q;obtain⟨_,_,z,r1,r⟩:=r.cons_inv;cases z;obtain⟨_,_,z,r2,r⟩:=r.cons_inv;cases z;unfold wB at e;obtain⟨o,e1,e⟩:=aL.mp e;cases e;obtain⟨a,w,ex,_,g,hw⟩:=R.dval r2 r1 e1
 refine⟨a,w,ex,g,?_⟩
 cases o with
 |some t=>obtain⟨v,ew,rv⟩:=hw;subst ew;exact k _ H2 ρ R .bl .refl
 |none=>subst hw;exact k _ H2 ρ R .bl .refl
theorem aNq(h:trE K (i8 fk fd (wB true)) σ H Q):tDIn (trE K fk) (trE K fd) σ H Q:=by
 refine iX (aEv h) fun x H1 q=>iX q fun y H2 q=>?_
 obtain⟨a,o,ex,g,q⟩:=aLi true q
 exact⟨a,o,ex,g,by cases o<;>exact q⟩
theorem aMi(h:trE K (i8 fk fd (wB false)) σ H Q):tDNotIn (trE K fk) (trE K fd) σ H Q:=by
 refine iX (aEv h) fun x H1 q=>iX q fun y H2 q=>?_
 obtain⟨a,o,ex,g,q⟩:=aLi false q
 exact⟨a,o,ex,g,by cases o<;>exact q⟩
def isDc(C:Sto)(t:T):Bool:=(dkc C t).isSome||(dzc C t).isSome
theorem Rel.isDc{H₀:Hp}{Z:Addr->Prop}{τ:TSt}{C:Sto}{t:T}{v:V}(R:Rel K H₀ Z ρ τ C σ H)(h:RT K (mask H Z ρ) ρ t v)(e:TL.isDc C t=true):∃a,v=.ref a/\IsD H a:=by
 unfold TL.isDc at e;rcases Bool.or_eq_true_iff.mp e with e|e
 ·obtain⟨⟨c,ks,ts⟩,e⟩:=cP.mp e;obtain⟨a,vs,ev,q,hl,hH,hr⟩:=R.dk h e
  exact⟨a,ev,.inl ⟨_,.inl hH⟩⟩
 ·obtain⟨⟨c,ks,ts⟩,e⟩:=cP.mp e;obtain⟨a,vs,ev,q,hl,hH,hr⟩:=R.dz h e
  exact⟨a,ev,.inr ⟨_,hH⟩⟩
def t9(fd fk fx:FE):FE:=fun τ C=>(fd τ C).bind fun p=>if isDc p.2 p.1=true then(fk τ p.2).bind fun q=>(fx τ q.2).bind fun r=>(dval r.2 p.1 q.1).map fun o=>(o.getD r.1,r.2)else none
theorem aKc{fx:FE}(h:trE K (t9 fd fk fx) σ H Q):tDGet2 (trE K fd) (trE K fk) (trE K fx) σ H Q:=by
 obtain⟨H₀,Z,ρ,τ,C,t,C',R,e,k⟩:=h;unfold t9 at e;obtain⟨⟨t1,C1⟩,e1,e⟩:=aK.mp e;dsimp only at e;split at e
 ·rename_i hd;obtain⟨⟨t2,C2⟩,e2,e⟩:=aK.mp e;obtain⟨⟨t3,C3⟩,e3,e⟩:=aK.mp e;obtain⟨o,e4,e⟩:=aL.mp e;cases e;dsimp only at e3 e4
  refine⟨H₀,Z,ρ,τ,C,t1,C1,R,e1,fun x H1 ρ1 R1 h1 s1=>?_⟩
  obtain⟨a,ea,hD⟩:=R1.isDc h1 hd
  refine⟨a,ea,hD,?_⟩
  refine⟨H₀,Z,ρ1,τ,C1,t2,C2,R1,e2,fun y H2 ρ2 R2 h2 s2=>?_⟩
  refine⟨H₀,Z,ρ2,τ,C2,t3,C3,R2,e3,fun z H3 ρ3 R3 h3 s3=>?_⟩
  obtain⟨a',w,ex,_,g,hw⟩:=R3.dval ((h1.step s2).step s3) (h2.step s3) e4;rw[ea]at ex;cases ex
  refine⟨w,g,?_⟩
  cases o with
  |some u=>obtain⟨v,ew,rv⟩:=hw;subst ew;exact k _ H3 ρ3 R3 rv ((s1.trans s2).trans s3)
  |none=>subst hw;exact k _ H3 ρ3 R3 h3 ((s1.trans s2).trans s3)
 ·cases e
def dput(C:Sto)(td tk tv:T):Option Sto:=match dkc C td with
 |some x=>(kyT tk).bind fun k=>if x.2.1.length<lim then some (C.set x.1 (.dk (pkK k x.2.1),pvK k tv x.2.1 x.2.2))else none
 |none=>(dtc C td).bind fun x=>(ktT tk).bind fun k=>if x.2.1.length<lim then some (C.set x.1 (.dt (pkK k x.2.1),pvK k tv x.2.1 x.2.2))else none
theorem Rel.dput(hz:lim<=sizeLine){H₀:Hp}{Z:Addr->Prop}{τ:TSt}{C C':Sto}{tv:T}{x y v:V}(R:Rel K H₀ Z ρ τ C σ H)(h1:RT K (mask H Z ρ) ρ td x)(h2:RT K (mask H Z ρ) ρ tk y)(h3:RT K (mask H Z ρ) ρ tv v)(e:TL.dput C td tk tv=some C'):
 ∃a H',x=.ref a/\zA H a y v H'/\Rel K H₀ Z ρ τ C' σ H'/\Step H H' ρ ρ:=by
 unfold TL.dput at e;split at e
 ·rename_i z hz';obtain⟨c,ks,ts⟩:=z;obtain⟨k,e1,e⟩:=aK.mp e;dsimp only at e;split at e
  ·rename_i hlim;cases e;obtain⟨a,vs,ev,q,hl,hH,hr⟩:=R.dk h1 hz';obtain⟨w1,w2⟩:=R.put (kd:=.dk (pkK k ks)) (ob:=.dK ((pkK k ks).zip (pvK k v ks vs))) q (by rw[hH];trivial) ⟨aDc hl,rfl⟩ (hr.pvK (k:=k) (ks:=ks) h3)
   refine⟨a,_,ev,?_,w1,w2⟩
   rw[aAP h2 e1,<-yH hl]
   exact zA.k hH (by rw[dC];lia)
  ·cases e
 ·obtain⟨⟨c,ks,ts⟩,hz',e⟩:=aK.mp e;obtain⟨k,e1,e⟩:=aK.mp e;dsimp only at e;split at e
  ·rename_i hlim;cases e;obtain⟨a,vs,ev,q,hl,hH,hr⟩:=R.dt h1 hz';obtain⟨w1,w2⟩:=R.put (kd:=.dt (pkK k ks)) (ob:=.dT ((pkK k ks).zip (pvK k v ks vs))) q (by rw[hH];trivial) ⟨aDc hl,rfl⟩ (hr.pvK (k:=k) (ks:=ks) h3);obtain⟨b,eb,hb⟩:=aG2 h2 e1
   refine⟨a,_,ev,?_,w1,w2⟩
   rw[eb,<-yH hl]
   exact zA.t hH hb (by rw[dC];lia)
  ·cases e
def wD(fd fk fv:FE):FS:=fun τ C=>(fv τ C).bind fun p=>(fd τ p.2).bind fun q=>(fk τ q.2).bind fun r=>(dput r.2 q.1 r.1 p.1).map fun C'=>(.nx,τ,C')
theorem aNb(hz:lim<=sizeLine)(h:trS K W (wD fd fk fv) D σ H):sDPut (trE K fd) (trE K fk) (trE K fv) D σ H:=by
 obtain⟨H₀,Z,ρ,τ,C,fl,τ',C',R,e,k⟩:=h;unfold wD at e;obtain⟨⟨t1,C1⟩,e1,e⟩:=aK.mp e;obtain⟨⟨t2,C2⟩,e2,e⟩:=aK.mp e;obtain⟨⟨t3,C3⟩,e3,e⟩:=aK.mp e;obtain⟨C4,e4,e⟩:=aL.mp e;cases e;dsimp only at e2 e3 e4
 refine⟨H₀,Z,ρ,τ,C,t1,C1,R,e1,fun v H1 ρ1 R1 h1 s1=>?_⟩
 refine⟨H₀,Z,ρ1,τ,C1,t2,C2,R1,e2,fun x H2 ρ2 R2 h2 s2=>?_⟩
 refine⟨H₀,Z,ρ2,τ,C2,t3,C3,R2,e3,fun y H3 ρ3 R3 h3 s3=>?_⟩
 obtain⟨a,H4,ex,g,R4,s4⟩:=R3.dput hz (h2.step s3) h3 ((h1.step s2).step s3) e4
 exact⟨a,H4,ex,g,k σ H4 ρ3 R4 (((s1.trans s2).trans s3).trans s4)⟩
def zW(g:Int->Int->Int)(fd fk fv:FE):FS:=fun τ C=>(fd τ C).bind fun p=>(fk τ p.2).bind fun q=>match dval q.2 p.1 q.1 with
 |some (some (.int i))=>(fv τ q.2).bind fun r=>match r.1 with
  | .int j=>(dput r.2 p.1 q.1 (.int (g i j))).map fun C'=>(.nx,τ,C')
  |_=>none
 |_=>none
theorem aLU(hz:lim<=sizeLine){g:Int->Int->Int}{rd:V->V->Hp->VK->Prop}(hrd:∀i j H Q,Q (.int (g i j)) H->rd (.int i) (.int j) H Q)(h:trS K W (zW g fd fk fv) D σ H):sDAug (trE K fd) (trE K fk) (trE K fv) rd D σ H:=by
 obtain⟨H₀,Z,ρ,τ,C,fl,τ',C',R,e,k⟩:=h;unfold zW at e;obtain⟨⟨t1,C1⟩,e1,e⟩:=aK.mp e;obtain⟨⟨t2,C2⟩,e2,e⟩:=aK.mp e;dsimp only at e2 e;split at e
 ·rename_i i hv;obtain⟨⟨t3,C3⟩,e3,e⟩:=aK.mp e;dsimp only at e;split at e
  ·rename_i j;obtain⟨C4,e4,e⟩:=aL.mp e;cases e
   refine⟨H₀,Z,ρ,τ,C,t1,C1,R,e1,fun x H1 ρ1 R1 h1 s1=>?_⟩
   refine⟨H₀,Z,ρ1,τ,C1,t2,C2,R1,e2,fun y H2 ρ2 R2 h2 s2=>?_⟩
   obtain⟨a,w,ex,_,gg,v,ew,rv⟩:=R2.dval (h1.step s2) h2 hv;subst ew
   refine⟨a,v,ex,gg,?_⟩
   refine⟨H₀,Z,ρ2,τ,C2,_,C3,R2,e3,fun z H3 ρ3 R3 h3 s3=>?_⟩
   rw[rv.int_inv,h3.int_inv]
   refine hrd i j H3 _ ?_
   obtain⟨a',H4,ex',g4,R4,s4⟩:=R3.dput hz ((h1.step s2).step s3) (h2.step s3) (v:=.int (g i j)) (.int) e4;rw[ex]at ex';cases ex'
   exact⟨H4,g4,k σ H4 ρ3 R4 (((s1.trans s2).trans s3).trans s4)⟩
  ·cases e
 ·cases e
end
noncomputable def od{α:Type}:List α->List α
 |_::y::r=>y::od r
 |_=>[]
def aFT(f:FE):FN:=fun τ C=>(f τ C).bind fun p=>(liT p.2 p.1).map fun ts=>(od ts,p.2)
section
variable {K:aO}{W:XW}{σ:St}{H:Hp}{Q:VK}{D:Ends}{M:Hp}{ρ:Rho}
variable{H1:Hp}{ρ1:Rho}
theorem RTs.od:∀{ts:List T}{vs:List V},RTs K M ρ ts vs->RTs K M ρ (TL.od ts) (TL.od vs)
 | [],_,h=>by rw[h.nil_inv];exact .nil
 | [t],vs,h=>by
   obtain⟨v,r,rfl,_,h2⟩:=h.cons_inv;rw[h2.nil_inv];exact .nil
 |t::u::ts,vs,h=>by
  obtain⟨v,r,rfl,_,h2⟩:=h.cons_inv;obtain⟨w,r,rfl,h3,h4⟩:=h2.cons_inv;unfold TL.od
  exact .cons h3 (RTs.od h4)
theorem aNS{f:FE}(h:trN K (aFT f) σ H Q):trE K f σ H fun x H1=>∃a xs,x=.ref a/\SqL K H1 a xs/\∀p,H1 p=none->Q (.ref p) (upd H1 p (.lst (od xs))):=by
 obtain⟨H₀,Z,ρ,τ,C,ys,C',R,e,q⟩:=h;unfold aFT at e;obtain⟨⟨t,C1⟩,e1,e⟩:=aK.mp e;obtain⟨ts,e2,e⟩:=aL.mp e;cases e
 refine⟨H₀,Z,ρ,τ,C,t,_,R,e1,fun v H1 ρ1 R1 h1 s1=>?_⟩
 obtain⟨a,vs,ev,qa,r⟩:=R1.li h1 e2
 exact⟨a,vs,ev,qa,fun p hp=>q p H1 ρ1 _ R1 hp r.od s1⟩
def Ite(K:aO)(l:Addr):It:=
 ⟨fun i H=>∃xs x,SqL K H l xs/\xs[i]?=some x,fun i H v H'=>∃p x,H p=none/\v=.ref p/\H'=upd H p (.tup [.int i,x])/\∀xs,SqL K H l xs->xs[i]?=some x,fun i H=>∃xs,SqL K H l xs/\xs.length<=i⟩
def aHU(K:aO)(t:TA):TI:=fun σ H R=>t σ H fun vs H1=>∃l,vs=[.ref l]/\(∃xs,SqL K H1 l xs)/\R (Ite K l) H1
noncomputable def tQ(ts:List T):List T:=ts.zipIdx.map fun p=>.tup [.int p.2,p.1]
theorem aIO{ts:List T}{i:Nat}:(tQ ts)[i]?=(ts[i]?).map fun t=>.tup [.int i,t]:=by
 unfold tQ;rw[bJ,dS];cases ts[i]?<;>simp
theorem aBC{ts:List T}:(tQ ts).length=ts.length:=by simp[tQ]
theorem aCL{Z:Addr->Prop}{H₀:Hp}{τ:TSt}{C:Sto}{σ:L2.St}{t:T}{ts:List T}{a:Addr}(R1:Rel K H₀ Z ρ1 τ C σ H1)(h1:RT K (mask H1 Z ρ1) ρ1 t (.ref a))(e1:liT C t=some ts):
 Wlk K (Ite K a) Z H1 ρ1 (tQ ts) (stays t ts):=by
 refine⟨fun i t' H₀ Z' ρ' τ' C' σ H ht R' sm ix st' _=>?_,fun H₀ Z' ρ' τ' C' σ H R' sm ix st' _=>?_⟩
 ·obtain⟨ws,q1,r1⟩:=l5 R1 h1 e1 R' sm ix st';rw[aIO]at ht;obtain⟨u,z1,rfl⟩:=aL.mp ht;obtain⟨v1,hv1,rv1⟩:=r1.get z1
  refine⟨⟨ws,v1,q1,hv1⟩,fun x H' hy=>?_⟩
  obtain⟨p,y,hp,rfl,rfl,k1⟩:=hy;have w1:=k1 ws q1;rw[hv1]at w1;cases w1
  exact⟨fun b u h=>by rw[fQ (fun z=>by rw[z,hp]at h;cases h)];exact h,R'.alloc_tup hp (.cons .int (.cons rv1 .nil))⟩
 ·obtain⟨ws,q1,r1⟩:=l5 R1 h1 e1 R' sm ix st'
  exact⟨ws,q1,by rw[r1.length,aBC];exact bI _⟩
def yM(f:FE)(g:FG)(F:FS):FS:=fun τ C=>(f τ C).bind fun p=>(liT p.2 p.1).bind fun ts=>kH (stays p.1 ts) g F (tQ ts) τ p.2
theorem aLI{f:FE}{g:FG}{F:FS}(h:trS K W (yM f g F) D σ H):aIM (aHU K (trA K (fB f fJ))) (trG K g) (trS K W F) D σ H:=by
 obtain⟨H₀,Z,ρ,τ,C,fl,τ',C',R,e,k⟩:=h;unfold yM at e;obtain⟨⟨t,C1⟩,e1,e⟩:=aK.mp e;obtain⟨ts,e2,e⟩:=aK.mp e
 refine⟨H₀,Z,ρ,τ,C,[t],C1,R,by simp[fB,fJ,e1],fun vs H1 ρ1 R1 h1 s1=>?_⟩
 obtain⟨v,r,rfl,q1,q2⟩:=h1.cons_inv;rw[q2.nil_inv];obtain⟨a,vs,ea,qa,ra⟩:=R1.li q1 e2;subst ea
 exact⟨a,rfl,⟨vs,qa⟩,v3 R1 (nW e2) e (aCL R1 q1 e2) fun σ' H' ρ' R' s'=>k σ' H' ρ' R' (s1.trans s')⟩
def uO(f:FE)(k:Nat)(is:List Nat)(g:FG)(tc:FB)(fe:FE):FN:=fun τ C=>(f τ C).bind fun p=>(liT p.2 p.1).bind fun ts=>if(tQ ts).length<lim then jG g tc fe (scT k is τ) (tQ ts) p.2 else none
theorem aJy{f:FE}{k:Nat}{is:List Nat}{g:FG}{tc:FB}{fe:FE}(hg:Own k g)(h:trN K (uO f k is g tc fe) σ H Q):xK (aHU K (trA K (fB f fJ))) (scV k is) (trG K g) (trT K tc) (trE K fe) σ H Q:=by
 obtain⟨H₀,Z,ρ,τ,C,ys,C',R,e,q⟩:=h;unfold uO at e;obtain⟨⟨t,C1⟩,e1,e⟩:=aK.mp e;obtain⟨ts,e2,e⟩:=aK.mp e;split at e
 ·rename_i hl
  refine⟨H₀,Z,ρ,τ,C,[t],C1,R,by simp[fB,fJ,e1],fun vs H1 ρ1 R1 h1 s1=>?_⟩
  obtain⟨v,r,rfl,q1,q2⟩:=h1.cons_inv;rw[q2.nil_inv];obtain⟨a,vs,ea,qa,ra⟩:=R1.li q1 e2;subst ea
  exact⟨a,rfl,⟨vs,qa⟩,fun D hD=>qF R1 hg (aCL R1 q1 e2) (nW e2) qZ hl e hD fun p H' ρ' vs R' hp rv s'=>q p H' ρ' vs R' hp rv (s1.trans s')⟩
 ·cases e
def mrgK{α:Type}:List Key->List α->List Key×List α->List Key×List α
 |k::ks,v::vs,x=>mrgK ks vs (pkK k x.1,pvK k v x.1 x.2)
 |_,_,x=>x
theorem aD0:∀{ks':List Key}{vs':List V}{ks:List Key}{vs:List V},ks.length=vs.length->ks'.length=vs'.length->
 pK (ks.zip vs) (ks'.zip vs')=(mrgK ks' vs' (ks,vs)).1.zip (mrgK ks' vs' (ks,vs)).2/\(mrgK ks' vs' (ks,vs)).1.length=(mrgK ks' vs' (ks,vs)).2.length
 | [],_,ks,vs,h,_=>by unfold mrgK;exact⟨rfl,h⟩
 |_::_,[],ks,vs,h,h'=>by cases h'
 |k::ks',v::vs',ks,vs,h,h'=>by
  rw[cB];show pK (putK (ks.zip vs) k v) (ks'.zip vs')=_/\_;rw[yH h];unfold mrgK
  exact aD0 (aDc h) (by simpa using h')
theorem RTs.mrgK:∀{ks':List Key}{ts':List T}{vs':List V}{ks:List Key}{ts:List T}{vs:List V},RTs K M ρ ts' vs'->RTs K M ρ ts vs->(TL.mrgK ks' ts' (ks,ts)).1=(TL.mrgK ks' vs' (ks,vs)).1/\RTs K M ρ (TL.mrgK ks' ts' (ks,ts)).2 (TL.mrgK ks' vs' (ks,vs)).2
 | [],_,_,ks,ts,vs,_,h=>by unfold TL.mrgK;exact⟨rfl,h⟩
 |_::_,[],vs',ks,ts,vs,h',h=>by rw[h'.nil_inv];unfold TL.mrgK;exact⟨rfl,h⟩
 |k::ks',t::ts',vs',ks,ts,vs,h',h=>by
  obtain⟨v,r,rfl,h1,h2⟩:=h'.cons_inv;unfold TL.mrgK
  exact RTs.mrgK h2 (h.pvK (k:=k) (ks:=ks) h1)
def tDUpd(td te:TE):TE:=fun σ H Q=>td σ H fun x H1=>∃a,x=.ref a/\IsD H1 a/\te σ H1 fun y H2=>∃b kvs more,y=.ref b/\a≠b/\H2 a=some (.dK kvs)/\H2 b=some (.dK more)/\kvs.length+more.length<=sizeLine/\Q .non (upd H2 a (.dK (pK kvs more)))
def y6(fd fe:FE):FE:=fun τ C=>(fd τ C).bind fun p=>if isDc p.2 p.1=true then(fe τ p.2).bind fun q=>(dkc q.2 p.1).bind fun x=>(dkc q.2 q.1).bind fun y=>if x.1≠y.1/\x.2.1.length+y.2.1.length<=lim then
 some (.non,q.2.set x.1 (.dk (mrgK y.2.1 y.2.2 (x.2.1,x.2.2)).1,(mrgK y.2.1 y.2.2 (x.2.1,x.2.2)).2))else none else none
theorem aMQ(hz:lim<=sizeLine){fd fe:FE}(h:trE K (y6 fd fe) σ H Q):tDUpd (trE K fd) (trE K fe) σ H Q:=by
 obtain⟨H₀,Z,ρ,τ,C,t,C',R,e,k⟩:=h;unfold y6 at e;obtain⟨⟨t1,C1⟩,e1,e⟩:=aK.mp e;dsimp only at e;split at e
 ·rename_i hd;obtain⟨⟨t2,C2⟩,e2,e⟩:=aK.mp e;obtain⟨⟨c,ks,ts⟩,e3,e⟩:=aK.mp e;obtain⟨⟨c',ks',ts'⟩,e4,e⟩:=aK.mp e;dsimp only at e3 e4 e;split at e
  ·rename_i hl;cases e
   refine⟨H₀,Z,ρ,τ,C,t1,C1,R,e1,fun x H1 ρ1 R1 h1 s1=>?_⟩
   obtain⟨a,ea,hD⟩:=R1.isDc h1 hd
   refine⟨a,ea,hD,?_⟩
   refine⟨H₀,Z,ρ1,τ,C1,t2,C2,R1,e2,fun y H2 ρ2 R2 h2 s2=>?_⟩
   obtain⟨a',vs,ev,q,hl1,hH,hr⟩:=R2.dk (h1.step s2) e3;rw[ea]at ev;cases ev;obtain⟨b,vs',ev',q',hl2,hH',hr'⟩:=R2.dk h2 e4;have hab:a≠b:=fun z=>by
    subst z;obtain⟨i1,j1⟩:=aP.mp q;obtain⟨i2,j2⟩:=aP.mp q'
    exact hl.1 ((aO3 R2.nd).mp (j1.trans j2.symm))
   refine⟨b,_,_,ev',hab,hH,hH',by rw[dC,dC];lia,?_⟩
   obtain⟨z1,z2⟩:=aD0 (ks':=ks') (vs':=vs') hl1 hl2;obtain⟨z3,z4⟩:=RTs.mrgK (ks':=ks') (ks:=ks) hr' hr;rw[z1];obtain⟨w1,w2⟩:=R2.put (kd:=.dk (mrgK ks' ts' (ks,ts)).1) (ob:=.dK ((mrgK ks' vs' (ks,vs)).1.zip (mrgK ks' vs' (ks,vs)).2)) q (by rw[hH];trivial) ⟨by rw[z3];exact z2,by rw[z3]⟩ z4
   exact k _ _ ρ2 w1 .non ((s1.trans s2).trans w2)
  ·cases e
 ·cases e
def Itd(a:Addr)(ob:Obj)(kvs:List (List Key×V)):It:=
 ⟨fun i H=>H a=some (.frz ob (.dT kvs))/\i<kvs.length,fun i H x H'=>H'=H/\∃b k v,x=.ref b/\kvs[i]?=some (k,v)/\H b=some (.tup (k.map kV)),fun i H=>H a=some (.frz ob (.dT kvs))/\kvs.length<=i⟩
def iDict(B:Addr->Prop)(t:TE):TI:=fun σ H R=>t σ H fun x H1=>∃a kvs,x=.ref a/\H1 a=some (.dT kvs)/\(B a->∀ob,R (Itd a ob kvs) (upd H1 a (.frz ob (.dT kvs))))
def thaw(B:Addr->Prop)(t:(VK->Prop))(Q:VK):Prop:=t fun v H=>∃a ob u,B a/\H a=some (.frz ob u)/\Q v (upd H a u)
noncomputable def kT:Key->T
 | .inl i=>.int i
 | .inr x=>.str x
def aHY(k:List Key):T:=.tup (k.map kT)
theorem aOa{k:Key}:RT K M ρ (kT k) (kV k):=by cases k<;>(unfold kT RT;rfl)
theorem aHm:∀{k:List Key},RTs K M ρ (k.map kT) (k.map kV)
 | []=>.nil
 |k::ks=>.cons aOa aHm
theorem aIG{Z:Addr->Prop}{a:Addr}{ob:Obj}{ks:List (List Key)}{vs:List V}(hl:ks.length=vs.length)(h1:H1 a=some (.frz ob (.dT (ks.zip vs)))):Wlk K (Itd a ob (ks.zip vs)) Z H1 ρ1 (ks.map aHY) (fun _=>True):=by
 have hz:(ks.zip vs).length=ks.length:=by rw[dC];lia
 refine⟨fun i t' H₀ Z' ρ' τ' C' σ H ht R' sm ix st' fz=>?_,fun H₀ Z' ρ' τ' C' σ H R' sm ix st' fz=>?_⟩
 ·rw[bJ]at ht;obtain⟨k,hk,rfl⟩:=aL.mp ht
  refine⟨⟨fz _ _ _ h1,by rw[hz];exact(aP.mp hk).1⟩,fun x H' hy=>?_⟩
  obtain⟨rfl,b,k',v,rfl,hk',hb⟩:=hy;obtain⟨z1,_⟩:=dQ.mp hk';rw[hk]at z1;cases z1
  refine⟨.refl _,?_⟩
  unfold aHY RT
  refine⟨b,_,rfl,mF (fun z=>?_) (fun z=>?_) hb,aHm⟩
  ·have:=R'.zd b z;rw[hb]at this;exact this
  ·have:=R'.cel_some z;rw[hb]at this;exact this
 ·exact⟨fz _ _ _ h1,by rw[aR,hz];exact bI _⟩
def uI(f:FE)(k:Nat)(is:List Nat)(g:FG)(tc:FB)(fe:FE):FN:=fun τ C=>(f τ C).bind fun p=>(dtc p.2 p.1).bind fun x=>if x.2.1.length<lim/\x.2.1.length=x.2.2.length then
 (jG g tc fe (scT k is τ) (x.2.1.map aHY) (p.2.set x.1 (.dz x.2.1,x.2.2))).bind fun r=>match r.2[x.1]?with
  |some (.dz ks,ts)=>some (r.1,r.2.set x.1 (.dt ks,ts))
  |_=>none else none
theorem aIV{f:FE}{k:Nat}{is:List Nat}{g:FG}{tc:FB}{fe:FE}{B:Addr->Prop}(hg:Own k g)(h:trN K (uI f k is g tc fe) σ H Q):thaw B (xK (iDict B (trE K f)) (scV k is) (trG K g) (trT K tc) (trE K fe) σ H) Q:=by
 obtain⟨H₀,Z,ρ,τ,C,ys,C',R,e,q⟩:=h;unfold uI at e;obtain⟨⟨t,C1⟩,e1,e⟩:=aK.mp e;obtain⟨⟨c,ks,ts⟩,e2,e⟩:=aK.mp e;dsimp only at e2 e;split at e
 ·rename_i hl;obtain⟨⟨zs,C2⟩,e3,e⟩:=aK.mp e;dsimp only at e;split at e
  ·rename_i ks' ts' e4;cases e
   refine⟨H₀,Z,ρ,τ,C,t,C1,R,e1,fun v H1 ρ1 R1 h1 s1=>?_⟩
   obtain⟨a,vs,ev,qa,hlv,hH,hr⟩:=R1.dt h1 e2;subst ev
   refine⟨a,_,rfl,hH,fun hB ob D hD=>?_⟩
   obtain⟨Rf,sf⟩:=R1.put (kd:=.dz ks) (ob:=.frz ob (.dT (ks.zip vs))) qa (by rw[hH];trivial) ⟨hlv,ob,rfl⟩ hr
   refine qF (Q:=fun v H=>∃a ob u,B a/\H a=some (.frz ob u)/\Q v (upd H a u)) (P:=fun _=>True) Rf hg (aIG hlv jC) trivial (fun _ _ _ _=>trivial) (by simpa using hl.1) e3 hD fun p H' ρ' ws R' hp rv s'=>?_
   have qa':=s'.idx _ _ qa;have hf:=s'.fz a ob _ jC;obtain⟨x,us,o2,c1,c2,c4,c3⟩:=R'.cel c a qa';rw[e4]at c1;cases c1;rw[hf]at c2;cases c2;obtain⟨hl2,ob2,z⟩:=c4;have z2:ks.zip vs=ks'.zip us:=by
    injection z with _ z
    injection z
   have nap:a≠p:=fun z=>by rw[z,hp]at hf;cases hf
   refine⟨a,ob,.dT (ks.zip vs),hB,by rw[fQ nap];exact hf,?_⟩
   obtain⟨Rt,em⟩:=R'.put0 (kd:=.dt ks') (ob:=.dT (ks.zip vs)) qa' ⟨hl2,by rw[z2]⟩ c3;have hcomm:upd (upd H' p (.lst ws)) a (.dT (ks.zip vs))=upd (upd H' a (.dT (ks.zip vs))) p (.lst ws):=by
    funext b;unfold upd;by_cases h1:b=a
    ·subst h1;rw[if_pos rfl,if_neg nap,if_pos rfl]
    ·by_cases h2:b=p
     ·rw[if_neg h1,if_pos h2,if_pos h2]
     ·rw[if_neg h1,if_neg h2,if_neg h2,if_neg h1]
   rw[hcomm];have am:a∈ρ1:=bB qa;have am':a∈ρ':=bB qa'
   refine q p _ ρ' ws Rt (by rw[fQ (Ne.symm nap)];exact hp) (by rw[em];exact rv) (s1.trans ⟨fun b o z n=>?_,s'.pre,fun b o u z=>?_⟩)
   ·have ne:b≠a:=fun z=>n (by rw[z];exact am)
    have:=s'.kept b o (by rw[fQ ne];exact z) n
    exact⟨this.1,by rw[fQ ne];exact this.2⟩
   ·have ne:b≠a:=fun y=>by rw[y,hH]at z;cases z
    rw[fQ ne]
    exact s'.fz b o u (by rw[fQ ne];exact z)
  ·cases e
 ·cases e
end
end TL
namespace TL
open PySem PySem.Spec PyProof.Rows L2
structure uB(P:Program)(w:World)(K:aO)(mg:Str->Option Value)(base:Heap)(k:Nat)(x:Str)(n:Nat)(G:List T->Sto->Option (T×Sto)):Prop where
 ex:∃f fd ps,mV P w K mg base CX0 k f fd ps (spS K n G)/\mg x=some (.ref f)/\cF K (.ref f)=true/\Binds K fd ps []
structure rO(P:Program)(w:World)(K:aO)(mg:Str->Option Value)(base:Heap)(k:Nat)(cls:String)(m:Str)(n:Nat)(G:List T->Sto->Option (T×Sto)):Prop where
 ex:∃C f fd ps,bU K mainGlobals (Str.ofString cls)=some (some (.ref C))/\Cls K C/\Meth K C m f/\mV P w K mg base CX0 k f fd ps (spS K n G)/\Binds K fd ps []
structure aH9(P:Program)(w:World)(K:aO)(mg:Str->Option Value)(base:Heap)(k:Nat)(cls:String)(n:Nat)(G:List T->Sto->Option (T×Sto))(dts:List T)(dvs:List V):Prop where
 ex:∃C f fd ps ds,bU K mainGlobals (Str.ofString cls)=some (some (.ref C))/\mg (Str.ofString cls)=some (.ref C)/\Mk K C f/\mV P w K mg base CX0 k f fd ps (spS K n G)/\Binds K fd ps ds/\Vals dvs ds
 rt:∀M ρ,RTs K M ρ dts dvs
section
variable {X:Cx}{e o:Expr}{es:List Expr}{fo fa:FE}{fr:FN}{p pos pos' apos:Pos}
variable{G:List T->Sto->Option (T×Sto)}{cls:String}{pl:Sem Bool}
theorem kR{k n:Nat}{x:Str}(D:uB X.prog X.w X.K X.mg X.base k x n G)(hr:Room k X.A)(ha:QA X (e::es) fr)(hg:Gl X x:=by rfl)(hdb:(x==("__debug__":Str))=false:=by decide)
 (he:starEach (e::es) X.env=(false,eval e X.env)::starEach es X.env:=by rfl)(hpl:(backTo pos (starEach es X.env)).any (·.1)=false:=by rfl):QE X (.Call (.Name x p) (e::es) [] pos) (kZ n G fr):=by
 obtain⟨f,fd,ps,F,hm,hk,hb⟩:=D.ex
 exact(tD (E:=fun _ _ _=>False) F hr hg hm hk hb .nil (fun _ _ _ _ _ _ _ h=>h.elim) ha hdb he hpl).imp fun _ _ _=>aJ9
theorem aA0{k n:Nat}{m:Str}(D:rO X.prog X.w X.K X.mg X.base k cls m n G)(hr:Room k X.A)(ho:QE X o fo)(ha:QA X (e::es) fr)
 (hst:starEach (e::es) X.env=(false,eval e X.env)::starEach es X.env:=by rfl)(hpl:(backTo pos (starEach es X.env)).any (·.1)=false:=by rfl)
 (ht:eval (.Call (.Attribute o m apos) (e::es) [] pos) X.env=(do
  let ov<-eval o X.env
  standAt apos.atName
  let (f,first)<-holding [ov] (getMethod ov m pl)
  callWith pos f first (backTo pos (starEach (e::es) X.env)) (backToKw pos (keywordEach [] X.env))):=by rfl):QE X (.Call (.Attribute o m apos) (e::es) [] pos) (lH cls m n G fo fr):=by
 obtain⟨C,f,fd,ps,hc,c,hm,F,hb⟩:=D.ex
 exact(aJi (E:=fun _ _ _=>False) (pl:=pl) ho c hm F hr hb .nil (fun _ _ _ _ _ _ _ h=>h.elim) ha hst hpl ht).imp fun _ _ _=>aIi hc
theorem aIA{k n:Nat}{m:Str}(D:rO X.prog X.w X.K X.mg X.base k cls m n G)(hr:Room k X.A)(ho:QE X o fo)
 (ht:eval (.Call (.Attribute o m apos) [] [] pos) X.env=(do
  let ov<-eval o X.env
  standAt apos.atName
  let (f,first)<-holding [ov] (getMethod ov m pl)
  callWith pos f first (backTo pos (starEach [] X.env)) (backToKw pos (keywordEach [] X.env))):=by rfl):QE X (.Call (.Attribute o m apos) [] [] pos) (lH cls m n G fo fJ):=by
 obtain⟨C,f,fd,ps,hc,c,hm,F,hb⟩:=D.ex
 refine(aH8 (E:=fun _ _ _=>False) (pl:=pl) ho c hm F hr hb .nil (fun _ _ _ _ _ _ _ h=>h.elim) ht).imp fun _ _ _ h=>?_
 exact iX (aIi hc h) fun x H1 ⟨a,dx,fs,q1,q2,q3,q4⟩=>⟨a,dx,fs,q1,q2,q3,aK4 q4⟩
theorem aCV{k n:Nat}{dts:List T}{dvs:List V}(D:aH9 X.prog X.w X.K X.mg X.base k cls n G dts dvs)(hr:Room (k+1) X.A)(ha:QA X (e::es) fr)(hg:Gl X (Str.ofString cls):=by rfl)
 (hdb:(Str.ofString cls==("__debug__":Str))=false:=by decide)(he:starEach (e::es) X.env=(false,eval e X.env)::starEach es X.env:=by rfl)(hpl:(backTo pos (starEach es X.env)).any (·.1)=false:=by rfl):
 QE X (.Call (.Name (Str.ofString cls) p) (e::es) [] pos) (uT cls n G dts fr):=by
 obtain⟨C,f,fd,ps,ds,hc,hm,M,F,hb,hd⟩:=D.ex
 exact(aIW (E:=fun _ _ _=>False) M F hr hg hm hb hd (fun _ _ _ _ _ _ _ h=>h.elim) ha hdb he hpl).imp fun _ _ _=>aMy hc D.rt
end
section
variable {X:Cx}{o i e f value k v:Expr}{fo fi fe fx:FE}{p pos pos' tpos apos cpos:Pos}
theorem aKN:QE X (.Dict [] [] pos) (uV (.dk [])):=aIj.imp fun _ _ _=>aJm
theorem aJb:QE X (.Dict [] [] pos) (uV (.dt [])):=aHZ.imp fun _ _ _=>aJ2
theorem aJe(hk:QE X k fi)(hv:QE X v fe):QE X (.Dict [some k] [v] pos) (t7 fi fe):=(aJH (aHc hk hv aKK) rfl rfl (by simp) (by simp)).imp fun _ _ _=>aKU
theorem aAS(hu:X.A.units+20<cLine)(ho:QE X o fo)(hi:QE X i fi)(hs:aL4 i:=by exact fun _ _=>rfl):QE X (.Subscript o i pos) (zQ fo fi):=(aKa (by lia) ho hi hs).imp fun _ _ _=>aM6
theorem aJw(hu:X.A.units+20<cLine)(ho:QE X o fo)(he:QE X e fe)(hf:QE X f fx)(m:M2 X o "get" apos e f cpos:=by exact⟨rfl,rfl,rfl,rfl⟩):QE X (.Call (.Attribute o "get" apos) [e,f] [] cpos) (t9 fo fe fx):=
 (aHL (by lia) ho he hf m).imp fun _ _ _=>aKc
theorem aD9(hu:X.A.units+20<cLine)(ho:QE X o fo)(hi:QE X i fi)(hv:QE X value fe)(hs:swapsWith value (some (.Subscript o i pos')) pos.line X.env=pure false:=by rfl):QS X (.Assign [.Subscript o i pos'] value pos) (wD fo fi fe):=(aKf (by lia) ho hi hv hs).imp fun _ _ _=>aNb lM
theorem aDl(hu:X.A.units+20<cLine)(ho:QE X o fo)(hi:QE X i fi)(hv:QE X value fe)(ha:∀ov iv new,augStore i ov iv new=(do holding [new,ov,iv] (setItem ov iv new);release [new,ov,iv] [];pure .next):=by intro _ _ _;rfl):
 QS X (.AugAssign (.Subscript o i tpos) .Sub value pos) (zW (fun i j=>i - j) fo fi fe):=(aJW (by lia) ho hi hv aHB ha).imp fun _ _ _=>aLU lM fun i j H Q q=>⟨i,j,rfl,rfl,q⟩
theorem aNX(hu:X.A.units+20<cLine)(hi:QE X i fi)(ho:QE X o fo)(hm:behindInMarks .In o=false:=by rfl):QT X (.Compare i [.In] [o] pos) (iC (i8 fi fo (wB true))):=(aGB (aLH (by lia) hi ho) hm).imp fun _ _ _=>aGx fun _ _ _=>aNq
theorem aHK(hu:X.A.units+20<cLine)(hi:QE X i fi)(ho:QE X o fo)(hm:behindInMarks .NotIn o=false:=by rfl):QT X (.Compare i [.NotIn] [o] pos) (iC (i8 fi fo (wB false))):=(aGB (aGa (by lia) hi ho) hm).imp fun _ _ _=>aGx fun _ _ _=>aMi
end
theorem aFv{P:Program}{w:World}{K:aO}{ts:List Expr}{k:Nat}{pos:Pos}(e it l:Addr)(D:e≠it):
 Turn P w K (.Tuple ts k pos) (Ite K l) [e,it] e (fun i h=>(∃old,IsEnum h e it i old)/\h.IsListIter it l i) where
 mem:=by simp
 obj:=fun i h st b hb=>by
  obtain⟨⟨old,he⟩,⟨o1,e1,c1,d1⟩⟩:=st;simp only[bE,cA,or_false]at hb;rcases hb with rfl|rfl
  ·exact⟨_,he,fun v z=>by simp at z⟩
  ·exact⟨o1,e1,fun v z=>by rw[d1]at z;cases z⟩
 keep:=fun i h h' st kk=>by
  obtain⟨⟨old,he⟩,h1⟩:=st
  exact⟨⟨old,kk e (by simp) _ he⟩,h1.at fun o e'=>kk it (by simp) o e'⟩
 item:=by
  intro X hP hw hK hc i pins s σ H E I hf st hg;subst hP hw hK;obtain⟨⟨old,he⟩,h1⟩:=st;obtain⟨xs,x,q1,g1⟩:=hg;obtain⟨its,rv,p1,z1⟩:=I.list q1;obtain⟨u,hu,ru⟩:=rv.get g1
  refine wpAny_pyNext_enum_item he h1 p1.isList (x:=u) (by simpa using hu) D fun h' a1 a2 a3 a4 hk=>?_
  refine⟨_,rfl,wpAny_letOwnedTupleGo_enum (s:={s with heap:=h',toks:=s.toks+1}) a1 fun h'' he'' hs''=>?_⟩
  have elt:e≠s.heap.objs.size:=bT (Heap.lt_size he);have kk:∀b ob,b∉[e,it]->s.heap.get? b=some ob->h''.get? b=some ob:=fun b ob hb q=>by
   simp only[bE,cA,or_false,not_or]at hb
   exact(hs''.2 b hb.1).trans (hk b ob hb.1 hb.2 q)
  have hT:h''.get? s.heap.objs.size=some {cls:=.type "tuple",data:=.seq #[.int i s.toks,u]}:=(hs''.2 _ (Ne.symm elt)).trans a3;have I1:Inv X pins σ (upd H s.heap.objs.size (.tup [.int i,x])) {s with heap:=h'',toks:=s.toks+1}:=aBH I hf kk (bI _)
   (show jU X.prog X.w _ h'' _ (.tup [.int i,x])from⟨by show 2<=sizeLine;decide,[.int i s.toks,u],.cons ⟨_,rfl⟩ (.cons ru .nil),⟨_,hT,rfl,_,rfl⟩⟩)
  refine⟨.ref s.heap.objs.size,_,I1,rfl,⟨_,x,I.fresh,rfl,rfl,fun zs hz=>by rw[I.list_inj hz q1];exact g1⟩,?_,fun b hb=>?_⟩
  ·exact⟨⟨u,by exact_mod_cast he''⟩,a2.at fun o q=>(hs''.2 _ (Ne.symm D)).trans q⟩
  ·have hb':=(hf b hb).1;rw[fQ]
   ·exact hb'
   ·rintro rfl;have:∃o,s.heap.get? s.heap.objs.size=some o:=by
     simp only[bE,cA,or_false]at hb;obtain⟨o1,e1,_⟩:=h1;rcases hb with h|h
     ·rw[h];exact⟨_,he⟩
     ·rw[h];exact⟨_,e1⟩
    obtain⟨o,q⟩:=this
    exact absurd (Heap.lt_size q) (cQ _)
 done:=by
  intro X hP hw hK hc i pins s σ H E I hf st hg;subst hP hw hK;obtain⟨⟨old,he⟩,h1⟩:=st;obtain⟨xs,q1,hend⟩:=hg;obtain⟨its,rv,p1,z1⟩:=I.list q1;have l1:=rv.length
  refine wpAny_pyNext_enum_end (I.ok.hd hc) he h1 p1.isList (by simp;lia) fun h' hk=>⟨rfl,aAv (t':=s.toks) I hf fun b ob hb q=>?_⟩
  simp only[bE,cA,or_false,not_or]at hb
  exact hk b ob hb.2 q
 self:=fun _ _ _ _ _ st h=>wpAny_pyIter_enum st.1.choose_spec h
section
variable {X:Cx}{a b e:Expr}{es:List Expr}{fa fb:FE}{fr:FN}{pos p p2:Pos}
variable{tpos:Pos}
theorem aD4{ts:List Expr}{k:Nat}{ta:TA}(hg:Gl X "enumerate")(hm:X.mg "enumerate"=none)(ha:PA X [a] ta)(hs:starEach [a] X.env=[(false,eval a X.env)]:=by rfl):
 PI X (.Tuple ts k tpos) (.Call (.Name "enumerate" p) [a] [] pos) (aHU X.K ta):=by
 intro pins s σ H R I h
 refine Call_ (qH I hg hm boot_enumerate (c9 (thn (ha pos pins s σ H _ I h) fun us s1 ⟨vs,H1,I1,r1,q1⟩=>?_) (by rw[hs];rfl) rfl))
 obtain⟨l,ev,⟨xs,qx⟩,q⟩:=q1;subst ev;obtain⟨u,rfl,ru⟩:=r1.one;cases ru;obtain⟨its,rv,p1,z1⟩:=I1.list qx
 refine call_enumerate_list p1.isList fun h' he hit hsz hk=>wpAny_pyIter_enum he ?_
 have I2:Inv X pins σ H1 {s1 with heap:=h'}:=I1.kept (t':=s1.toks) hk
 refine⟨s1.heap.objs.size+1,[s1.heap.objs.size+1,s1.heap.objs.size],_,_,H1,rfl,I2,aFv _ _ l (Nat.succ_ne_self _),⟨⟨_,he⟩,hit⟩,fun b hb=>?_,q⟩
 have hle:s1.heap.objs.size<=b:=by
  simp only[bE,cA,or_false]at hb;rcases hb with rfl|rfl
  ·exact d7 _ _
  ·exact bI _
 exact I1.fpOk hle (I1.hok.fresh hle)
theorem aEi{ts:List Expr}{k:Nat}{sts:List Stmt}{g:FG}{F:FS}(hm:X.mg "enumerate"=none)(hc:X.calm=true)(hi:QE X a fa)(hg:QG X (.Tuple ts k tpos) g)(hb:QSs X sts F)(hgl:Gl X "enumerate":=by rfl)
 (hst:starEach [a] X.env=[(false,eval a X.env)]:=by rfl)(hp:PassesOwn (model X.prog X.w) X.A X.env X.xe:=by first|exact PassesOwn.never|exact PassesOwn.leaving|exact PassesOwn.looking)
 (hs:∀x,foldedSetIterable (.Call (.Name "enumerate" p) [a] [] p2) X.env x=pure x:=by intro _;rfl):QS X (.For (.Tuple ts k tpos) (.Call (.Name "enumerate" p) [a] [] p2) sts [] pos) (yM fa g F):=
 (aAQ hp hc (aD4 hgl hm (e9 hi fF (by rw[hst];rfl)) hst) hg hb hs).imp fun _ _ _=>aLI
section
variable {own frs:List Str}{is:List Nat}{scope:Scope}{cl:List (Str×Addr)}{ts:List Expr}{tk:Nat}{tpos:Pos}{elt:Expr}{ifs:List Expr}{fe:FE}{g:FG}{gt:FB}
theorem aI2(hm:X.mg "enumerate"=none)(hc:X.calm=true)(k:l4 X own frs is scope cl)(h1:QE X a fa)(ho:Own own.length g)(hg:∀C s3 H3 fp,QG (gR X (own++frs) scope cl C s3 H3 fp) (.Tuple ts tk tpos) g)(ht:∀C s3 H3 fp,QTs (gR X (own++frs) scope cl C s3 H3 fp) ifs gt)
 (he:∀C s3 H3 fp,QE (gR X (own++frs) scope cl C s3 H3 fp) elt fe)(hgl:Gl X "enumerate":=by rfl)(hs:∀x,foldedSetIterable (.Call (.Name "enumerate" p) [a] [] p2) X.env x=pure x:=by intro _;rfl)
 (hst:starEach [a] X.env=[(false,eval a X.env)]:=by rfl):
 QN X (.ListComp elt [⟨.Tuple ts tk tpos,.Call (.Name "enumerate" p) [a] [] p2,ifs,0⟩] scope pos) (uO fa own.length is g gt fe):=
 (sG hc k (aD4 hgl hm (e9 h1 fF (by rw[hst];rfl)) hst) hg ht he hs).imp fun _ _ _=>aJy ho
end
end
section
variable {X:Cx}{o e:Expr}{apos cpos:Pos}{td te:TE}{fo fe:FE}
theorem aJj(ho:PE X o td)(he:PE X e te)(m:M1 X o "update" apos e cpos):PE X (.Call (.Attribute o "update" apos) [e] [] cpos) (tDUpd td te):=by
 intro pins s σ H Q I h
 refine wpAny_Call_method m.base m.few m.line PySem.F.plainAttrs_dict PySem.F.slot_dict_update PySem.F.type_dict_update (thn (ho pins s σ H _ I h) fun u s1 zz=>?_)
 obtain⟨x,H1,I1,rx,a,ex,d,q1⟩:=zz;subst ex;obtain rfl:u=Value.ref a:=rx;obtain⟨t1,t2,_⟩:=aG7 I1 d
 refine⟨t1,t2,?_⟩
 rw[m.trees]
 refine Calls.callWith_builtin rfl (Calls.evalArgs_plain (Calls.spliced_cons (thn (he pins s1 σ H1 _ I1 q1) fun iv s2 ⟨y,H2,I2,ry,b,kvs,more,ey,hab,ha,hb,hl,q2⟩=>Calls.spliced_nil ?_)))
 subst ey;obtain rfl:iv=Value.ref b:=ry;obtain⟨z,hd,vs,rel,dd⟩:=aEw I2.hok ha;obtain⟨z',hd',vs',rel',dd'⟩:=aEw I2.hok hb
 refine call_meetsIn PySem.F.slot_dict_update dd.typeIs PySem.F.entry_dict_update (PySem.F.args_dict_update_2 _ _) (meets_dict_update (jA X.prog X.w) a b hab hd')
  ⟨vs,vs',dd,dd',by rw[<-rel.length,<-rel'.length];exact hl,fun h' d1 d2 hs=>⟨.non,_,?_,rfl,q2⟩⟩
 have hq:∃q,h'.get? a=some q:=let ⟨q,_,_,hq,_⟩:=d1;⟨q,hq⟩
 exact vZ (t':=s2.toks) I2 (by rw[ha];exact True.intro) hs hq (aDF (cC (nU _ _) hl) hd (rel'.merge rel) d1)
theorem aLP(ho:QE X o fo)(he:QE X e fe)(m:M1 X o "update" apos e cpos:=by exact⟨rfl,rfl,rfl,rfl⟩):QE X (.Call (.Attribute o "update" apos) [e] [] cpos) (y6 fo fe):=(aJj ho he m).imp fun _ _ _=>aMQ lM
end
theorem aGv{α:Type}:∀(l:List α),(bK (l.length/2)).filterMap (fun k=>l[1+2*k]?)=od l
 | []=>by simp[od]
 | [_]=>by simp[od]
 |a::b::r=>by
  have ih:=aGv r;have e:(a::b::r).length/2=r.length/2+1:=by simp only[aN];lia
  rw[e,d9,eV];simp only[Nat.mul_zero,aPE,b7,b5];unfold od;rw[aPx,<-ih];congr 1
theorem aHf{α:Type}:∀(l:List α),(od l).length<=l.length
 | []=>bI _
 | [_]=>dJ _
 |a::b::r=>by
  have:=aHf r;unfold od;simp only[aN];lia
theorem aIF(items:Array Value):slicePick items (some 1) none (some 2)=(od items.toList).toArray:=by
 unfold slicePick;have hb:sliceBounds (some 1) none (some 2) items.size=(max 0 (min 1 (items.size:Int)),(items.size:Int),2):=rfl;rw[hb];show((sliceRange (max 0 (min 1 (items.size:Int))) (items.size:Int) 2).filterMap (items[·]?)).toArray=_;congr 1;have hr:sliceRange (max 0 (min 1 (items.size:Int))) (items.size:Int) 2=(bK (items.size/2)).map fun k=>1+2*k:=by
  unfold sliceRange;by_cases h:items.size<2
  ·have h0:items.size/2=0:=by lia
   have h1:¬(max 0 (min 1 (items.size:Int))<(items.size:Int)):=by lia
   simp only[show(2:Int)>0 by decide,if_true,h1,if_false,h0];rfl
  ·have h1:max 0 (min 1 (items.size:Int))=1:=by lia
   rw[h1];have h2:(1:Int)<(items.size:Int):=by lia
   have h3:(((items.size:Int) - 1+2 - 1)/2).toNat=items.size/2:=by lia
   simp only[show(2:Int)>0 by decide,if_true,h2,h3];apply cS;intro k _
   lia
 rw[hr,aPx];have:=aGv items.toList;rw[b6]at this;rw[<-this];congr 1;funext k;simp[dO]
section
variable {X:Cx}{a e:Expr}{te:TE}{fa:FE}{pos p2 p3 p4:Pos}
def aNd(K:aO)(x:V)(H:Hp)(Q:VK):Prop:=∃a xs,x=.ref a/\SqL K H a xs/\∀p,H p=none->Q (.ref p) (upd H p (.lst (od xs)))
theorem Vals.od:∀{xs:List V}{us:List Value},Vals xs us->Vals (TL.od xs) (TL.od us)
 | [],_,h=>by cases h;exact .nil
 | [x],_,h=>by cases h with|cons _ t=>cases t;exact .nil
 |x::y::r,_,h=>by
  cases h with
  |cons h1 t=>
   cases t with
   |cons h2 t=>unfold TL.od;exact .cons h2 (Vals.od t)
theorem aM3{j k}(he:PE X e te):PE X (.Subscript e (.Slice (some (.Constant (.int 1) j p3)) none (some (.Constant (.int 2) k p4)) p2) pos) (fun σ H Q=>te σ H fun x H1=>aNd X.K x H1 Q):=by
 intro pins s σ H Q I h
 refine Subscript_ (thn (he pins s σ H _ I h) fun v s1 zz=>?_)
 obtain⟨x,H1,I1,r1,q1⟩:=zz;have h1:PE X (.Constant (.int 1) j p3) (tC (.int 1)):=aDE;have h2:PE X (.Constant (.int 2) k p4) (tC (.int 2)):=aDE
 refine wpAny_Slice ?_
 refine thn ((aBj h1) pins s1 σ H1 (fun o H2=>o=some 1/\aNd X.K x H2 Q) I1 ⟨1,rfl,rfl,q1⟩) fun vl s2 zz=>?_
 obtain⟨o,H2,I2,pk,eo,q2⟩:=zz;subst eo;rw[evalPart_none]
 refine wpAny_pure ?_
 refine thn ((aBj h2) pins s2 σ H2 (fun o H3=>o=some 2/\aNd X.K x H3 Q) I2 ⟨2,rfl,rfl,q2⟩) fun vk s3 zz=>?_
 obtain⟨o,H3,I3,pk2,eo,q3⟩:=zz;subst eo;obtain⟨l,xs,rfl,hx,q⟩:=q3;cases r1;have I4:Inv X pins σ H3 {s3 with heap:=s3.heap.push {cls:=.type "slice",data:=.fields #[vl,.none,vk]}}:=I3.kept (t':=s3.toks) fun b ob q=>Heap.get?_push_of_some _ q
 obtain⟨its,r,ht,hz⟩:=I4.list hx;have hlen:=r.length;have hg:wpAny (model X.prog X.w) X.A (getItem (.ref l) (.ref s3.heap.objs.size)) (EP X pins σ Q) X.xe {s3 with heap:=s3.heap.push {cls:=.type "slice",data:=.fields #[vl,.none,vk]}}:=by
  refine wpAny_getItem_list_slice ht.isList (Heap.IsSliceOf.new ..) pk .none pk2 (by decide) ?_ (by rw[bG]<;>lia)
  rw[aIF]
  refine⟨.ref _,_,I4.laid (t':=s3.toks) (o:=.lst (od xs)) (fun b ob q=>Heap.get?_push_of_some _ q) (bI _) ?_,rfl,q _ (I4.hok.fresh (bI _))⟩
  exact⟨cC (aHf _) hz,_,0,Vals.od r,Heap.get?_push_size _ rfl⟩
 show wpAny (model X.prog X.w) X.A (subscriptTail e _ (.ref l) (.ref s3.heap.objs.size)) (EP X pins σ Q) X.xe _
 exact tail_any (ops:=[.ref l,.ref s3.heap.objs.size]) ht.isList.typeIs slot_list_getitem.lookup hg (by with_unfolding_all rfl)
theorem aNR{j k}(ha:QE X a fa):QN X (.Subscript a (.Slice (some (.Constant (.int 1) j p3)) none (some (.Constant (.int 2) k p4)) p2) pos) (aFT fa):=(aM3 ha).imp fun _ _ _=>aNS
end
section
variable {X:Cx}{pins:List (Addr×Obj)}{σ:L2.St}{H:Hp}{s:Shared}{a:Addr}{ob:Obj}
theorem aHa{kvs:List (List Key×V)}(I:L2.Inv X pins σ H s)(h:H a=some (.dT kvs))(ho:s.heap.get? a=some ob):L2.Inv X pins σ (upd H a (.frz ob (.dT kvs))) s:=by
 have ne:∀b,H b=none->b≠a:=fun b n z=>by rw[z,h]at n;cases n
 refine⟨I.ok,I.os,I.bare,⟨I.base.keep,I.base.slot,fun b o q n hx=>by have e:=I.base.free b o q n hx;rw[fQ (ne b e)];exact e,I.base.there,fun b xs q=>?_,fun b o u q=>?_,fun b ps q=>?_⟩,I.loc,I.cell,by rw[fQ (ne _ I.free)];exact I.free,fun x c q=>by rw[fQ (ne _ (I.freeC x c q))];exact I.freeC x c q,fun p hp=>?_,fun b o q=>?_,I.len⟩
 ·have e:=I.base.tups b xs q;rw[fQ (nL e h (fun z=>nomatch z))];exact e
 ·have e:=I.base.frzs b o u q;rw[fQ (nL e h (fun z=>nomatch z))];exact e
 ·obtain⟨m,e⟩:=I.base.tbls b ps q
  exact⟨m,by rw[fQ (nL e h (fun z=>nomatch z))];exact e⟩
 ·obtain⟨p1,p2,p3⟩:=I.pin p hp
  exact⟨p1,by rw[fQ (ne _ p2)];exact p2,p3⟩
 ·by_cases hb:b=a
  ·subst hb;rw[jC]at q;cases q
   exact⟨ho,(I.hok b _ h).stay (fun c v _ q=>q) (fun c q=>by rw[fQ (nL q h (fun z=>nomatch z))];exact q) fun c xs q=>by rw[fQ (nL q h (fun z=>nomatch z))];exact q⟩
  ·rw[fQ hb]at q
   exact(I.hok b o q).stay (fun c v _ q=>q) (fun c q=>by rw[fQ (nL q h (fun z=>nomatch z))];exact q) fun c xs q=>by rw[fQ (nL q h (fun z=>nomatch z))];exact q
theorem aID{u:HO}(I:L2.Inv X pins σ H s)(h:H a=some (.frz ob u))(h0:∀o v,X.H₀ a≠some (.frz o v)):L2.Inv X pins σ (upd H a u) s:=by
 have ne:∀b,H b=none->b≠a:=fun b n z=>by rw[z,h]at n;cases n
 refine⟨I.ok,I.os,I.bare,⟨I.base.keep,I.base.slot,fun b o q n hx=>by have e:=I.base.free b o q n hx;rw[fQ (ne b e)];exact e,I.base.there,fun b xs q=>?_,fun b o u q=>?_,fun b ps q=>?_⟩,I.loc,I.cell,by rw[fQ (ne _ I.free)];exact I.free,fun x c q=>by rw[fQ (ne _ (I.freeC x c q))];exact I.freeC x c q,fun p hp=>?_,fun b o q=>?_,I.len⟩
 ·have e:=I.base.tups b xs q;rw[fQ (nL e h (fun z=>nomatch z))];exact e
 ·have e:=I.base.frzs b o u q;rw[fQ (by rintro rfl;exact h0 _ _ q)];exact e
 ·obtain⟨m,e⟩:=I.base.tbls b ps q
  exact⟨m,by rw[fQ (nL e h (fun z=>nomatch z))];exact e⟩
 ·obtain⟨p1,p2,p3⟩:=I.pin p hp
  exact⟨p1,by rw[fQ (ne _ p2)];exact p2,p3⟩
 ·by_cases hb:b=a
  ·subst hb;rw[jC]at q;cases q
   exact((I.hok b _ h).2).stay (fun c v _ q=>q) (fun c q=>by rw[fQ (nL q h (fun z=>nomatch z))];exact q) fun c xs q=>by rw[fQ (nL q h (fun z=>nomatch z))];exact q
  ·rw[fQ hb]at q
   exact(I.hok b o q).stay (fun c v _ q=>q) (fun c q=>by rw[fQ (nL q h (fun z=>nomatch z))];exact q) fun c xs q=>by rw[fQ (nL q h (fun z=>nomatch z))];exact q
end
section
variable {P:Program}{w:World}{A:Around}{E:Value->Shared->Prop}{s:Shared}{d it:Addr}{o:Obj}{es:Array DictEntry}{ep i:Nat}
variable{Q:Option Value->Shared->Prop}
theorem aGU{Q:Value->Shared->Prop}(hd:(d==sysModules)=false)(ho:s.heap.get? d=some o)(hx:o.ExactDict)(hdat:o.data=.dict es ep)
 (hQ:Q (.ref s.heap.objs.size) {s with heap:=s.heap.push {cls:=.type "dict_keyiterator",data:=.fields #[.ref d,.int 0 0,.int es.size 0,.int ep 0]}}):wpAny (model P w) A (pyIter (.ref d)) Q E s:=by
 have hT:s.TypeIs (.ref d) "dict":=⟨o,ho,hx.1⟩
 refine wpAny_pyIter_slot hT F.slot_dict_iter (wpAny_call_entry F.slot_dict_iter hT F.entry_dict_iter ?_ (F.args_dict_iter_1 _));unfold Builtin.«dict.__iter__»;refine wpAny_bind ?_
 unfold Builtin.Dict.dictSlotNone;refine wpAny_bind (wpAny_notOrdered_dict hT ?_);show wpAny _ _ (pure (Value.ref d)) _ _ s;refine wpAny_pure ?_;show wpAny _ _ (Builtin.Dict.showsAll d>>=_) _ _ s;unfold Builtin.Dict.showsAll;rw[if_neg (by rw[hd];exact bY)];refine wpAny_bind (wpAny_pure ?_)
 refine wpAny_bind (wpAny_dictEntries ho hdat (wpAny_bind (wpAny_dictEpoch ho hdat ?_)))
 refine wpAny_bind (wpAny_newObj_type (wpAny_pure ⟨_,rfl,"dict_keyiterator",_,⟨_,Heap.get?_push_size _ rfl,rfl⟩,F.slot_dict_keyiterator_next.lookup,?_⟩));simpa[rawInt]using hQ
theorem aHx{e:DictEntry}(hit:s.heap.IsKeyIter it d i es.size ep)(ho:s.heap.get? d=some o)(hdat:o.data=.dict es ep)(he:es[i]?=some e)
 (hQ:∀h',h'.IsKeyIter it d (i+1) es.size ep->Heap.SameBut it s.heap h'->Q (some e.key) {s with heap:=h'}):wpAny (model P w) A (pyNext (.ref it)) Q E s:=by
 obtain⟨oi,hi,hc,hd⟩:=id hit;unfold pyNext;refine wpAny_bind (wpAny_attempt (wpAny_callSpecial?_slot (name:=Str.ofString "__next__") hit.typeIs F.slot_dict_keyiterator_next (wpAny_call_entry F.slot_dict_keyiterator_next hit.typeIs F.entry_dict_keyiterator_next ?_ (F.args_dict_keyiterator_next_1 _))))
 refine wpAny_bind (wpAny_pure (wpAny_bind (wpAny_bind ?_)))
 first|refine wpAny_bind (wpAny_typeNameOfWhole_keyiter hit.typeIs (wpAny_pure (wpAny_bind (wpAny_fieldsOf hi hd ?_))))|refine wpAny_bind (wpAny_typeNameOf_keyiter hit.typeIs (wpAny_pure (wpAny_bind (wpAny_fieldsOf hi hd ?_))))
 simp only[show Builtin.Dict_items.ownsTuple "dict_keyiterator"=false by decide,b9,if_false];show wpAny _ _ (if(Value.ref d==Value.none)=true then _ else _) _ _ s;rw[if_neg (show¬((Value.ref d==Value.none)=true)from bY)]
 refine wpAny_bind (wpAny_pure (wpAny_bind (wpAny_dictEntries ho hdat ?_)));rw[if_neg (by simp)];refine wpAny_bind (wpAny_pure (wpAny_bind (wpAny_dictEpoch ho hdat ?_)));rw[if_neg (by simp)];refine wpAny_pure ?_
 simp only[show¬((i:Int)<0)from by lia,if_false,cE,he];refine wpAny_bind ?_;first|refine wpAny_bind (wpAny_typeNameOfWhole_keyiter hit.typeIs (wpAny_pure (wpAny_bind (wpAny_isOneOf_keyiter hit.typeIs ?_))))|refine wpAny_bind (wpAny_typeNameOf_keyiter hit.typeIs (wpAny_pure (wpAny_bind (wpAny_isOneOf_keyiter hit.typeIs ?_))))
 show wpAny _ _ (setField (.ref it) 1 (rawInt ((i:Int)+1))>>=_) _ _ s;refine wpAny_bind (wpAny_setField hi hd (by simp) ?_);have hit':(s.heap.update it (Obj.mapFields (·.setIfInBounds 1 (rawInt ((i:Int)+1))))).IsKeyIter it d (i+1) es.size ep:=⟨_,Heap.get?_update_self _ hi (Obj.isFreed_of_fields (Obj.data_mapFields hd _)),(Obj.cls_mapFields ..).trans hc,by rw[Obj.data_mapFields hd];simp[rawInt]⟩
 refine wpAny_bind (wpAny_holding (wpAny_bind (wpAny_isOneOf_keyiter (s:={s with heap:=s.heap.update it (Obj.mapFields (·.setIfInBounds 1 (rawInt ((i:Int)+1))))}) hit'.typeIs ?_)))
 show wpAny _ _ (pure e.key) _ _ _;exact wpAny_pure (wpAny_pure ⟨_,rfl,wpAny_pure (hQ _ hit' (Heap.SameBut.update ..))⟩)
theorem aGF(hh:A.handled=none)(hit:s.heap.IsKeyIter it d i es.size ep)(ho:s.heap.get? d=some o)(hdat:o.data=.dict es ep)(he:es[i]?=none)
 (hQ:∀h',Heap.ExtBut it s.heap h'->Q none {s with heap:=h'}):wpAny (model P w) A (pyNext (.ref it)) Q E s:=by
 obtain⟨oi,hi,hc,hd⟩:=id hit;unfold pyNext;refine wpAny_bind (wpAny_attempt (wpAny_callSpecial?_slot (name:=Str.ofString "__next__") hit.typeIs F.slot_dict_keyiterator_next (wpAny_call_entry F.slot_dict_keyiterator_next hit.typeIs F.entry_dict_keyiterator_next ?_ (F.args_dict_keyiterator_next_1 _))))
 refine wpAny_bind (wpAny_pure (wpAny_bind (wpAny_bind ?_)))
 first|refine wpAny_bind (wpAny_typeNameOfWhole_keyiter hit.typeIs (wpAny_pure (wpAny_bind (wpAny_fieldsOf hi hd ?_))))|refine wpAny_bind (wpAny_typeNameOf_keyiter hit.typeIs (wpAny_pure (wpAny_bind (wpAny_fieldsOf hi hd ?_))))
 simp only[show Builtin.Dict_items.ownsTuple "dict_keyiterator"=false by decide,b9,if_false];show wpAny _ _ (if(Value.ref d==Value.none)=true then _ else _) _ _ s;rw[if_neg (show¬((Value.ref d==Value.none)=true)from bY)]
 refine wpAny_bind (wpAny_pure (wpAny_bind (wpAny_dictEntries ho hdat ?_)));rw[if_neg (by simp)];refine wpAny_bind (wpAny_pure (wpAny_bind (wpAny_dictEpoch ho hdat ?_)));rw[if_neg (by simp)];refine wpAny_pure ?_
 simp only[show¬((i:Int)<0)from by lia,if_false,cE,he];refine wpAny_bind ?_;first|refine wpAny_bind (wpAny_typeNameOfWhole_keyiter hit.typeIs (wpAny_pure ?_))|refine wpAny_bind (wpAny_typeNameOf_keyiter hit.typeIs (wpAny_pure ?_))
 show wpAny _ _ (setField (.ref it) 0 .none>>=_) _ _ s;refine wpAny_bind (wpAny_setField hi hd (by simp) ?_);show wpAny _ _ (newExc (.type "StopIteration") []>>=_) _ _ _;refine wpAny_bind ?_;simp only[newExc,newTuple]
 refine wpAny_bind (wpAny_newObj_type (wpAny_bind (m:=firstArgMember _ _) (wpAny_of_eq (a:=Value.none) (by first|rfl| (simp only[firstArgMember];rfl)) ?_)) (by size_fits))
 refine wpAny_newObj_type ?_ (by size_fits);simp only[raiseNew];refine wpAny_bind (wpAny_handled ?_)
 rw[show A.in1.handled=none from hh];refine wpAny_bind (wpAny_pure (wpAny_throw ?_));refine wpAny_bind (wpAny_isInstance (T:="StopIteration") (b:=true) ⟨_,Heap.get?_push_size _ rfl,rfl⟩ isSubtype_stop ?_)
 exact wpAny_pure (hQ _ (((Heap.SameBut.update ..).extBut.push _).push _))
end
theorem aAw{α β:Type}{F:α->β->Prop}:∀{l₁:List α}{l₂:List β},Paired F l₁ l₂->∀(i:Nat)(h1:i<l₁.length)(h2:i<l₂.length),F l₁[i] l₂[i]
 |_,_,.cons h _,0,_,_=>h
 |_,_,.cons _ t,i+1,h1,h2=>aAw t i (by simpa using h1) (by simpa using h2)
theorem aF4{P:Program}{w:World}{K:aO}{tg:Expr}{a it:Addr}{ob:Obj}{es:Array DictEntry}{ep:Nat}{kvs:List (List Key×V)}(hx:ob.ExactDict)(hdat:ob.data=.dict es ep)(hl:es.size=kvs.length):
 Turn P w K tg (Itd a ob kvs) [it] it (fun i h=>h.IsKeyIter it a i es.size ep) where
 mem:=by simp
 obj:=fun i h st b hb=>by
  have e:b=it:=by simpa using hb
  subst e;obtain⟨o,e,c,d⟩:=st
  exact⟨o,e,fun v z=>by rw[d]at z;cases z⟩
 keep:=fun i h h' st k=>st.at fun o e=>k it (by simp) o e
 item:=by
  intro X hP hw hK hc i pins s σ H E I hf st hg;subst hP hw hK;obtain⟨hH,hi⟩:=hg;obtain⟨ho,_,_,xs,rel,o2,es2,ep2,e1,e2,e3,e4,e5⟩:=(show jU X.prog X.w H s.heap a (.frz ob (.dT kvs))from I.hok a _ hH);rw[ho]at e1;cases e1;rw[hdat]at e3;cases e3;obtain⟨f0,f1,f2,f3,f4,f5⟩:=hf it (by simp);have hlx:xs.length=kvs.length:=(Paired.length rel).symm;have hix:i<xs.length:=by rw[hlx];exact hi
  have hget:es[i]?=some (entryOfKey (tupleKind (jA X.prog X.w)) xs[i]):=by
   rw[<-Array.getElem?_toList,e4,bJ,bA hix];rfl
  refine aHx st ho hdat hget fun h' st' sb=>?_
  have I1:L2.Inv X pins σ H {s with heap:=h'}:=I.turned (t':=s.toks) (fun b o hb e=>(sb.2 b hb).trans e) f0 f1 f3 f4 f5;obtain⟨o,e,c,d⟩:=id st';obtain⟨r1,r2,r3⟩:=aAw rel i hi hix
  refine⟨_,rfl,aHR (s:={s with heap:=h'}) e c d (by decide) ⟨.ref xs[i].2.1,H,I1,rfl,⟨rfl,xs[i].2.1,kvs[i].1,kvs[i].2,rfl,bA hi,r2⟩,st',fun b hb=>(hf b hb).1⟩⟩
 done:=by
  intro X hP hw hK hc i pins s σ H E I hf st hg;subst hP hw hK;obtain⟨hH,hi⟩:=hg;have ho:=(show jU X.prog X.w H s.heap a (.frz ob (.dT kvs))from I.hok a _ hH).1;obtain⟨f0,f1,f2,f3,f4,f5⟩:=hf it (by simp)
  exact aGF (I.ok.hd hc) st ho hdat (by simp;lia) fun h' eb=>⟨rfl,I.turned (t':=s.toks) (fun b o hb e=>eb b o hb e) f0 f1 f3 f4 f5⟩
 self:=fun _ _ _ _ _ st h=>wpAny_pyIter_keyiter st h
section
variable {X:Cx}{iter:Expr}{fa:FE}{p pos p2:Pos}
abbrev Bare(X:Cx)(a:Addr):Prop:=∀o v,X.H₀ a≠some (.frz o v)
theorem aJA{tg l:Expr}{tl:TE}(hl:PE X l tl):PI X tg l (iDict (Bare X) tl):=by
 intro pins s σ H R I h
 refine thn (hl pins s σ H _ I h) fun v s1 zz=>?_
 obtain⟨x,H1,I1,r1,q1⟩:=zz;obtain⟨a,kvs,e,ha,q⟩:=q1;subst e;cases r1;obtain⟨_,hd,xs,rel,o,es,ep,e1,e2,e3,e4,e5⟩:=(show jU X.prog X.w H1 s1.heap a (.dT kvs)from I1.hok a _ ha);have hB:Bare X a:=fun o v z=>by
  have:=I1.base.frzs a o v z;rw[ha]at this;cases this
 have hsz:es.size=kvs.length:=by rw[<-b6,e4,aR];exact(Paired.length rel).symm
 have I2:L2.Inv X pins σ H1 {s1 with heap:=s1.heap.push {cls:=.type "dict_keyiterator",data:=.fields #[.ref a,.int 0 0,.int es.size 0,.int ep 0]}}:=I1.kept (t':=s1.toks) fun b o e=>Heap.get?_push_of_some _ e
 refine aGU hd e1 e2 e3 ⟨s1.heap.objs.size,[s1.heap.objs.size],_,_,_,rfl,aHa I2 ha (Heap.get?_push_of_some _ e1),aF4 (a:=a) (kvs:=kvs) e2 e3 hsz,⟨_,Heap.get?_push_size _ rfl,rfl,rfl⟩,fun b hb=>?_,q hB o⟩
 have e:b=s1.heap.objs.size:=by simpa using hb
 subst e
 refine I1.fpOk (bI _) ?_
 rw[fQ (Ne.symm (bT (Heap.lt_size e1)))]
 exact I1.hok.fresh (bI _)
section
variable {own frs:List Str}{is:List Nat}{scope:Scope}{cl:List (Str×Addr)}{tg elt:Expr}{ifs:List Expr}{fe:FE}{g:FG}{gt:FB}
theorem aJk(hc:X.calm=true)(k:l4 X own frs is scope cl)(h1:QE X iter fa)(ho:Own own.length g)(hg:∀C s3 H3 fp,QG (gR X (own++frs) scope cl C s3 H3 fp) tg g)(ht:∀C s3 H3 fp,QTs (gR X (own++frs) scope cl C s3 H3 fp) ifs gt)
 (he:∀C s3 H3 fp,QE (gR X (own++frs) scope cl C s3 H3 fp) elt fe)(hs:∀x,foldedSetIterable iter X.env x=pure x:=by intro _;rfl):
 QN X (.ListComp elt [⟨tg,iter,ifs,0⟩] scope pos) (uI fa own.length is g gt fe):=by
 intro pins s σ H Q I h
 refine thn (sG hc k (aJA h1) hg ht he hs pins s σ H _ I (aIV (B:=Bare X) ho h)) fun u s' zz=>?_
 obtain⟨v,H',I',r,a,ob,w,hB,hf,q⟩:=zz
 exact⟨v,_,aID I' hf hB,r,q⟩
end
end
theorem aE7:∀{ns:List Int},ns≠[]->uJ ns∈ns/\∀a∈ns,uJ ns<=a:=by
 have key:∀(ns:List Int)(n:Int),(ns.foldl (fun a b=>if b<a then b else a) n=n\/ns.foldl (fun a b=>if b<a then b else a) n∈ns)/\ns.foldl (fun a b=>if b<a then b else a) n<=n/\∀a∈ns,ns.foldl (fun a b=>if b<a then b else a) n<=a:=by
  intro ns;induction ns with
  |nil=>intro n;exact⟨.inl rfl,bV _,fun a h=>nomatch h⟩
  |cons m ns ih=>
   intro n;rw[aOF];obtain⟨h1,h2,h3⟩:=ih (if m<n then m else n);by_cases hm:m<n
   ·rw[if_pos hm]at h1 h2 h3|-
    refine⟨?_,by lia,fun a ha=>?_⟩
    ·rcases h1 with h1|h1
     ·rw[h1];simp
     ·exact .inr (aZ _ h1)
    ·rcases bE.mp ha with rfl|ha
     ·exact h2
     ·exact h3 a ha
   ·rw[if_neg hm]at h1 h2 h3|-
    refine⟨?_,h2,fun a ha=>?_⟩
    ·rcases h1 with h1|h1
     ·exact .inl h1
     ·exact .inr (aZ _ h1)
    ·rcases bE.mp ha with rfl|ha
     ·lia
     ·exact h3 a ha
 intro ns hne;cases ns with
 |nil=>exact absurd rfl hne
 |cons n ns=>
  obtain⟨h1,h2,h3⟩:=key ns n
  refine⟨?_,fun a ha=>?_⟩
  ·rcases h1 with h1|h1
   ·show aPw (fun a b=>if b<a then b else a) n ns∈n::ns;rw[h1];simp
   ·exact aZ _ h1
  ·rcases bE.mp ha with rfl|ha
   ·exact h2
   ·exact h3 a ha
section
variable {X:Cx}{e:Expr}{es:List Expr}{fr:FN}{p pos:Pos}
theorem aFV(hc:X.calm=true):nC X (.builtin "min") (aCa X.K (fun ns=> !ns.isEmpty) uJ):=by
 intro pins s σ H xs us Q I r h;obtain⟨p,ns,rfl,hq,hne,q⟩:=h;obtain⟨u,rfl,ru⟩:=vals1 r;cases ru;obtain⟨its,rv,pl,hz⟩:=I.list hq;have hi:=oN rv;have hne':ns≠[]:=by rintro rfl;simp at hne
 obtain⟨ys,hx⟩:=hi.allInts.items;have hl':s.heap.IsList p (intItems ys):=hx ▸ pl.isList;have hns:ns=ys.toList.map (·.1):=by
  rw[<-nums_intItems,<-hx]
  exact(show numsOf its.toArray.toList=ns from hi.numsOf).symm
 have hsz:0<ys.size:=by
  have h3:0<ns.length:=dY.mpr hne';rw[hns,aR,b6]at h3;exact h3
 refine min_intList (I.ok.hd hc) hl' hsz fun v h' tk hv hk=>?_
 obtain⟨t,rfl⟩:=intItems_at hv;obtain⟨h1,h2⟩:=argBest_lt (numAt ys) (ys.size - 1);obtain⟨m1,m2⟩:=aE7 hne';obtain⟨M,hM⟩:∃M,M=uJ ns:=⟨_,rfl⟩;rw[<-hM]at m1 m2 q;have e:numAt ys (argBest (fun i j=>decide (numAt ys i<numAt ys j)) (ys.size - 1))=M:=by
  apply aOG
  ·have m1':=m1;rw[hns]at m1';obtain⟨j,hj,ej⟩:=mem_getD m1';rw[aR,b6]at hj;rw[<-ej,<-numAt_eq];exact h2 j (by lia)
  ·refine m2 _ ?_
   rw[hns,numAt_eq];exact getD_mem (by rw[aR,b6];lia)
 exact⟨.int M,H,I.kept hk,⟨_,by rw[e]⟩,q⟩
theorem aG1(hm:X.mg "min"=none)(hc:X.calm=true)(ha:QA X (e::es) fr)(hg:Gl X "min":=by rfl)(he:starEach (e::es) X.env=(false,eval e X.env)::starEach es X.env:=by rfl)(hpl:(backTo pos (starEach es X.env)).any (·.1)=false:=by rfl):
 QE X (.Call (.Name "min" p) (e::es) [] pos) (aGy fr):=aC5 (aFV hc) (fun _ _ _ _=>aDZ) boot_min hm hg ha (by decide) (by decide) he hpl
end
theorem nJ{X:Cx}{pos:Pos}{x:Str}{i:Int}(hm:∃t,X.mg x=some (.int i t))(hg:Gl X x:=by rfl)(hd:(x==("__debug__":Str))=false:=by decide):QE X (.Name x pos) (fC (.int i)):=by
 obtain⟨t,hm⟩:=hm
 exact(aKl hg hm (v:=.int i) ⟨t,rfl⟩ hd).imp fun _ _ _=>i_C fun _ _=>.int
structure aIz(K:aO)(x qual:Str)(st:Stmt)(f:Addr)(fd:FuncData)(dV:Value):Prop where
 ex:∃(oc:Value)(od:Option Addr)(kV doc pm:Value)(an:Option Addr)(cdv ct:Value)(osl:Array (Option Value)),
  fd=cK x qual (jX st) (jE st) (gQ st) dV kV doc pm an cdv ct/\K.lookup f=some ⟨oc,od,.func fd,osl⟩/\dL K cdv qual=true
section
variable {P:Program}{w:World}{K:aO}{mg:Str->Option Value}{base:Heap}
variable{qual:Str}{st:Stmt}{fd:FuncData}{dV oc:Value}{ps:List Str}{od:Option Addr}{osl:Array (Option Value)}
theorem aIz.ok{x:Str}{f:Addr}{N:List Str}{k:Nat}{sp:Sp}(F:aIz K x qual st f fd dV)(S:qX N ps (gQ st))(len:∀vs H Q E,sp vs H Q E->vs.length=ps.length)
 (hbody:∀(cdv:Value)(A:Around)(outer:List Env)(s:Shared)(H:Hp)(vs:List V)(Q:VK)(E:XK),Room k (A.deeper (envOfC qual (gQ st) s.heap.objs.size f cdv))->sp vs H Q E->
  ∃t,PSs (aBf CX0 P w K mg base N qual (gQ st) f cdv A outer s H E).nox (jE st) t/\t {nx:=fun _ H'=>Q .non H',rt:=Q} (start N vs) H):mV P w K mg base CX0 (k+1) f fd ps sp:=by
 obtain⟨oc,od,kV,doc,pm,an,cdv,ct,osl,e,lk,hcd⟩:=F.ex;subst e
 refine aK9 lk hcd S len fun A outer s H vs Q E hr hsp=>?_
 obtain⟨t,h,q⟩:=hbody cdv A outer s H vs Q E hr hsp
 exact⟨t,h.nox,q⟩
theorem aKp{x:Str}{f:Addr}{an:Option Addr}{kV doc pm cdv ct:Value}(l:K.lookup f=some ⟨oc,od,.func (cK x qual (jX st) (jE st) (gQ st) dV kV doc pm an cdv ct),osl⟩)
 (c:dL K cdv qual=true):aIz K x qual st f (cK x qual (jX st) (jE st) (gQ st) dV kV doc pm an cdv ct) dV:=⟨⟨oc,od,kV,doc,pm,an,cdv,ct,osl,rfl,l,c⟩⟩
theorem aDI(m:Nat){T:Addr}{its:Array Value}{n:Nat}{ds:List Value}(hd:fd.defaults=.ref T)(lk:K.lookup T=some ⟨oc,od,.seq its n,osl⟩)
 (hm:m+ds.length=ps.length)(h:∀us:List Value,us.length=m->∃k:Option (Array Value)->Sem (List (Str×Value)),bindArgs fd ⟨us,[]⟩=seqItems? fd.defaults>>=k/\k (some its)=pure (ps.zip (us++ds))):Binds K fd ps ds:=fun s us hk hl=>by
 obtain⟨k,h1,h2⟩:=h us (by rw[bC]at hl;lia)
 exact .of_defaults hd (hk T _ lk) rfl h1 h2
end
theorem i9.of{K:aO}{cls:String}{f:Str}{C:Addr}(e:bU K mainGlobals (Str.ofString cls)=some (some (.ref C)))(c:Cls K C)(n:oU K C f):i9 K cls f:=fun C' h=>by
 rw[e]at h;cases h;exact⟨c,n⟩
section
variable {P:Program}{w:World}{K:aO}{mg:Str->Option Value}{base h:Heap}{f:Addr}{fd:FuncData}{x ql:Str}{t:Stmt}{N ps:List Str}{k n:Nat}{sp:Sp}{B:FS}{cls:String}{C:Addr}
variable{oc kV dc pm cd ct:Value}{od an:Option Addr}{sl:Array (Option Value)}{Q:List Value->Prop}
abbrev hB(K:aO)(N:List Str)(sp:Sp)(B:FS):Prop:=∀{W:XW}{vs:List V}{H:Hp}{Q:VK}{E:XK},sp vs H Q E->trS K W B {nx:=fun _ H'=>Q .non H',rt:=Q} (vs.map some++aT (N.length - vs.length) none) H
abbrev hY(P:Program)(w:World)(K:aO)(mg:Str->Option Value)(base:Heap)(N:List Str)(ql:Str)(t:Stmt)(f:Addr)(k:Nat)(B:FS):Prop:=∀{cdv:Value}{A:Around}{outer:List Env}{s:Shared}{H:Hp}{E:XK},N.Nodup->Room k (A.deeper (envOfC ql (gQ t) s.heap.objs.size f cdv))->
 PSs (aBf CX0 P w K mg base N ql (gQ t) f cdv A outer s H E).nox (jE t) (trS K (wish (Cx.nox (aBf CX0 P w K mg base N ql (gQ t) f cdv A outer s H E))) B)
theorem okB(F:Fun K x ql t f fd)(len:∀vs H Q E,sp vs H Q E->vs.length=ps.length)(b:hB K N sp B)(y:hY P w K mg base N ql t f k B)(S:qX N ps (gQ t):=by exact⟨rfl,rfl,rfl,by decide+kernel,rfl,by decide+kernel,by decide+kernel⟩):mV P w K mg base CX0 (k+1) f fd ps sp:=
 F.ok S len fun cdv A outer s H vs Q E hr z=>⟨_,y S.nd hr,b z⟩
theorem okD{dV:Value}(F:aIz K x ql t f fd dV)(len:∀vs H Q E,sp vs H Q E->vs.length=ps.length)(b:hB K N sp B)(y:hY P w K mg base N ql t f k B)(S:qX N ps (gQ t):=by exact⟨rfl,rfl,rfl,by decide+kernel,rfl,by decide+kernel,by decide+kernel⟩):mV P w K mg base CX0 (k+1) f fd ps sp:=
 F.ok S len fun cdv A outer s H vs Q E hr z=>⟨_,y S.nd hr,b z⟩
theorem rdn{A:Around}{j:Nat}(hr:Room k A)(h:j<=k:=by decide):Room j A:=hr.mono h
structure Nm(K:aO)(x:Str)(t:Stmt):Prop where
 ex:∃f fd,bU K mainGlobals x=some (some (.ref f))/\Fun K x x t f fd
theorem Nm.of(a:bU K mainGlobals x=some (some (.ref f)))(l:K.lookup f=some ⟨oc,od,.func (cK x x (jX t) (jE t) (gQ t) .none kV dc pm an cd ct),sl⟩)
 (c:dL K cd x=true)(k:cF K (.ref f)=true):Nm K x t:=⟨_,_,a,aDH l c k⟩
structure Cm(K:aO)(cls:String)(C:Addr):Prop where
 e:bU K mainGlobals (Str.ofString cls)=some (some (.ref C))
 c:Cls K C
 mi:aPc K C=true
 kp:cF K (.ref C)=true
structure Mm(K:aO)(C:Addr)(x ql:Str)(t:Stmt):Prop where
 ex:∃f fd,bQ K (.ref C) x=some (some (.ref f))/\aOs K (.ref f)=true/\Fun K x ql t f fd
theorem Mm.of(a:bQ K (.ref C) x=some (some (.ref f)))(l:K.lookup f=some ⟨oc,od,.func (cK x ql (jX t) (jE t) (gQ t) .none kV dc pm an cd ct),sl⟩)
 (c:dL K cd ql=true)(k:cF K (.ref f)=true)(n:aOs K (.ref f)=true):Mm K C x ql t:=⟨_,_,a,n,aDH l c k⟩
theorem len1(h:∀a,Q [a]):∀us:List Value,us.length=1->Q us
 | [a],_=>h a
theorem zE{n:Nat}(h:∀a us,us.length=n->Q (a::us)):∀us:List Value,us.length=n+1->Q us
 |a::us,e=>h a us (Nat.succ.inj e)
abbrev Bd(x ql:Str)(t:Stmt)(ps:List Str):Prop:=∀(kV doc pm:Value)(an:Option Addr)(cdv ct:Value)(us:List Value),us.length=ps.length->bindArgs (cK x ql (jX t) (jE t) (gQ t) .none kV doc pm an cdv ct) ⟨us,[]⟩=pure (ps.zip us)
abbrev Ky(P:Program)(w:World)(K:aO)(mg:Str->Option Value)(base:Heap)(x ql:Str)(t:Stmt)(ps:List Str)(k:Nat)(sp:Sp):Prop:=∀{f:Addr}{fd:FuncData},Fun K x ql t f fd->mV P w K mg base CX0 k f fd ps sp
section
variable (X:K.In h)(G:h.Ns mainGlobals mg)
include X G
variable{R:List T->Sto->Option (T×Sto)}
theorem Nm.df(a:Nm K x t)(o:Ky P w K mg base x x t ps k sp)(b:Bd x x t ps):∃f fd ps,mV P w K mg base CX0 k f fd ps sp/\mg x=some (.ref f)/\cF K (.ref f)=true/\Binds K fd ps []:=
 let ⟨f,fd,a,F⟩:=a.ex
 ⟨f,fd,ps,o F,eY X G a,F.kp,F.binds b⟩
theorem mkT{R:List T->Option T}(a:Nm K x t)(o:Ky P w K mg base x x t ps k (spT K n R))(b:Bd x x t ps:=by walk_at "bq"):jV P w K mg base k x n R:=⟨a.df X G o b⟩
theorem mkN{R:List T->Option (List T)}(a:Nm K x t)(o:Ky P w K mg base x x t ps k (spN K n R))(b:Bd x x t ps:=by walk_at "bq"):aML P w K mg base k x n R:=⟨a.df X G o b⟩
theorem mkRc{R:List T->Option (T×Sto)}(a:Nm K x t)(o:Ky P w K mg base x x t ps k (aCH K n R))(b:Bd x x t ps:=by walk_at "bq"):aEO P w K mg base k x n R:=⟨a.df X G o b⟩
theorem mkWc{R:List T->Sto->Option Sto}(a:Nm K x t)(o:Ky P w K mg base x x t ps k (aDJ K n R))(b:Bd x x t ps:=by walk_at "bq"):aGu P w K mg base k x n R:=⟨a.df X G o b⟩
theorem mkS(a:Nm K x t)(o:Ky P w K mg base x x t ps k (spS K n R))(b:Bd x x t ps:=by walk_at "bq"):uB P w K mg base k x n R:=⟨a.df X G o b⟩
theorem mkI(c:Cm K cls C)(a:Mm K C "__init__" ql t)(o:Ky P w K mg base "__init__" ql t ps k (spS K n R))(b:Bd "__init__" ql t ps:=by walk_at "bq"):aH9 P w K mg base k cls n R [] []:=
 let ⟨f,fd,a,i,F⟩:=a.ex
 ⟨⟨C,f,fd,ps,[],c.e,eY X G c.e,⟨c.mi,a,i,c.kp⟩,o F,F.binds b,.nil⟩,fun _ _=>.nil⟩
end
theorem mkMe{R:List T->Sto->Option (T×Sto)}(c:Cm K cls C)(a:Mm K C x ql t)(o:Ky P w K mg base x ql t ps k (spS K n R))(b:Bd x ql t ps:=by walk_at "bq"):rO P w K mg base k cls x n R:=
 let ⟨f,fd,a,i,F⟩:=a.ex
 ⟨C,f,fd,ps,c.e,c.c,⟨a,i,F.kp⟩,o F,F.binds b⟩
end
section
variable {X:Cx}{e:Expr}{fe:FE}{pos:Pos}
end
end TL
namespace Lib
open PySem L2 TL
def aAf:FS:=
 (fO (fIf (iC (fLt (fA 1) (mX (fB (fA 0) fJ)))) (gW (fIx (fA 0) (fA 1))) iD)
  (gW (fC (.int 0))))
def iK:List T->Option T:=jK aAf 2
def aAl:FS:=
 (gW (fLeLt (fC (.int 0)) (fA 1) (fA 0)))
def lJ:List T->Option T:=jK aAl 2
def aEq:FS:=
 (gW (wZ (uD "int" (fA 0)) (aAy (uD "bool" (fA 0)))))
def mC:List T->Option T:=jK aEq 1
def oM:FS:=
 (fO (fIf (oE (k6 (mK (f8 2 lJ (fB (fA 0) (fB (fA 3) fJ))))) (k6 (mK (f8 2 lJ (fB (fA 0) (fB (fA 4) fJ)))))) aAK iD)
  (fIf (iC (aHz (fA 3) (fIx (fA 2) (fA 4)))) (vH (fIx (fA 2) (fA 4)) (fB (fA 3) fJ)) iD))
def pV:FS:=
 (fO (fY (jB (j3 (fA 0) 1 [] (gN 0) gZ (jB (gK fJ)))) (gN 2))
  (fO (oP (fA 1) (gU [3,4])
   oM)
  (gW (fA 2))))
def gY:List T->Option T:=jK pV 5
def pF:FS:=
 (fIf (nV (iC (aHz (fA 2) (fA 1))) (mK (aKC (fB (fV (jQ (fIx (fA 0) (fA 2)) 1 [1] (gN 0) gZ (fIn (fA 0) (fA 1)))) fJ)))) (gW (fA 2)) iD)
def rE:FS:=
 (fO (lF (mX (fB (fA 0) fJ)) (gN 2)
  pF)
  aAK)
def mG:List T->Option T:=jK rE 3
def tG:FS:=
 (vH (fA 3) (fB (f8 2 mG (fB (fA 2) (fB (fA 3) fJ))) fJ))
def wK:FS:=
 (fO (fY (f8 2 gY (fB (fA 0) (fB (fA 1) fJ))) (gN 2))
  (fO (fY (jB (gK fJ)) (gN 3))
  (fO (lU (iC (fLt (mX (fB (fA 3) fJ)) (fA 0))) tG 10)
  (gW (fA 3)))))
def mY:List T->Option T:=jK wK 4
def pM:FS:=
 (gW (fV (tV (fA 0) (fA 1) 2 [] (gU [0,1]) gZ (i7 (fA 0) (fA 1)))))
def kF:List T->Option T:=jK pM 2
def sT:FS:=
 (rM (aIa (fV (jQ (fIx (fA 3) (fA 5)) 1 [4,0] (gN 0) gZ (i7 (fIx (fA 1) (fA 0)) (fIx (fA 2) (fA 0))))) (fC (.int 0))) (fA 4) (fA 5))
def yE:FS:=
 (fO (fY (f8 2 mY (fB (mX (fB (fA 0) fJ)) (fB (fA 1) fJ))) (gN 2))
  (fO (fY (f8 2 gY (fB (mX (fB (fA 0) fJ)) (fB (fA 1) fJ))) (gN 3))
  (fO (fY (jB (jQ (fA 2) 1 [] (gN 0) gZ (fC (.int 0)))) (gN 4))
  (fO (oP (fA 2) (gN 5)
   sT)
  (gW (fA 4))))))
def lX:List T->Option T:=jK yE 6
def aCn:FS:=
 (gW (aIa (f8 2 kF (fB (f8 2 lX (fB (fA 0) (fB (fA 1) fJ))) (fB (fA 0) fJ))) (fC (.int 0))))
def lB:List T->Option T:=jK aCn 2
def sW:FS:=
 (fO (fIf (oE (k6 (mK (f8 2 lJ (fB (fA 0) (fB (fA 3) fJ))))) (k6 (mK (f8 2 lJ (fB (fA 0) (fB (fA 4) fJ)))))) (fRaise "NoOrder" (fB (fC (.str "a need names a number that is no work")) fJ)) iD)
  (fIf (iC (aHz (fA 3) (fIx (fA 2) (fA 4)))) (vH (fIx (fA 2) (fA 4)) (fB (fA 3) fJ)) iD))
def pD:FS:=
 (fO (fY (jB (j3 (fA 0) 1 [] (gN 0) gZ (jB (gK fJ)))) (gN 2))
  (fO (oP (fA 1) (gU [3,4])
   sW)
  (gW (fA 2))))
def vC:List T->Option T:=jK pD 5
def uQ:List T->Option String:=aNf pD 5
def tY:FS:=
 (fIf (nV (iC (aHz (fA 2) (fA 1))) (mK (aKC (fB (fV (jQ (fIx (fA 0) (fA 2)) 1 [1] (gN 0) gZ (fIn (fA 0) (fA 1)))) fJ)))) (gW (fA 2)) iD)
def p7:FS:=
 (fO (lF (mX (fB (fA 0) fJ)) (gN 2)
  tY)
  (fRaise "NoOrder" (fB (fC (.str "a work would have to be done ahead of itself")) fJ)))
def y7:List T->Option T:=jK p7 3
def vJ:List T->Option String:=aNf p7 3
def zF:FS:=
 (fX (xApp (fA 3) (xCall 2 vJ (fB (fA 2) (fB (fA 3) fJ)))) (vH (fA 3) (fB (f8 2 y7 (fB (fA 2) (fB (fA 3) fJ))) fJ)))
def aCI:FS:=
 (fO (fX (xCall 2 uQ (fB (fA 0) (fB (fA 1) fJ))) (fY (f8 2 vC (fB (fA 0) (fB (fA 1) fJ))) (gN 2)))
  (fO (fY (jB (gK fJ)) (gN 3))
  (fO (lU (iC (fLt (mX (fB (fA 3) fJ)) (fA 0))) zF 10)
  (gW (fA 3)))))
def aBc:List T->Option String:=aNf aCI 4
def aCd:FS:=
 (fO (fY (iI (i7 (i7 (lW (fA 0) (fC (.int 48271))) (lW (lW (fA 1) (fA 1)) (fC (.int 69621)))) (fC (.int 3))) (fC (.int 2147483647))) (gN 2))
  (fO (fY (iI (lW (fA 2) (fA 2)) (fC (.int 2147483629))) (gN 2))
  (gW (iI (lW (fA 2) (fA 2)) (fC (.int 2147483587))))))
def j4:List T->Option T:=jK aCd 3
def sX:FS:=
 (fO (fY (iI (fA 2) (fC (.int 40))) (gN 3))
  (rM (f8 2 j4 (fB (i7 (fIx (fA 1) (fA 3)) (fIx (fA 0) (fA 2))) (fB (fA 2) fJ))) (fA 1) (fA 3)))
def yX:FS:=
 (fO (fY (jB (j3 (fC (.int 40)) 1 [0] (gN 0) gZ (f8 2 j4 (fB (f8 2 iK (fB (fA 1) (fB (fC (.int 0)) fJ))) (fB (i7 (fC (.int 90)) (fA 0)) fJ))))) (gN 1))
  (fO (pN (fC (.int 2)) (nO (fB (fC (.int 63)) (fB (mX (fB (fA 0) fJ)) fJ))) (gN 2)
   sX)
  (gW (fA 1))))
def l9:List T->Option T:=jK yX 4
def xP:FS:=
 (aIJ (fA 2) (fB (iI (f8 2 j4 (fB (fA 0) (fB (fA 3) fJ))) (i7 (fA 3) (fC (.int 1)))) (fB (fA 3) fJ)))
def aCM:FS:=
 (fO (fY (jB (gK fJ)) (gN 2))
  (fO (lF (fA 1) (gN 3)
   xP)
  (gW (fA 2))))
def pZ:List T->Option T:=jK aCM 4
def sI:FS:=
 (fO (fY (f8 2 iK (fB (fA 0) (fB (i7 (fC (.int 3)) (fA 5)) fJ))) (gN 6))
  (fO (fY (iI (fA 6) (fIx (fV (gK (fB (fC (.int 5)) (fB (fA 3) fJ)))) (pJ (fB (fGt (fA 3) (fC (.int 1))) fJ)))) (gN 7))
  (fO (fY (aEh (fA 6) (fIx (fV (gK (fB (fC (.int 5)) (fB (fA 3) fJ)))) (pJ (fB (fGt (fA 3) (fC (.int 1))) fJ)))) (gN 6))
  (fO (fY (iI (fA 6) (fIx (fV (gK (fB (fC (.int 6)) (fB (fA 3) fJ)))) (pJ (fB (fGt (fA 3) (fC (.int 1))) fJ)))) (gN 8))
  (fO (fY (aEh (fA 6) (fIx (fV (gK (fB (fC (.int 6)) (fB (fA 3) fJ)))) (pJ (fB (fGt (fA 3) (fC (.int 1))) fJ)))) (gN 6))
  (vH (fA 4) (fB (fV (gK (fB (i7 (fA 7) (fA 8)) (fB (fA 7) (fB (iI (fA 6) (fIx (fV (gK (fB (fC (.int 5)) (fB (fA 3) fJ)))) (pJ (fB (fGt (fA 3) (fC (.int 1))) fJ)))) fJ))))) fJ)))))))
def rV:FS:=
 (fO (aIJ (fA 9) (fB (iI (fA 6) (i7 (fA 5) (fC (.int 1)))) (fB (fA 5) fJ)))
  (fY (aEh (fA 6) (i7 (fA 5) (fC (.int 1)))) (gN 6)))
def rW:FS:=
 (fO (fIf (iC (fEq (iI (fA 6) (fC (.int 2))) (fC (.int 1)))) (vH (fA 10) (fB (fV (gK (fB (fA 11) (fB (fIx (fA 9) (fA 5)) fJ)))) fJ)) iD)
  (fY (lY (fA 6) (fC (.int 2))) (gN 6)))
def sH:FS:=
 (oP (fV (fSl (fA 9) mS (rF (fA 5)))) (gN 11)
  rW)
def wI:FS:=
 (fO (fY (fIx (fV (gK (fB (fC (.int 1)) (fB (lW (fA 2) (aKr (fC (.int 10)) (fC (.int 9)))) fJ)))) (iI (lY (f8 2 iK (fB (fA 0) (fB (fC (.int 1)) fJ))) (fC (.int 576))) (fC (.int 2)))) (gN 3))
  (fO (fY (jB (gK fJ)) (gN 4))
  (fO (lF (fA 1) (gN 5)
   sI)
  (fO (fY (f8 2 iK (fB (fA 0) (fB (fC (.int 2)) fJ))) (gN 6))
  (fO (fY (jB (gK fJ)) (gN 9))
  (fO (lF (fA 1) (gN 5)
   rV)
  (fO (fY (jB (gK fJ)) (gN 10))
  (fO (lF (fA 1) (gN 5)
   sH)
  (gW (tH (fB (fA 4) (fB (fA 10) fJ))))))))))))
def m4:List T->Option T:=jK wI 12
def aET:FS:=
 (fO (fY (iI (fA 0) (fC (.int 5))) (gN 5))
  (fO (fY (iI (fA 1) (fC (.int 6))) (gN 6))
  (fO (fY (iI (fA 2) (fC (.int 5))) (gN 7))
  (fO (fIf (iC (fEq (fA 3) (fC (.int 1)))) (fO (fY (i7 (lW (fA 0) (fA 4)) (iI (fA 1) (fC (.int 97)))) (gN 5))
  (fO (fY (lW (lW (fA 1) (fA 4)) (pJ (fB (fGt (iI (fA 1) (fC (.int 4))) (fC (.int 0))) fJ))) (gN 6))
  (fY (i7 (lW (fA 2) (fA 4)) (iI (fA 0) (fC (.int 89)))) (gN 7)))) iD)
  (fO (fIf (iC (fEq (fA 3) (fC (.int 2)))) (fO (fY (lW (iI (fA 1) (fC (.int 3))) (iI (lY (fA 1) (fC (.int 3))) (fC (.int 50)))) (gN 6))
  (fY (fIx (fV (gK (fB (fC (.int 0)) (fB (fC (.int 3)) (fB (fC (.int 3)) (fB (i7 (fC (.int 1)) (iI (fA 2) (fC (.int 40)))) fJ)))))) (iI (lY (fA 2) (fC (.int 64))) (fC (.int 4)))) (gN 7))) iD)
  (fO (fIf (nV (iC (fEq (fA 3) (fC (.int 3)))) (iC (fEq (iI (fA 0) (fC (.int 3))) (fC (.int 0))))) (fY (fC (.int 0)) (gN 5)) iD)
  (gW (fV (gK (fB (i7 (fA 5) (fA 6)) (fB (fA 5) (fB (fA 7) fJ))))))))))))
def aBy:List T->Option T:=jK aET 8
def aES:FS:=
 (fIf (iC (fGt (fA 6) (fC (.int 1)))) (fO (fY (i7 (fC (.int 1)) (iI (fIx (fA 3) (fA 11)) (pH (fA 6) (fC (.int 1))))) (gN 12))
  (fO (fY (iI (lY (fIx (fA 3) (fA 11)) (fC (.int 16))) (nO (fB (fA 12) (fB (fIx (fV (gK (fB (fC (.int 1)) (fB (fC (.int 2)) (fB (fC (.int 8)) fJ))))) (iI (lY (fA 7) (fC (.int 16))) (fC (.int 3)))) fJ)))) (gN 13))
  (fO (fY (fIx (fV (gK (fB (pH (pH (fA 12) (fC (.int 1))) (fA 13)) (fB (fA 13) fJ)))) (iI (lY (fA 7) (fC (.int 48))) (fC (.int 2)))) (gN 14))
  (aIJ (fA 10) (fB (iI (lY (fIx (fA 3) (fA 11)) (fC (.int 256))) (i7 (mX (fB (fA 10) fJ)) (fC (.int 1)))) (fB (fV (gK (fB (fIx (fA 9) (fA 14)) (fB (fIx (fA 9) (fA 12)) fJ)))) fJ)))))) iD)
def aLq:FS:=
 (fO (fY (f8 1 l9 (fB (fA 0) fJ)) (gN 3))
  (fO (fY (f8 2 iK (fB (fA 0) (fB (fC (.int 0)) fJ))) (gN 4))
  (fO (fY (iI (lY (fA 4) (fC (.int 4))) (nO (fB (fC (.int 6)) (fB (i7 (fA 1) (fC (.int 1))) fJ)))) (gN 5))
  (fO (fY (fIx (fV (gK (fB (fA 5) (fB (pH (fA 1) (fIx (fV (gK (fB (fC (.int 0)) (fB (fC (.int 0)) (fB (fC (.int 1)) (fB (fC (.int 2)) fJ)))))) (iI (lY (fA 4) (fC (.int 4))) (fC (.int 4))))) (fB (fA 5) (fB (nO (fB (fA 1) (fB (i7 (fC (.int 3)) (iI (lY (fA 4) (fC (.int 4))) (fC (.int 3)))) fJ))) fJ)))))) (iI (fA 4) (fC (.int 4)))) (gN 6))
  (fO (fY (f8 2 iK (fB (fA 0) (fB (fC (.int 1)) fJ))) (gN 7))
  (fO (fIf (iC (fEq (iI (lY (fA 7) (fC (.int 288))) (fC (.int 2))) (fC (.int 1)))) (gW (f8 3 m4 (fB (fA 0) (fB (nO (fB (fA 6) (fB (fIx (fV (gK (fB (fC (.int 5)) (fB (fC (.int 3)) fJ)))) (pJ (fB (fLt (fA 1) (fC (.int 5))) fJ))) fJ))) (fB (fA 2) fJ))))) iD)
  (fO (fY (fV (j3 (fA 6) 1 [3,7,2] (gN 0) gZ (f8 5 aBy (fB (fIx (fA 1) (fA 0)) (fB (fIx (fA 1) (i7 (fC (.int 8)) (fA 0))) (fB (fIx (fA 1) (i7 (fC (.int 16)) (fA 0))) (fB (iI (fA 2) (fC (.int 4))) (fB (fA 3) fJ)))))))) (gN 8))
  (fO (fY (f8 2 pZ (fB (fIx (fA 3) (fC (.int 39))) (fB (fA 6) fJ))) (gN 9))
  (fO (fY (jB (gK fJ)) (gN 10))
  (fO (pN (fC (.int 24)) (i7 (fC (.int 24)) (nO (fB (fC (.int 14)) (fB (i7 (fA 6) (iI (lY (fA 7) (fC (.int 4))) (fC (.int 4)))) fJ)))) (gN 11)
   aES)
  (gW (tH (fB (fA 8) (fB (fV (fSl (fA 10) (rF (iI (lY (fA 7) (fC (.int 96))) (fC (.int 3)))) mS)) fJ))))))))))))))
def aE0:List T->Option T:=jK aLq 15
def rC:FS:=
 (gW (fV (jQ (fA 0) 1 [] (gN 0) gZ (fIx (fA 0) (fC (.int 1))))))
def k8:List T->Option T:=jK rC 1
def sL:FS:=
 (gW (aL8 (iC (fEq (fIx (fA 0) (fC (.int 2))) (fC (.int 0)))) (fIx (fA 0) (fC (.int 1))) (fIx (fA 0) (fC (.int 0)))))
def o9:List T->Option T:=jK sL 1
def uZ:FS:=
 (gW (f8 2 lB (fB (f8 1 k8 (fB (fA 0) fJ)) (fB (fA 1) fJ))))
def iU:List T->Option T:=jK uZ 2
def xJ:FS:=
 (gW (f8 2 lB (fB (fV (jQ (fA 0) 1 [] (gN 0) gZ (f8 1 o9 (fB (fA 0) fJ)))) (fB (fA 1) fJ))))
def wU:List T->Option T:=jK xJ 2
def uU:FS:=
 (rM (fMax2 (fB (fIx (fA 2) (fA 5)) (fB (i7 (fIx (fA 2) (fA 4)) (fIx (fA 0) (fA 4))) fJ))) (fA 2) (fA 5))
def uR:FS:=
 (oP (fA 1) (gU [4,5])
  uU)
def aAg:FS:=
 (fO (fY (jB (jQ (fA 0) 1 [] (gN 0) gZ (fC (.int 0)))) (gN 2))
  (fO (lF (mX (fB (fA 0) fJ)) (gN 3)
   uR)
  (gW (fMaxL (fB (fV (aJB (fV (j3 (mX (fB (fA 0) fJ)) 1 [2,0] (gN 0) gZ (i7 (fIx (fA 1) (fA 0)) (fIx (fA 2) (fA 0))))) (fV (gK (fB (fC (.int 0)) fJ))))) fJ)))))
def j9:List T->Option T:=jK aAg 6
def aEH:FS:=
 (fO (fY (f8 2 j9 (fB (fV (jQ (fA 0) 1 [] (gN 0) gZ (fIx (fA 0) (fC (.int 1))))) (fB (fA 1) fJ))) (gN 2))
  (gW (tH (fB (fA 2) (fB (f8 2 j9 (fB (fV (jQ (fA 0) 1 [] (gN 0) gZ (fIx (fA 0) (pJ (fB (fEq (fIx (fA 0) (fC (.int 2))) (fC (.int 0))) fJ))))) (fB (fA 1) fJ))) fJ)))))
def qL:List T->Option T:=jK aEH 3
def rA:FS:=
 (gW (i7 (lW (fC (.int 2)) (fA 0)) (fC (.int 2))))
def iF:List T->Option T:=jK rA 1
def r9:FS:=
 (gW (i7 (lW (fC (.int 2)) (fA 0)) (fC (.int 3))))
def iP:List T->Option T:=jK r9 1
def aAi:FS:=
 (gW (pH (lY (fA 0) (fC (.int 2))) (fC (.int 1))))
def qW:List T->Option T:=jK aAi 1
def wX:FS:=
 (fO (nN "Pipe" "tail" (fA 0) (fA 1))
  (fO (nN "Pipe" "head" (fA 0) (fA 2))
  (fO (nN "Pipe" "hours" (fA 0) (fA 3))
  (fO (nN "Pipe" "room" (fA 0) (fA 4))
  (nN "Pipe" "back" (fA 0) (fC .non))))))
def lZ:List T->Sto->Option (T×Sto):=nA wX 5
def zT:FS:=
 (fO (fY (uT "Pipe" 5 lZ [] (fB (fA 1) (fB (fA 2) (fB (fA 3) (fB (fA 4) fJ))))) (gN 5))
  (fO (fY (uT "Pipe" 5 lZ [] (fB (fA 2) (fB (fA 1) (fB (fNeg (fA 3)) (fB (fC (.int 0)) fJ))))) (gN 6))
  (fO (nN "Pipe" "back" (fA 5) (fA 6))
  (fO (nN "Pipe" "back" (fA 6) (fA 5))
  (vH (lL "Net" "pipes" (fA 0)) (fB (fA 5) fJ))))))
def jP:List T->Sto->Option (T×Sto):=nA zT 7
def nE:FS:=
 (fO (m6 (lH "Net" "lay" 5 jP (fA 0) (fB (fC (.int 0)) (fB (f8 1 iF (fB (fA 5) fJ)) (fB (fC (.int 0)) (fB (fA 4) fJ))))))
  (fO (m6 (lH "Net" "lay" 5 jP (fA 0) (fB (f8 1 iF (fB (fA 5) fJ)) (fB (f8 1 iP (fB (fA 5) fJ)) (fB (fIx (fA 6) (fC (.int 0))) (fB (fIx (fA 6) (fC (.int 2))) fJ))))))
  (fO (m6 (lH "Net" "lay" 5 jP (fA 0) (fB (f8 1 iF (fB (fA 5) fJ)) (fB (f8 1 iP (fB (fA 5) fJ)) (fB (fIx (fA 6) (fC (.int 1))) (fB (fA 4) fJ))))))
  (m6 (lH "Net" "lay" 5 jP (fA 0) (fB (f8 1 iP (fB (fA 5) fJ)) (fB (fC (.int 1)) (fB (fC (.int 0)) (fB (fA 4) fJ)))))))))
def u8:FS:=
 (m6 (lH "Net" "lay" 5 jP (fA 0) (fB (f8 1 iP (fB (fA 9) fJ)) (fB (f8 1 iF (fB (fA 7) fJ)) (fB (fC (.int 0)) (fB (fA 4) fJ))))))
def nS:FS:=
 (oP (fA 8) (gN 9)
  u8)
def aAz:FS:=
 (fO (nN "Net" "pipes" (fA 0) (jB (gK fJ)))
  (fO (nN "Net" "places" (fA 0) (i7 (lW (fC (.int 2)) (mX (fB (fA 1) fJ))) (fC (.int 2))))
  (fO (fY (i7 (i7 (aIK (fB (fV (jQ (fA 1) 1 [] (gN 0) gZ (fIx (fA 0) (fC (.int 2))))) fJ)) (fA 3)) (fC (.int 1))) (gN 4))
  (fO (yM (fA 1) (gU [5,6])
   nE)
  (yM (f8 2 gY (fB (mX (fB (fA 1) fJ)) (fB (fA 2) fJ))) (gU [7,8])
   nS)))))
def oI:List T->Sto->Option (T×Sto):=nA aAz 10
def n4:FS:=
 (fO (fY (fV (aJB (lL "Net" "pipes" (fA 0)) (fV (jQ (lL "Net" "pipes" (fA 0)) 1 [] (gN 0) gZ (lL "Pipe" "back" (fA 0)))))) (gN 1))
  (gW (fV (jQ (fA 1) 1 [] (gN 0) (iC (fGt (lL "Pipe" "room" (fA 0)) (fC (.int 0)))) (fA 0)))))
def jJ:List T->Sto->Option (T×Sto):=nA n4 2
def nM:FS:=
 (fO (fY (i7 (fIx (fA 0) (lL "Pipe" "tail" (fA 3))) (lL "Pipe" "hours" (fA 3))) (gN 4))
  (fIf (iC (fGt (fA 4) (fIx (fA 0) (lL "Pipe" "head" (fA 3))))) (fO (rM (fA 4) (fA 0) (lL "Pipe" "head" (fA 3)))
  (fY (fC (.bl true)) (gN 2))) iD))
def pG:FS:=
 (fO (fY (fC (.bl false)) (gN 2))
  (fO (oP (fA 1) (gN 3)
   nM)
  (gW (fA 2))))
def lC:List T->Sto->Option (T×Sto):=nA pG 5
def vD:FS:=
 iD
def rG:FS:=
 (fO (fY (jB (j3 (lL "Net" "places" (fA 0)) 1 [] (gN 0) gZ (fC (.int 0)))) (gN 2))
  (fO (rM (fA 1) (fA 2) (fC (.int 1)))
  (fO (fY (lH "Net" "open_pipes" 1 jJ (fA 0) fJ) (gN 3))
  (fO (lU (mK (kZ 2 lC (fB (fA 2) (fB (fA 3) fJ)))) vD (10^200))
  (gW (fA 2))))))
def iN:List T->Sto->Option (T×Sto):=nA rG 4
def pE:FS:=
 (fIf (nV (iC (i8 (lL "Pipe" "tail" (fA 3)) (fA 0) (wB true))) (iC (i8 (lL "Pipe" "head" (fA 3)) (fA 0) (wB false)))) (wD (fA 2) (lL "Pipe" "head" (fA 3)) (fV (aJB (zQ (fA 0) (lL "Pipe" "tail" (fA 3))) (fV (gK (fB (fA 3) fJ)))))) iD)
def q9:FS:=
 (fO (fY (uV (.dk [])) (gN 2))
  (fO (oP (fA 1) (gN 3)
   pE)
  (gW (fA 2))))
def mH:List T->Sto->Option (T×Sto):=nA q9 4
def pA:FS:=
 (m6 (y6 (fA 3) (kZ 2 mH (fB (fA 3) (fB (fA 2) fJ)))))
def rK:FS:=
 (fO (fY (fV (jQ (fA 0) 1 [1] (gN 0) (iC (fEq (i7 (fIx (fA 1) (lL "Pipe" "tail" (fA 0))) (lL "Pipe" "hours" (fA 0))) (fIx (fA 1) (lL "Pipe" "head" (fA 0))))) (fA 0))) (gN 2))
  (fO (fY (t7 (fC (.int 0)) (fV (gK fJ))) (gN 3))
  (fO (lU (iC (i8 (fC (.int 1)) (fA 3) (wB false))) pA 40)
  (gW (zQ (fA 3) (fC (.int 1)))))))
def mE:List T->Sto->Option (T×Sto):=nA rK 4
def aAa:FS:=
 (gW (aGy (fB (fV (jQ (fA 0) 1 [] (gN 0) gZ (lL "Pipe" "room" (fA 0)))) fJ)))
def qV:List T->Sto->Option (T×Sto):=nA aAa 1
def aCF:FS:=
 (fO (uX "Pipe" "room" (fun i j=>i - j) (fA 2) (fA 1))
  (uX "Pipe" "room" (fun i j=>i+j) (lL "Pipe" "back" (fA 2)) (fA 1)))
def aIB:FS:=
 (oP (fA 0) (gN 2)
  aCF)
def aBi:List T->Sto->Option (T×Sto):=nA aIB 3
def tM:FS:=
 (fO (fY (kZ 2 mE (fB (lH "Net" "open_pipes" 1 jJ (fA 0) fJ) (fB (fA 2) fJ))) (gN 3))
  (fO (m6 (kZ 2 aBi (fB (fA 3) (fB (kZ 1 qV (fB (fA 3) fJ)) fJ))))
  (fY (lH "Net" "moments" 2 iN (fA 0) (fB (fC (.int 0)) fJ)) (gN 2))))
def yK:FS:=
 (fO (fY (lH "Net" "moments" 2 iN (fA 0) (fB (fC (.int 0)) fJ)) (gN 2))
  (lU (iC (fGt (fIx (fA 2) (fC (.int 1))) (fA 1))) tM (10^200)))
def oO:List T->Sto->Option (T×Sto):=nA yK 4
def sS:FS:=
 (gW (fV (uI (fA 1) 1 [0,1] (gN 0) (nV (iC (fEq (fIx (fA 0) (fC (.int 0))) (fA 1))) (iC (fGt (zQ (fA 2) (fA 0)) (fC (.int 0))))) (fA 0))))
def lP:List T->Sto->Option (T×Sto):=nA sS 2
def nP:FS:=
 (fO (vH (fA 1) (fB (fIx (fA 2) (fC (.int 0))) fJ))
  (fY (kZ 2 lP (fB (fIx (fIx (fA 2) (fC (.int 0))) (fC (.int 1))) (fB (fA 0) fJ))) (gN 2)))
def pB:FS:=
 (fO (fY (jB (gK fJ)) (gN 1))
  (fO (fY (kZ 2 lP (fB (fC (.int 0)) (fB (fA 0) fJ))) (gN 2))
  (fO (lU (mK (fA 2)) nP 40)
  (gW (fA 1)))))
def j5:List T->Sto->Option (T×Sto):=nA pB 3
def yJ:FS:=
 (gW (fV (jQ (fV (aFT (fA 0))) 2 [] (gU [0,1]) gZ (f8 1 qW (fB (fA 0) fJ)))))
def oS:List T->Sto->Option (T×Sto):=nA yJ 1
def sM:FS:=
 (zW (fun i j=>i - j) (fA 0) (fA 3) (fA 2))
def yA:FS:=
 (fO (fY (aGy (fB (fV (jQ (fA 1) 1 [0] (gN 0) gZ (zQ (fA 1) (fA 0)))) fJ)) (gN 2))
  (fO (oP (fA 1) (gN 3)
   sM)
  (gW (fA 2))))
def o7:List T->Sto->Option (T×Sto):=nA yA 4
def qG:FS:=
 (fO (fY (tH (fB (lL "Pipe" "tail" (fA 2)) (fB (lL "Pipe" "head" (fA 2)) fJ))) (gN 3))
  (wD (fA 1) (fA 3) (i7 (t9 (fA 1) (fA 3) (fC (.int 0))) (lL "Pipe" "room" (lL "Pipe" "back" (fA 2))))))
def pQ:FS:=
 (fO (vH (fA 4) (fB (jB (aJB (fV (gK (fB (kZ 2 o7 (fB (fA 1) (fB (fA 5) fJ))) fJ))) (kZ 1 oS (fB (fA 5) fJ)))) fJ))
  (fY (kZ 1 j5 (fB (fA 1) fJ)) (gN 5)))
def sQ:FS:=
 (fO (fY (uV (.dt [])) (gN 1))
  (fO (oP (lL "Net" "pipes" (fA 0)) (gN 2)
   qG)
  (fO (fY (jB (gK fJ)) (gN 4))
  (fO (fY (kZ 1 j5 (fB (fA 1) fJ)) (gN 5))
  (fO (lU (mK (fA 5)) pQ (10^200))
  (gW (fA 4)))))))
def mU:List T->Sto->Option (T×Sto):=nA sQ 6
def tL:FS:=
 (fO (fY (uT "Net" 4 oI [.int 0] (fB (fA 0) (fB (fA 1) fJ))) (gN 3))
  (fO (m6 (lH "Net" "fill" 2 oO (fA 3) (fB (fA 2) fJ)))
  (gW (fA 3))))
def kP:List T->Sto->Option (T×Sto):=nA tL 4
def xC:FS:=
 (fO (fY (fIx (fA 2) (f8 1 iF (fB (fA 0) fJ))) (gN 3))
  (gW (jB (gK (fB (fA 3) (fB (nO (fB (fIx (fA 1) (fC (.int 0))) (fB (pH (fIx (fA 2) (f8 1 iP (fB (fA 0) fJ))) (fA 3)) fJ))) fJ))))))
def oT:List T->Option (List T):=runN xC 4
def uG:FS:=
 (fO (fIf (iC (fLt (fA 2) (f8 2 iU (fB (fA 0) (fB (fA 1) fJ))))) (gW (fC .non)) iD)
  (fO (fY (lH "Net" "moments" 2 iN (kZ 3 kP (fB (fA 0) (fB (fA 1) (fB (fA 2) fJ)))) (fB (fA 2) fJ)) (gN 3))
  (gW (jB (uO (fA 0) 2 [3] (gU [0,1]) gZ (jB (fCallN 3 oT (fB (fA 0) (fB (fA 1) (fB (fA 2) fJ))))))))))
def mB:List T->Option (T×Sto):=zN uG 4
def pL:FS:=
 (fO (fIf (iC (fLt (fA 2) (f8 2 iU (fB (fA 0) (fB (fA 1) fJ))))) (gW (fC .non)) iD)
  (gW (lH "Net" "stream" 1 mU (kZ 3 kP (fB (fA 0) (fB (fA 1) (fB (fA 2) fJ)))) fJ)))
def kG:List T->Option (T×Sto):=zN pL 3
end Lib
namespace TL
open PySem L2
section
variable {τ:TSt}{C:Sto}{a b c f fe fo fi:FE}{fa fr fn:FN}{fb ga gb:FB}{F G:FS}
def wpE(f:FE)(τ:TSt)(C:Sto)(Q:T->Sto->Prop):Prop:=∃t C',f τ C=some (t,C')/\Q t C'
def wpA(f:FN)(τ:TSt)(C:Sto)(Q:List T->Sto->Prop):Prop:=∃t C',f τ C=some (t,C')/\Q t C'
def wpB(f:FB)(τ:TSt)(C:Sto)(Q:Bool->Sto->Prop):Prop:=∃t C',f τ C=some (t,C')/\Q t C'
def wpS(F:FS)(τ:TSt)(C:Sto)(Q:Fl->TSt->Sto->Prop):Prop:=∃l t C',F τ C=some (l,t,C')/\Q l t C'
def wpO(o:Option (T×Sto))(Q:T->Sto->Prop):Prop:=∃t C',o=some (t,C')/\Q t C'
def wpL(o:Option (List T))(Q:List T->Prop):Prop:=∃t,o=some t/\Q t
def wpC(o:Option (List T×Sto))(Q:List T->Sto->Prop):Prop:=∃t C',o=some (t,C')/\Q t C'
def wpG(g:FG)(t:T)(C:Sto)(τ:TSt)(Q:TSt->Prop):Prop:=∃τ',g t C τ=some τ'/\Q τ'
def wpR(o:Option T)(Q:T->Prop):Prop:=∃t,o=some t/\Q t
variable {Q:T->Sto->Prop}{QL:List T->Sto->Prop}{QB:Bool->Sto->Prop}{QS:Fl->TSt->Sto->Prop}{QG:TSt->Prop}{Ql:List T->Prop}
variable{i j lo:Int}{u:T}{R:List T->Option T}{us:List T}{P:Sto->Prop}{B:FS}
theorem fD{i:Nat}:wpE (fA i) τ C Q↔∃t,τ[i]?=some (some t)/\Q t C:=by
 unfold wpE fA;constructor
 ·rintro⟨t,C',e,q⟩;split at e
  ·rename_i t' h;cases e;exact⟨_,h,q⟩
  ·cases e
 ·rintro⟨t,e,q⟩
  exact⟨t,C,by rw[e],q⟩
theorem iR{t:T}:wpE (fC t) τ C Q↔Q t C:=by
 unfold wpE fC;constructor
 ·rintro⟨_,_,e,q⟩;cases e;exact q
 ·exact fun q=>⟨_,_,rfl,q⟩
theorem fP{g:T->T->Sto->Option (T×Sto)}:wpE (i8 a b g) τ C Q↔wpE a τ C fun x C1=>wpE b τ C1 fun y C2=>wpO (g x y C2) Q:=by
 unfold wpE i8 wpO;constructor
 ·rintro⟨t,C',e,q⟩;obtain⟨⟨x,C1⟩,e1,e⟩:=aK.mp e;obtain⟨⟨y,C2⟩,e2,e⟩:=aK.mp e
  exact⟨x,C1,e1,y,C2,e2,t,C',e,q⟩
 ·rintro⟨x,C1,e1,y,C2,e2,t,C',e,q⟩
  exact⟨t,C',by simp[e1,e2,e],q⟩
theorem aDr{g:T->Sto->Option (T×Sto)}:wpE (fUn a g) τ C Q↔wpE a τ C fun x C1=>wpO (g x C1) Q:=by
 unfold wpE fUn wpO;constructor
 ·rintro⟨t,C',e,q⟩;obtain⟨⟨x,C1⟩,e1,e⟩:=aK.mp e
  exact⟨x,C1,e1,t,C',e,q⟩
 ·rintro⟨x,C1,e1,t,C',e,q⟩
  exact⟨t,C',by simp[e1,e],q⟩
theorem tN{g:T->T->Sto->Option (List T)}:wpA (xF a b g) τ C QL↔wpE a τ C fun x C1=>wpE b τ C1 fun y C2=>wpL (g x y C2) fun us=>QL us C2:=by
 unfold wpA wpE xF wpL;constructor
 ·rintro⟨t,C',e,q⟩;obtain⟨⟨x,C1⟩,e1,e⟩:=aK.mp e;obtain⟨⟨y,C2⟩,e2,e⟩:=aK.mp e;obtain⟨us,e3,e⟩:=aL.mp e;cases e
  exact⟨x,C1,e1,y,_,e2,_,e3,q⟩
 ·rintro⟨x,C1,e1,y,C2,e2,t,e,q⟩
  exact⟨t,C2,by simp[e1,e2,e],q⟩
theorem fM:wpA fJ τ C QL↔QL [] C:=by
 unfold wpA fJ;constructor
 ·rintro⟨_,_,e,q⟩;cases e;exact q
 ·exact fun q=>⟨_,_,rfl,q⟩
theorem fG:wpA (fB a fr) τ C QL↔wpE a τ C fun x C1=>wpA fr τ C1 fun xs C2=>QL (x::xs) C2:=by
 unfold wpA wpE fB;constructor
 ·rintro⟨t,C',e,q⟩;obtain⟨⟨x,C1⟩,e1,e⟩:=aK.mp e;obtain⟨⟨y,C2⟩,e2,e⟩:=aL.mp e;cases e
  exact⟨x,C1,e1,y,_,e2,q⟩
 ·rintro⟨x,C1,e1,y,C2,e2,q⟩
  exact⟨_,C2,by simp[e1,e2],q⟩
theorem gF{g:List T->Sto->Option (T×Sto)}:wpE (nB fa g) τ C Q↔wpA fa τ C fun xs C1=>wpO (g xs C1) Q:=by
 unfold wpE wpA nB wpO;constructor
 ·rintro⟨t,C',e,q⟩;obtain⟨⟨x,C1⟩,e1,e⟩:=aK.mp e
  exact⟨x,C1,e1,t,C',e,q⟩
 ·rintro⟨x,C1,e1,t,C',e,q⟩
  exact⟨t,C',by simp[e1,e],q⟩
theorem qC{g:List T->Sto->Option (List T)}:wpA (rL fa g) τ C QL↔wpA fa τ C fun xs C1=>wpL (g xs C1) fun us=>QL us C1:=by
 unfold wpA rL wpL;constructor
 ·rintro⟨t,C',e,q⟩;obtain⟨⟨x,C1⟩,e1,e⟩:=aK.mp e;obtain⟨us,e3,e⟩:=aL.mp e;cases e
  exact⟨x,_,e1,_,e3,q⟩
 ·rintro⟨x,C1,e1,t,e,q⟩
  exact⟨t,C1,by simp[e1,e],q⟩
theorem iQ:wpA (gK fa) τ C QL↔wpA fa τ C fun xs C1=>xs.length<=lim/\QL xs C1:=by
 unfold gK;rw[qC];unfold wpA wpL;constructor
 ·rintro⟨x,C1,e,t,e2,q⟩;split at e2
  ·cases e2;exact⟨_,_,e,‹_›,q⟩
  ·cases e2
 ·rintro⟨x,C1,e,h,q⟩
  exact⟨x,C1,e,x,by rw[if_pos h],q⟩
theorem gC:wpE (fV fn) τ C Q↔wpA fn τ C fun us C1=>Q (.lst us) C1:=by
 unfold wpE wpA fV;constructor
 ·rintro⟨t,C',e,q⟩;obtain⟨⟨x,C1⟩,e1,e⟩:=aL.mp e;cases e
  exact⟨x,_,e1,q⟩
 ·rintro⟨x,C1,e1,q⟩
  exact⟨_,C1,by simp[e1],q⟩
theorem j7:wpE (jB fn) τ C Q↔wpA fn τ C fun us C1=>Q (.cell C1.length) (C1++[(.l,us)]):=by
 unfold wpE wpA jB;constructor
 ·rintro⟨t,C',e,q⟩;obtain⟨⟨x,C1⟩,e1,e⟩:=aL.mp e;cases e
  exact⟨x,_,e1,q⟩
 ·rintro⟨x,C1,e1,q⟩
  exact⟨_,_,by simp[e1],q⟩
theorem jH{g:Int->Int->T}:wpO (gI g (.int i) (.int j) C) Q↔Q (g i j) C:=by
 unfold wpO gI;constructor
 ·rintro⟨_,_,e,q⟩;cases e;exact q
 ·exact fun q=>⟨_,_,rfl,q⟩
theorem aMz{p:Prop}[Decidable p]{o:Option (T×Sto)}:wpO (if p then o else none) Q↔p/\wpO o Q:=by
 by_cases h:p<;>simp[h,wpO]
theorem n9{t:T}:wpO (some (t,C)) Q↔Q t C:=by
 unfold wpO;constructor
 ·rintro⟨_,_,e,q⟩;cases e;exact q
 ·exact fun q=>⟨_,_,rfl,q⟩
theorem yP{k:Int->Int->Bool}{g:Int->Int->T}:wpO (gIc k g (.int i) (.int j) C) Q↔k i j=true/\Q (g i j) C:=by
 show wpO (if k i j=true then some (g i j,C)else none) Q↔_;rw[aMz,n9]
theorem kY{t:T}:wpO (gIx t (.int i) C) Q↔∃ts,sqT C t=some ts/\∃x,atI ts i=some x/\Q x C:=by
 unfold wpO gIx;constructor
 ·rintro⟨t,C',e,q⟩;obtain⟨ts,e1,e⟩:=aK.mp e;obtain⟨x,e2,e⟩:=aL.mp e;cases e
  exact⟨ts,e1,_,e2,q⟩
 ·rintro⟨ts,e1,x,e2,q⟩
  exact⟨_,C,by simp[e1,e2],q⟩
theorem lT{t:T}:wpO (aFd [t] C) Q↔∃ts,sqT C t=some ts/\Q (.int ts.length) C:=by
 unfold wpO aFd;constructor
 ·rintro⟨t,C',e,q⟩;obtain⟨ts,e1,e⟩:=aL.mp e;cases e
  exact⟨ts,e1,q⟩
 ·rintro⟨ts,e1,q⟩
  exact⟨_,C,by simp[e1],q⟩
theorem xH{t:T}:wpL (aE1 [t] C) Ql↔∃ts,sqT C t=some ts/\Ql ts:=aOY
theorem vW{t:T}:wpL (aFQ t u C) Ql↔∃ts,liT C t=some ts/\∃us,liT C u=some us/\ts.length+us.length<=lim/\Ql (ts++us):=by
 unfold wpL aFQ;constructor
 ·rintro⟨t,e,q⟩;obtain⟨ts,e1,e⟩:=aK.mp e;obtain⟨us,e2,e⟩:=aK.mp e;split at e
  ·cases e;exact⟨ts,e1,us,e2,‹_›,q⟩
  ·cases e
 ·rintro⟨ts,e1,us,e2,h,q⟩
  exact⟨_,by simp[e1,e2,h],q⟩
theorem nZ{k:List Int->Bool}{g:List Int->Int}{t:T}:wpO (wJ k g [t] C) Q↔∃us,liT C t=some us/\∃ns,ints? us=some ns/\k ns=true/\Q (.int (g ns)) C:=by
 unfold wpO wJ;constructor
 ·rintro⟨t,C',e,q⟩;obtain⟨ts,e1,e⟩:=aK.mp e;obtain⟨ns,e2,e⟩:=aK.mp e;split at e
  ·cases e;exact⟨ts,e1,ns,e2,‹_›,q⟩
  ·cases e
 ·rintro⟨ts,e1,us,e2,h,q⟩
  exact⟨_,_,by simp[e1,e2,h],q⟩
theorem aEJ{g:List Bool->Bool}{t:T}:wpO (aIk g [t] C) Q↔∃us,liT C t=some us/\∃ns,bls? us=some ns/\Q (.bl (g ns)) C:=by
 unfold wpO aIk;constructor
 ·rintro⟨t,C',e,q⟩;obtain⟨ts,e1,e⟩:=aK.mp e;obtain⟨ns,e2,e⟩:=aL.mp e;cases e;exact⟨ts,e1,ns,e2,q⟩
 ·rintro⟨ts,e1,us,e2,q⟩
  exact⟨_,_,by simp[e1,e2],q⟩
theorem aGn{g:Int->Int->Int}:wpO (gI2 g [.int i,.int j] C) Q↔Q (.int (g i j)) C:=n9
theorem yT:wpO (gI2 (fun i j=>if j<i then j else i) [.int i,.int j] C) Q↔Q (.int (min i j)) C:=by
 rw[aGn,show(if j<i then j else i)=min i j by lia]
theorem aIl:wpO (gI2 (fun i j=>if j>i then j else i) [.int i,.int j] C) Q↔Q (.int (max i j)) C:=by
 rw[aGn,show(if j>i then j else i)=max i j by lia]
theorem aFE{i:Bool}:wpO (aEl [.bl i] C) Q↔Q (.int (if i then 1 else 0)) C:=n9
theorem aKW:wpO (aG6 (.int i) C) Q↔Q (.int (-i)) C:=n9
theorem sO{k:String}:wpE (uD k a) τ C Q↔wpE a τ C fun t C1=>∃x,aMc k t=some x/\Q (.bl x) C1:=by
 unfold uD;rw[aDr];unfold wpE wpO;constructor
 ·rintro⟨t,C',e,t2,C2,e2,q⟩;obtain⟨x,e3,e2⟩:=aL.mp e2;cases e2
  exact⟨t,_,e,x,e3,q⟩
 ·rintro⟨t,C',e,x,e2,q⟩
  exact⟨t,C',e,_,_,by simp[e2],q⟩
theorem aIq{n:Bool}{t:T}:wpO (gEq n t u C) Q↔∃x,dr 3 C t=some x/\∃y,dr 3 C u=some y/\∃k,eqT 5 x y=some k/\Q (.bl (if n then !k else k)) C:=by
 unfold wpO gEq;constructor
 ·rintro⟨t,C',e,q⟩;obtain⟨x,e1,e⟩:=aK.mp e;obtain⟨y,e2,e⟩:=aK.mp e;obtain⟨k,e3,e⟩:=aL.mp e;cases e
  exact⟨x,e1,y,e2,k,e3,q⟩
 ·rintro⟨x,e1,y,e2,k,e3,q⟩
  exact⟨_,_,by simp[e1,e2,e3],q⟩
theorem aNi{n:Bool}{t:T}:wpO (gIn n t u C) Q↔∃x,dr 3 C t=some x/\∃ts,liT C u=some ts/\∃us,mapO (dr 3 C) ts=some us/\∃k,inL (fun w=>eqT 5 w x) us=some k/\Q (.bl (if n then !k else k)) C:=by
 unfold wpO gIn;constructor
 ·rintro⟨t,C',e,q⟩;obtain⟨x,e1,e⟩:=aK.mp e;obtain⟨y,e2,e⟩:=aK.mp e;obtain⟨z,e4,e⟩:=aK.mp e;obtain⟨k,e3,e⟩:=aL.mp e;cases e
  exact⟨x,e1,y,e2,z,e4,k,e3,q⟩
 ·rintro⟨x,e1,y,e2,z,e4,k,e3,q⟩
  exact⟨_,_,by simp[e1,e2,e3,e4],q⟩
theorem aIg{n:Nat}{ts:List T}(hl:ts.length=n)(hc:CFs ts=true):wpO (jZ n R ts C) Q↔wpR (R ts) fun t=>Q t C:=by
 unfold wpO jZ wpR;rw[if_pos hl,if_pos hc];constructor
 ·rintro⟨t,C',e,q⟩;obtain⟨x,e1,e⟩:=aL.mp e;cases e;exact⟨_,e1,q⟩
 ·rintro⟨t,e,q⟩
  exact⟨_,_,by simp[e],q⟩
theorem gA{n:Nat}{ts:List T}{t:T}(e:R ts=some t)(hl:ts.length=n)(hc:CFs ts=true):wpO (jZ n R ts C) Q↔Q t C:=by
 rw[aIg hl hc,e];unfold wpR;constructor
 ·rintro⟨_,e,q⟩;cases e;exact q
 ·exact fun q=>⟨_,rfl,q⟩
theorem oH{n:Nat}{ts:List T}(hl:ts.length=n)(hu:mapO (dr 3 C) ts=some us)(h:wpR (R us) fun t=>sca t=true/\Q t C):wpO (jZ n R ts C) Q:=by
 unfold wpO jZ;obtain⟨t,e,hs,q⟩:=h;rw[if_pos hl];split
 ·rename_i hc;have:us=ts:=by
   have hi:=v4.mp hc;clear hl hc e;induction ts generalizing us with
   |nil=>cases hu;rfl
   |cons t ts ih=>
    obtain⟨u,e1,hu⟩:=aK.mp hu;obtain⟨r,e2,hu⟩:=aL.mp hu;cases hu;have h1:=hi t bF;rw[ih e2 fun t h=>hi t (aZ _ h)];have:u=t:=by
     cases t<;>simp_all [dr,CF]
    rw[this]
  rw[<-this,e]
  exact⟨_,_,rfl,q⟩
 ·rw[hu]
  exact⟨t,C,by simp[e,hs],q⟩
theorem aDC{n:Nat}{R:List T->Option (List T)}{ts:List T}(hl:ts.length=n)(hu:mapO (dr 3 C) ts=some us)(h:wpL (R us) fun t=>t.all sca=true/\Ql t):wpL (uA n R ts C) Ql:=by
 unfold wpL uA;obtain⟨t,e,hs,q⟩:=h;rw[if_pos hl];split
 ·rename_i hc;have:us=ts:=by
   have hi:=v4.mp hc;clear hl hc e;induction ts generalizing us with
   |nil=>cases hu;rfl
   |cons t ts ih=>
    obtain⟨u,e1,hu⟩:=aK.mp hu;obtain⟨r,e2,hu⟩:=aL.mp hu;cases hu;have h1:=hi t bF;rw[ih e2 fun t h=>hi t (aZ _ h)];have:u=t:=by
     cases t<;>simp_all [dr,CF]
    rw[this]
  rw[<-this]
  exact⟨_,e,q⟩
 ·rw[hu]
  exact⟨t,by simp only[aU,e,hs,if_true],q⟩
theorem gP:wpB (iC a) τ C QB↔wpE a τ C fun t C1=>∃x,t=.bl x/\QB x C1:=by
 unfold wpB wpE iC;constructor
 ·rintro⟨t,C',e,q⟩;obtain⟨⟨x,C1⟩,e1,e⟩:=aK.mp e;dsimp only at e;split at e
  ·cases e;exact⟨_,_,e1,_,rfl,q⟩
  ·cases e
 ·rintro⟨x,C1,e1,y,rfl,q⟩
  exact⟨y,C1,by simp[e1],q⟩
theorem jY:wpB (mK a) τ C QB↔wpE a τ C fun t C1=>∃x,aMx C1 t=some x/\QB x C1:=by
 unfold wpB wpE mK;constructor
 ·rintro⟨t,C',e,q⟩;obtain⟨⟨x,C1⟩,e1,e⟩:=aK.mp e;obtain⟨y,e2,e⟩:=aL.mp e;cases e
  exact⟨_,_,e1,_,e2,q⟩
 ·rintro⟨x,C1,e1,y,e2,q⟩
  exact⟨y,C1,by simp[e1,e2],q⟩
theorem sV:wpB (nV ga gb) τ C QB↔wpB ga τ C fun x C1=>if x=true then wpB gb τ C1 QB else QB false C1:=by
 unfold wpB nV;constructor
 ·rintro⟨t,C',e,q⟩;obtain⟨⟨x,C1⟩,e1,e⟩:=aK.mp e
  refine⟨x,C1,e1,?_⟩
  dsimp only at e;split at e
  ·rw[if_pos ‹_›];exact⟨t,C',e,q⟩
  ·cases e;rw[if_neg ‹_›];exact q
 ·rintro⟨x,C1,e1,q⟩;split at q
  ·obtain⟨t,C',e,q⟩:=q
   exact⟨t,C',by simp_all,q⟩
  ·exact⟨false,C1,by simp_all,q⟩
theorem lQ:wpB (oE ga gb) τ C QB↔wpB ga τ C fun x C1=>if x=true then QB true C1 else wpB gb τ C1 QB:=by
 unfold wpB oE;constructor
 ·rintro⟨t,C',e,q⟩;obtain⟨⟨x,C1⟩,e1,e⟩:=aK.mp e
  refine⟨x,C1,e1,?_⟩
  dsimp only at e;split at e
  ·cases e;rw[if_pos ‹_›];exact q
  ·rw[if_neg ‹_›];exact⟨t,C',e,q⟩
 ·rintro⟨x,C1,e1,q⟩;split at q
  ·exact⟨true,C1,by simp_all,q⟩
  ·obtain⟨t,C',e,q⟩:=q
   exact⟨t,C',by simp_all,q⟩
theorem kO:wpB (k6 ga) τ C QB↔wpB ga τ C fun x C1=>QB (!x) C1:=by
 unfold wpB k6;constructor
 ·rintro⟨t,C',e,q⟩;obtain⟨⟨x,C1⟩,e1,e⟩:=aL.mp e;cases e
  exact⟨x,_,e1,q⟩
 ·rintro⟨x,C1,e1,q⟩
  exact⟨_,C1,by simp[e1],q⟩
theorem aEF:wpE (wZ a b) τ C Q↔wpE a τ C fun t C1=>∃x,t=.bl x/\if x=true then wpE b τ C1 Q else Q (.bl false) C1:=by
 unfold wpE wZ;constructor
 ·rintro⟨t,C',e,q⟩;obtain⟨⟨x,C1⟩,e1,e⟩:=aK.mp e
  refine⟨x,C1,e1,?_⟩
  dsimp only at e;split at e
  ·exact⟨true,rfl,by rw[if_pos rfl];exact⟨t,C',e,q⟩⟩
  ·cases e;exact⟨false,rfl,by rw[if_neg (by simp)];exact q⟩
  ·cases e
 ·rintro⟨x,C1,e1,y,rfl,q⟩;split at q
  ·obtain⟨t,C',e,q⟩:=q
   exact⟨t,C',by simp_all,q⟩
  ·exact⟨.bl false,C1,by simp_all,q⟩
theorem aJG:wpE (aAy a) τ C Q↔wpE a τ C fun t C1=>∃x,t=.bl x/\Q (.bl (!x)) C1:=by
 unfold wpE aAy;constructor
 ·rintro⟨t,C',e,q⟩;obtain⟨⟨x,C1⟩,e1,e⟩:=aK.mp e;dsimp only at e;split at e
  ·cases e;exact⟨_,_,e1,_,rfl,q⟩
  ·cases e
 ·rintro⟨x,C1,e1,y,rfl,q⟩
  exact⟨_,C1,by simp[e1],q⟩
theorem aKt:wpE (aL8 ga a b) τ C Q↔wpB ga τ C fun x C1=>if x=true then wpE a τ C1 Q else wpE b τ C1 Q:=by
 unfold wpB wpE aL8;constructor
 ·rintro⟨t,C',e,q⟩;obtain⟨⟨x,C1⟩,e1,e⟩:=aK.mp e
  refine⟨x,C1,e1,?_⟩
  dsimp only at e;split at e
  ·rw[if_pos ‹_›];exact⟨t,C',e,q⟩
  ·rw[if_neg ‹_›];exact⟨t,C',e,q⟩
 ·rintro⟨x,C1,e1,q⟩;split at q
  ·obtain⟨t,C',e,q⟩:=q
   exact⟨t,C',by simp_all,q⟩
  ·obtain⟨t,C',e,q⟩:=q
   exact⟨t,C',by simp_all,q⟩
theorem aFp{p q:Int->Int->Bool}:wpE (tZ a b c p q) τ C Q↔wpE a τ C fun x C1=>wpE b τ C1 fun y C2=>∃i j,x=.int i/\y=.int j/\if p i j=true then wpE c τ C2 (fun z C3=>∃l,z=.int l/\Q (.bl (q j l)) C3)else Q (.bl false) C2:=by
 unfold wpE tZ;constructor
 ·rintro⟨t,C',e,q⟩;obtain⟨⟨x,C1⟩,e1,e⟩:=aK.mp e;obtain⟨⟨y,C2⟩,e2,e⟩:=aK.mp e
  refine⟨x,C1,e1,y,C2,e2,?_⟩
  dsimp only at e;split at e
  ·refine⟨_,_,rfl,rfl,?_⟩
   split at e
   ·rw[if_pos ‹_›];obtain⟨⟨z,C3⟩,e3,e⟩:=aK.mp e;dsimp only at e;split at e
    ·cases e;exact⟨_,_,e3,_,rfl,q⟩
    ·cases e
   ·rw[if_neg ‹_›];cases e;exact q
  ·cases e
 ·rintro⟨x,C1,e1,y,C2,e2,i,j,rfl,rfl,h⟩;split at h
  ·obtain⟨z,C3,e3,l,rfl,q⟩:=h
   exact⟨_,C3,by simp_all,q⟩
  ·exact⟨_,C2,by simp_all,h⟩
theorem gM:wpS iD τ C QS↔QS .nx τ C:=by
 unfold wpS iD;constructor
 ·rintro⟨_,_,_,e,q⟩;cases e;exact q
 ·exact fun q=>⟨_,_,_,rfl,q⟩
def sq(G:FS)(Q:Fl->TSt->Sto->Prop)(l:Fl)(τ:TSt)(C:Sto):Prop:=match l with
 | .nx=>wpS G τ C Q
 |l=>Q l τ C
theorem fN:wpS (fO F G) τ C QS↔wpS F τ C (sq G QS):=by
 unfold wpS fO;constructor
 ·rintro⟨l,t,C',e,q⟩;obtain⟨⟨l1,t1,C1⟩,e1,e⟩:=aK.mp e
  refine⟨l1,t1,C1,e1,?_⟩
  cases l1<;>first| (cases e;exact q)|exact⟨l,t,C',e,q⟩
 ·rintro⟨l1,t1,C1,e1,h⟩;cases l1 with
  |nx=>obtain⟨l,t,C',e,q⟩:=h;exact⟨l,t,C',by rw[e1];exact e,q⟩
  |_=>exact⟨_,t1,C1,by rw[e1];rfl,h⟩
theorem f7:sq G QS .nx τ C↔wpS G τ C QS:=aOY
theorem aNu{t:T}:sq G QS (.rt t) τ C↔QS (.rt t) τ C:=aOY
theorem aNZ{c:String}:sq G QS (.ex c) τ C↔QS (.ex c) τ C:=aOY
theorem aNH:sq G QS .bk τ C↔QS .bk τ C:=aOY
theorem aN5:sq G QS .ct τ C↔QS .ct τ C:=aOY
theorem iY:wpS (fIf ga F G) τ C QS↔wpB ga τ C fun x C1=>if x=true then wpS F τ C1 QS else wpS G τ C1 QS:=by
 unfold wpB wpS fIf;constructor
 ·rintro⟨l,t,C',e,q⟩;obtain⟨⟨x,C1⟩,e1,e⟩:=aK.mp e
  refine⟨x,C1,e1,?_⟩
  dsimp only at e;split at e
  ·rw[if_pos ‹_›];exact⟨l,t,C',e,q⟩
  ·rw[if_neg ‹_›];exact⟨l,t,C',e,q⟩
 ·rintro⟨x,C1,e1,q⟩;split at q
  ·obtain⟨l,t,C',e,q⟩:=q
   exact⟨l,t,C',by simp_all,q⟩
  ·obtain⟨l,t,C',e,q⟩:=q
   exact⟨l,t,C',by simp_all,q⟩
theorem iH:wpS (gW a) τ C QS↔wpE a τ C fun t C1=>QS (.rt t) τ C1:=by
 unfold wpE wpS gW;constructor
 ·rintro⟨l,t,C',e,q⟩;obtain⟨⟨x,C1⟩,e1,e⟩:=aL.mp e;cases e
  exact⟨x,_,e1,q⟩
 ·rintro⟨x,C1,e1,q⟩
  exact⟨_,_,C1,by simp[e1],q⟩
theorem pR:wpS (m6 a) τ C QS↔wpE a τ C fun t C1=>QS .nx τ C1:=by
 unfold wpE wpS m6;constructor
 ·rintro⟨l,t,C',e,q⟩;obtain⟨⟨x,C1⟩,e1,e⟩:=aL.mp e;cases e
  exact⟨x,_,e1,q⟩
 ·rintro⟨x,C1,e1,q⟩
  exact⟨_,_,C1,by simp[e1],q⟩
theorem gB{g:FG}:wpS (fY a g) τ C QS↔wpE a τ C fun t C1=>wpG g t C1 τ fun τ1=>QS .nx τ1 C1:=by
 unfold wpE wpS wpG fY;constructor
 ·rintro⟨l,t,C',e,q⟩;obtain⟨⟨x,C1⟩,e1,e⟩:=aK.mp e;obtain⟨τ1,e2,e⟩:=aL.mp e;cases e
  exact⟨x,_,e1,_,e2,q⟩
 ·rintro⟨x,C1,e1,τ1,e2,q⟩
  exact⟨_,_,C1,by simp[e1,e2],q⟩
theorem gD{i:Nat}{t:T}:wpG (gN i) t C τ QG↔QG (τ.set i (some t)):=by
 unfold wpG gN;constructor
 ·rintro⟨_,e,q⟩;cases e;exact q
 ·exact fun q=>⟨_,rfl,q⟩
theorem xE{is:List Nat}{t:T}:wpG (gU is) t C τ QG↔∃ts,sqT C t=some ts/\ts.length=is.length/\QG (setAll is ts τ):=by
 unfold wpG gU;constructor
 ·rintro⟨_,e,q⟩;obtain⟨ts,e1,e⟩:=aK.mp e;split at e
  ·cases e;exact⟨ts,e1,‹_›,q⟩
  ·cases e
 ·rintro⟨ts,e1,h,q⟩
  exact⟨_,by simp[e1,h],q⟩
theorem wN:wpS (rM fe fo fi) τ C QS↔wpE fe τ C fun x C1=>wpE fo τ C1 fun y C2=>wpE fi τ C2 fun z C3=>∃k i,y=.cell k/\z=.int i/\∃ts,lc C3 k=some ts/\∃j,ixN ts.length i=some j/\QS .nx τ (C3.set k (.l,ts.set j x)):=by
 unfold wpE wpS rM;constructor
 ·rintro⟨l,t,C',e,q⟩;obtain⟨⟨x,C1⟩,e1,e⟩:=aK.mp e;obtain⟨⟨y,C2⟩,e2,e⟩:=aK.mp e;obtain⟨⟨z,C3⟩,e3,e⟩:=aK.mp e
  refine⟨x,C1,e1,y,C2,e2,z,C3,e3,?_⟩
  dsimp only at e;split at e
  ·obtain⟨ts,e4,e⟩:=aK.mp e;obtain⟨j,e5,e⟩:=aL.mp e;cases e
   exact⟨_,_,rfl,rfl,ts,e4,j,e5,q⟩
  ·cases e
 ·rintro⟨x,C1,e1,y,C2,e2,z,C3,e3,k,i,rfl,rfl,ts,e4,j,e5,q⟩
  exact⟨_,_,_,by simp[e1,e2,e3,e4,e5],q⟩
theorem tK{g:List T->List T->Option (List T)}:wpS (aFi a fa g) τ C QS↔wpE a τ C fun x C1=>wpA fa τ C1 fun xs C2=>∃k,x=.cell k/\(lc C1 k).isSome=true/\∃ts,lc C2 k=some ts/\wpL (g ts xs) fun us=>QS .nx τ (C2.set k (.l,us)):=by
 unfold wpE wpA wpS aFi wpL;constructor
 ·rintro⟨l,t,C',e,q⟩;obtain⟨⟨x,C1⟩,e1,e⟩:=aK.mp e;obtain⟨⟨y,C2⟩,e2,e⟩:=aK.mp e
  refine⟨x,C1,e1,y,C2,e2,?_⟩
  dsimp only at e;split at e
  ·obtain⟨t0,e3,e⟩:=aK.mp e;obtain⟨ts,e4,e⟩:=aK.mp e;obtain⟨j,e5,e⟩:=aL.mp e;cases e
   exact⟨_,rfl,cP.mpr ⟨_,e3⟩,ts,e4,j,e5,q⟩
  ·cases e
 ·rintro⟨x,C1,e1,y,C2,e2,k,rfl,e3,ts,e4,j,e5,q⟩;obtain⟨t0,e3⟩:=cP.mp e3
  exact⟨_,_,_,by simp[e1,e2,e3,e4,e5],q⟩
theorem tE{ts:List T}{y:T}:wpL (aB5 ts [y]) Ql↔ts.length<lim/\Ql (ts++[y]):=by
 unfold wpL aB5;by_cases h:ts.length<lim<;>simp[h]
theorem aJ0{ts:List T}{y:T}:wpL (aCP ts [.int i,y]) Ql↔(ts.length<lim/\ -(2^63)<=i/\i<2^63)/\Ql (insAt ts i y):=by
 unfold wpL aCP;by_cases h:ts.length<lim/\ -(2^63)<=i/\i<2^63
 ·simp only[if_pos h,cN.injEq,exists_eq_left',and_iff_right h]
 ·simp only[if_neg h,reduceCtorEq,false_and,exists_false]
  exact⟨False.elim,fun(z:_/\_)=>h z.1⟩
theorem aLM{g:FG}(I:Nat->TSt->Sto->Prop){ts:List T}(h0:I 0 τ C)
 (hs:∀i t τ C,ts[i]?=some t->I i τ C->wpG g t C τ fun τ1=>wpS F τ1 C fun l τ2 C2=>match l with
  | .nx=>P C2/\I (i+1) τ2 C2
  | .ct=>P C2/\I (i+1) τ2 C2
  | .bk=>QS .nx τ2 C2
  | .rt v=>QS (.rt v) τ2 C2
  | .ex v=>QS (.ex v) τ2 C2)
 (hq:∀τ C,I ts.length τ C->QS .nx τ C):wpS (kH P g F ts) τ C QS:=by
 induction ts generalizing τ C I with
 |nil=>exact⟨.nx,τ,C,by simp[kH],hq _ _ h0⟩
 |cons t ts ih=>
  obtain⟨τ1,e1,l,τ2,C2,e2,h2⟩:=hs 0 t τ C rfl h0;have go:P C2/\I 1 τ2 C2->wpS (kH P g F ts) τ2 C2 QS:=fun h=>ih (fun i=>I (i+1)) h.2 (fun i t τ C e h=>hs (i+1) t τ C e h) (fun τ C h=>hq τ C h)
  cases l with
  |nx=>
   obtain⟨l,t',C',e,q⟩:=go h2
   exact⟨l,t',C',by simp[kH,e1,e2,h2.1,e],q⟩
  |ct=>
   obtain⟨l,t',C',e,q⟩:=go h2
   exact⟨l,t',C',by simp[kH,e1,e2,h2.1,e],q⟩
  |bk=>exact⟨.nx,τ2,C2,by simp[kH,e1,e2],h2⟩
  |rt v=>exact⟨.rt v,τ2,C2,by simp[kH,e1,e2],h2⟩
  |ex v=>exact⟨.ex v,τ2,C2,by simp[kH,e1,e2],h2⟩
theorem nF{g:FG}:wpS (oP a g F) τ C QS↔wpE a τ C fun t C1=>∃ts,liT C1 t=some ts/\wpS (kH (stays t ts) g F ts) τ C1 QS:=by
 unfold wpE wpS oP;constructor
 ·rintro⟨l,t,C',e,q⟩;obtain⟨⟨x,C1⟩,e1,e⟩:=aK.mp e;obtain⟨ts,e2,e⟩:=aK.mp e
  exact⟨x,C1,e1,ts,e2,l,t,C',e,q⟩
 ·rintro⟨x,C1,e1,ts,e2,l,t,C',e,q⟩
  exact⟨l,t,C',by simp[e1,e2,e],q⟩
theorem l7{g:FG}:wpS (lF a g F) τ C QS↔wpE a τ C fun t C1=>∃j,t=.int j/\(-(2^62)<=j/\j<2^62)/\wpS (kH (fun _=>True) g F (vE 0 j.toNat)) τ C1 QS:=by
 unfold wpE wpS lF;constructor
 ·rintro⟨l,t,C',e,q⟩;obtain⟨⟨x,C1⟩,e1,e⟩:=aK.mp e;dsimp only at e;split at e
  ·split at e
   ·exact⟨_,C1,e1,_,rfl,‹_›,l,t,C',e,q⟩
   ·cases e
  ·cases e
 ·rintro⟨x,C1,e1,j,rfl,h,l,t,C',e,q⟩
  exact⟨l,t,C',by rw[e1];exact(if_pos h).trans e,q⟩
theorem aFn{g:FG}:wpS (pN a b g F) τ C QS↔wpE a τ C fun t C1=>wpE b τ C1 fun u C2=>∃i j,t=.int i/\u=.int j/\(-(2^62)<=i/\i<2^62/\ -(2^62)<=j/\j<2^62)/\wpS (kH (fun _=>True) g F (vE i (j - i).toNat)) τ C2 QS:=by
 unfold wpE wpS pN;constructor
 ·rintro⟨l,t,C',e,q⟩;obtain⟨⟨x,C1⟩,e1,e⟩:=aK.mp e;obtain⟨⟨y,C2⟩,e2,e⟩:=aK.mp e;dsimp only at e;split at e
  ·split at e
   ·exact⟨_,C1,e1,_,C2,e2,_,_,rfl,rfl,‹_›,l,t,C',e,q⟩
   ·cases e
  ·cases e
 ·rintro⟨x,C1,e1,y,C2,e2,i,j,rfl,rfl,h,l,t,C',e,q⟩
  exact⟨l,t,C',by rw[e1];show((b τ C1).bind _)=_;rw[e2];exact(if_pos h).trans e,q⟩
theorem jW{α:Type}{g:FG}{en:α->T}{xs:List α}(I:Nat->TSt->Sto->Prop)(h0:I 0 τ C)
 (hs:∀i x τ C,xs[i]?=some x->I i τ C->wpG g (en x) C τ fun τ1=>wpS F τ1 C fun l τ2 C2=>match l with
  | .nx=>P C2/\I (i+1) τ2 C2
  | .ct=>P C2/\I (i+1) τ2 C2
  | .bk=>QS .nx τ2 C2
  | .rt v=>QS (.rt v) τ2 C2
  | .ex v=>QS (.ex v) τ2 C2)
 (hq:∀τ C,I xs.length τ C->QS .nx τ C):wpS (kH P g F (xs.map en)) τ C QS:=by
 refine aLM I h0 (fun i t τ C e h=>?_) (fun τ C h=>hq τ C (by simpa using h))
 rw[bJ]at e;obtain⟨x,ex,rfl⟩:=aL.mp e
 exact hs i x τ C ex h
theorem lN{g:FG}{n:Nat}(I:Nat->TSt->Sto->Prop)(h0:I 0 τ C)
 (hs:∀i τ C,i<n->I i τ C->wpG g (.int (lo+(i:Int))) C τ fun τ1=>wpS F τ1 C fun l τ2 C2=>match l with
  | .nx=>P C2/\I (i+1) τ2 C2
  | .ct=>P C2/\I (i+1) τ2 C2
  | .bk=>QS .nx τ2 C2
  | .rt v=>QS (.rt v) τ2 C2
  | .ex v=>QS (.ex v) τ2 C2)
 (hq:∀τ C,I n τ C->QS .nx τ C):wpS (kH P g F (vE lo n)) τ C QS:=by
 refine jW I h0 (fun i x τ C e h=>?_) (fun τ C h=>hq τ C (by simpa using h))
 obtain⟨hi,hx⟩:=aP.mp e;rw[aOp]at hx;subst hx
 exact hs _ τ C (by simpa using hi) h
theorem j8{k:Nat}{is:List Nat}{g:FG}:wpA (jQ a k is g fb fe) τ C QL↔wpE a τ C fun t C1=>∃ts,liT C1 t=some ts/\ts.length<lim/\wpC (jG g fb fe (scT k is τ) ts C1) QL:=by
 unfold wpE wpA jQ wpC;constructor
 ·rintro⟨t,C',e,q⟩;obtain⟨⟨x,C1⟩,e1,e⟩:=aK.mp e;obtain⟨ts,e2,e⟩:=aK.mp e;split at e
  ·exact⟨x,C1,e1,ts,e2,‹_›,t,C',e,q⟩
  ·cases e
 ·rintro⟨x,C1,e1,ts,e2,h,t,C',e,q⟩
  exact⟨t,C',by simp[e1,e2,h,e],q⟩
theorem oZ{k:Nat}{is:List Nat}{g:FG}:wpA (j3 a k is g fb fe) τ C QL↔wpE a τ C fun t C1=>∃j,t=.int j/\(j<50000/\ -(2^62)<=j)/\wpC (jG g fb fe (scT k is τ) (vE 0 j.toNat) C1) QL:=by
 unfold wpE wpA j3 wpC;constructor
 ·rintro⟨t,C',e,q⟩;obtain⟨⟨x,C1⟩,e1,e⟩:=aK.mp e;dsimp only at e;split at e
  ·split at e
   ·exact⟨_,C1,e1,_,rfl,‹_›,t,C',e,q⟩
   ·cases e
  ·cases e
 ·rintro⟨x,C1,e1,j,rfl,h,t,C',e,q⟩
  exact⟨t,C',by rw[e1];exact(if_pos h).trans e,q⟩
theorem aFO{k:Nat}{is:List Nat}{g:FG}:wpA (tV a b k is g fb fe) τ C QL↔wpE a τ C fun t C1=>wpE b τ C1 fun u C2=>∃ts,liT C2 t=some ts/\∃us,liT C2 u=some us/\(zH ts us).length<lim/\wpC (jG g fb fe (scT k is τ) (zH ts us) C2) QL:=by
 unfold wpE wpA tV wpC;constructor
 ·rintro⟨t,C',e,q⟩;obtain⟨⟨x,C1⟩,e1,e⟩:=aK.mp e;obtain⟨⟨y,C2⟩,e2,e⟩:=aK.mp e;obtain⟨ts,e3,e⟩:=aK.mp e;obtain⟨us,e4,e⟩:=aK.mp e;split at e
  ·exact⟨x,C1,e1,y,C2,e2,ts,e3,us,e4,‹_›,t,C',e,q⟩
  ·cases e
 ·rintro⟨x,C1,e1,y,C2,e2,ts,e3,us,e4,h,t,C',e,q⟩
  exact⟨t,C',by simp[e1,e2,e3,e4,h,e],q⟩
theorem sU{α:Type}{g:FG}{en:α->T}{xs:List α}(p:α->Bool)(u:α->T)
 (h:∀x∈xs,wpG g (en x) C τ fun τ1=>wpB fb τ1 C fun y C1=>C1=C/\y=p x/\(p x=true->wpE fe τ1 C fun t C2=>C2=C/\t=u x))
 (hq:QL ((xs.filter p).map u) C):wpC (jG g fb fe τ (xs.map en) C) QL:=by
 refine⟨_,C,?_,hq⟩
 clear hq;induction xs with
 |nil=>rfl
 |cons x xs ih=>
  obtain⟨τ1,e1,y,C1,e2,rfl,rfl,h3⟩:=h x bF;have ih:=ih fun y hy=>h y (aZ _ hy)
  rw[aM];unfold jG;rw[e1,aU,e2,aU];by_cases hp:p x=true
  ·obtain⟨t,C2,e3,rfl,rfl⟩:=h3 hp;rw[if_pos hp,e3,aU,ih,List.filter_cons_of_pos hp,aEE];rfl
  ·rw[if_neg hp,aEE,ih,List.filter_cons_of_neg hp]
theorem iB{α:Type}{g:FG}{en:α->T}{xs:List α}(u:α->T)
 (h:∀x∈xs,wpG g (en x) C τ fun τ1=>wpE fe τ1 C fun t C2=>C2=C/\t=u x)
 (hq:QL (xs.map u) C):wpC (jG g gZ fe τ (xs.map en) C) QL:=
 sU (fun _=>true) u (fun x hx=>let ⟨τ1,e,q⟩:=h x hx;⟨τ1,e,true,C,rfl,rfl,rfl,fun _=>q⟩) (by rw[List.filter_eq_self.mpr (fun _ _=>rfl)];exact hq)
theorem pX{n:Nat}:vE lo n=(bK n).map fun(i:Nat)=>T.int (lo+(i:Int)):=rfl
theorem aHv{α β:Type}{f:α->T}{g:β->T}{xs:List α}{ys:List β}:zH (xs.map f) (ys.map g)=(xs.zip ys).map fun p=>.tup [f p.1,g p.2]:=by
 unfold zH;rw[List.zip_map,cD];rfl
theorem iV{m:Nat}{ts:List T}{t:T}(h:wpS B (st0 m ts) [] fun l τ C=>match l with
 | .rt r=>dr 3 C r=some t
 | .nx=>t=.non
 |_=>False):jK B m ts=some t:=by
 obtain⟨l,τ,C,e,q⟩:=h;unfold jK;rw[e];cases l with
 |nx=>cases q;rfl
 |rt r=>exact q
 |_=>exact q.elim
theorem aJO{m:Nat}{ts:List T}(h:wpS B (st0 m ts) [] fun l τ C=>match l with
 | .rt (.cell c)=>lc C c=some us/\CFs us=true
 |_=>False):runN B m ts=some us:=by
 obtain⟨l,τ,C,e,q⟩:=h;unfold runN;rw[e];cases l with
 |rt r=>
  cases r with
  |cell c=>show(lc C c).bind _=_;rw[q.1];exact if_pos q.2
  |_=>exact q.elim
 |_=>exact q.elim
end
variable{i j:Int}{c:Nat}
theorem fS{α:Type}{o:Option α}{y:α}{p:α->Prop}(e:o=some y):(∃x,o=some x/\p x)↔p y:=by
 constructor
 ·rintro⟨x,e',h⟩;rw[e]at e';cases e'
  exact h
 ·exact fun h=>⟨y,e,h⟩
def Bt(k:Nat)(n:Int):Prop:=n.natAbs<2^k
theorem Bt.bits{n:Int}{k:Nat}(h:Bt k n):Builtin.Int.intBits n<=k:=by
 unfold Builtin.Int.intBits;unfold Bt at h;by_cases z:n=0
 ·subst z;exact dJ _
 ·have:(n==0)=false:=by simpa using z
  rw[this];have:=(aQc (by lia)).mpr h;simp
  lia
theorem Bt.mono{n:Int}{k m:Nat}(h:Bt k n)(hm:k<=m):Bt m n:=bP h (aOD (by decide) hm)
theorem Bt.mul{x y:Int}{k m:Nat}(h:Bt k x)(h':Bt m y):Bt (k+m) (x*y):=by
 unfold Bt at*;rw[Int.natAbs_mul,Nat.pow_add]
 exact Nat.mul_lt_mul'' h h'
theorem Bt.add{x y:Int}{k:Nat}(h:Bt k x)(h':Bt k y):Bt (k+1) (x+y):=by
 unfold Bt at*;rw[Nat.pow_succ]
 lia
theorem Bt.of_lt{x:Int}{k:Nat}(h1:0<=x)(h2:x<2^k):Bt k x:=by
 unfold Bt;have:((x.natAbs:Nat):Int)<((2^k:Nat):Int):=by
  rw[aPk h1];simpa using h2
 exact aP2.mp this
theorem yW{m n:Nat}(h1:Bt m i)(h2:Bt n j)(h:m+n<=134217728):kA i j=true:=by
 have h1:=h1.bits;have h2:=h2.bits;have h':Builtin.Int.intTooBig (Builtin.Int.intBits i+Builtin.Int.intBits j)=false:=by
  unfold Builtin.Int.intTooBig bitsLine
  exact decide_eq_false (by lia)
 unfold kA;rw[h'];simp
theorem gG(h1:Bt 64 i):kA i j=true:=by
 have:=h1.bits;unfold kA shortFactorBits;rw[show decide (Builtin.Int.intBits i>64)=false from decide_eq_false (by lia)];simp
theorem gO(h1:Bt 64 j):kA i j=true:=by
 have:=h1.bits;unfold kA shortFactorBits;rw[show decide (Builtin.Int.intBits j>64)=false from decide_eq_false (by lia)];simp
theorem Bt.mod{x m:Int}{k:Nat}(h1:0<m)(h2:m<=2^k):Bt k (x%m):=
 .of_lt (aOH _ (by lia)) (Int.lt_of_lt_of_le (aOq _ h1) h2)
theorem aDa{n:Nat}(h0:0<=i)(h:i<n):ixN n i=some i.toNat:=by
 unfold ixN;rw[if_pos h0,if_pos h]
theorem qE{α:Type}{xs:List α}(h0:0<=i):atI xs i=xs[i.toNat]?:=by
 unfold atI ixN;rw[if_pos h0];by_cases h:i<xs.length
 ·rw[if_pos h];rfl
 ·rw[if_neg h,dE (by lia)];rfl
theorem qB{α:Type}{xs:List α}{j:Nat}:atI xs (j:Int)=xs[j]?:=qE (by lia)
theorem aLg{α:Type}{x:α}{xs:List α}:atI (x::xs) 0=some x:=by rw[qE (by decide)];rfl
theorem aEc{α:Type}{x y:α}{xs:List α}:atI (x::y::xs) 1=some y:=by rw[qE (by decide)];rfl
theorem aK6{α:Type}{x y z:α}{xs:List α}:atI (x::y::z::xs) 2=some z:=by rw[qE (by decide)];rfl
theorem tP{x y:Int}:atI [T.int x,T.int y] (i%2)=some (.int (if i%2=0 then x else y)):=by
 rcases(by lia:i%2=0\/i%2=1)with h|h<;>rw[h]<;>rfl
theorem g8:CFs []=true:=by unfold CFs;rfl
theorem fT{t:T}{ts:List T}:CFs (t::ts)=(CF t&&CFs ts):=by rw[CFs]
theorem gH:CF (.int i)=true:=by unfold CF;rfl
theorem lA{i:Bool}:CF (.bl i)=true:=by unfold CF;rfl
theorem gJ{ts:List T}:CF (.lst ts)=CFs ts:=by rw[CF]
theorem kU{ts:List T}:CF (.tup ts)=CFs ts:=by rw[CF]
theorem aKA:CF (.cell c)=false:=by unfold CF;rfl
theorem tF{α:Type}{f:α->T}{xs:List α}(h:∀x∈xs,CF (f x)=true):CFs (xs.map f)=true:=v4.mpr fun t ht=>by
 obtain⟨x,hx,rfl⟩:=bL.mp ht
 exact h x hx
theorem iG{ns:List Int}:CFs (ns.map T.int)=true:=tF fun _ _=>gH
theorem iE{t:T}{n:Nat}{C:Sto}(h:CF t=true):dr n C t=some t:=by
 cases n with
 |zero=>unfold dr;rw[if_pos h]
 |succ n=>
  cases t with
  |cell c=>rw[aKA]at h;cases h
  |lst ts=>unfold dr;rw[gJ]at h;rw[if_pos h]
  |tup ts=>unfold dr;rw[kU]at h;rw[if_pos h]
  |_=>unfold dr;rw[if_pos h]
theorem aKm{f:T->Option T}{ts:List T}(h:∀t∈ts,f t=some t):mapO f ts=some ts:=by
 induction ts with
 |nil=>rfl
 |cons t ts ih=>unfold mapO;rw[h t bF,aU,ih fun u hu=>h u (aZ _ hu)];rfl
theorem aA7{ts:List T}{n:Nat}{C:Sto}(h:CFs ts=true):mapO (dr n C) ts=some ts:=aKm fun t ht=>iE (v4.mp h t ht)
theorem vS{n:Nat}{C:Sto}{ts:List T}(e:lc C c=some ts)(h:CFs ts=true):dr (n+1) C (.cell c)=some (.lst ts):=by
 unfold dr;rw[e,aU,aA7 h];rfl
theorem p9{f:T->Option T}:mapO f []=some []:=rfl
theorem hJ{f:T->Option T}{t u:T}{ts us:List T}(h:f t=some u)(hs:mapO f ts=some us):mapO f (t::ts)=some (u::us):=by
 unfold mapO;rw[h,aU,hs];rfl
theorem aHw{e:T->T->Option Bool}{ts:List T}(h:∀t∈ts,e t t=some true):eqL e ts ts=some true:=by
 induction ts with
 |nil=>rfl
 |cons t ts ih=>unfold eqL;rw[h t bF,aU,ih fun u hu=>h u (aZ _ hu)];rfl
theorem aJV{n:Nat}:eqT n (.int i) (.int j)=some (i==j):=by cases n<;>rfl
theorem aBh{n:Nat}{ts:List T}(h:∀t∈ts,eqT n t t=some true):eqT (n+1) (.lst ts) (.lst ts)=some true:=by
 unfold eqT;rw[if_pos rfl];exact aHw h
theorem oJ{α:Type}{xs:List α}{f:α->Int}:ints? (xs.map fun x=>T.int (f x))=some (xs.map f):=by
 rw[show(xs.map fun x=>T.int (f x))=(xs.map f).map T.int by simp];exact qP _
theorem aJN{α:Type}{xs:List α}{f:α->Bool}:bls? (xs.map fun x=>T.bl (f x))=some (xs.map f):=by
 rw[show(xs.map fun x=>T.bl (f x))=(xs.map f).map T.bl by simp];exact aH2 _
theorem yI{α:Type}{f:α->T}{xs:List α}{j:Nat}{x:α}:(xs.map f).set j (f x)=(xs.set j x).map f:=by rw[aP3]
theorem aBq{n:Nat}(h:n<=1000):n<lim:=by unfold lim;lia
section
variable {τ:TSt}{C:Sto}{a b c f fe fo fi:FE}{fa fr fn:FN}{fb ga gb:FB}{F G:FS}{lo hi:FO}
variable {Q:T->Sto->Prop}{QL:List T->Sto->Prop}{QB:Bool->Sto->Prop}{QS:Fl->TSt->Sto->Prop}{QG:TSt->Prop}{Ql:List T->Prop}{QO:Option Int->Sto->Prop}
variable{l h:Option Int}{p:Int×Int×Int}{ns:List (Int×Int)}{u:T}
def wpP(f:FO)(τ:TSt)(C:Sto)(Q:Option Int->Sto->Prop):Prop:=∃o C',f τ C=some (o,C')/\Q o C'
theorem aDu:wpP mS τ C QO↔QO none C:=by
 unfold wpP mS;constructor
 ·rintro⟨_,_,e,q⟩;cases e;exact q
 ·exact fun q=>⟨_,_,rfl,q⟩
theorem v9:wpP (rF a) τ C QO↔wpE a τ C fun t C1=>∃i,t=.int i/\QO (some i) C1:=by
 unfold wpP wpE rF;constructor
 ·rintro⟨t,C',e,q⟩;obtain⟨⟨x,C1⟩,e1,e⟩:=aK.mp e;dsimp only at e;split at e
  ·cases e;exact⟨_,_,e1,_,rfl,q⟩
  ·cases e
 ·rintro⟨x,C1,e1,y,rfl,q⟩
  exact⟨some y,C1,by simp[e1],q⟩
theorem aCU:wpA (fSl a lo hi) τ C QL↔wpE a τ C fun t C1=>wpP lo τ C1 fun l C2=>wpP hi τ C2 fun h C3=>∃ts,liT C3 t=some ts/\QL (aA3 ts l h) C3:=by
 unfold wpA wpE wpP fSl;constructor
 ·rintro⟨t,C',e,q⟩;obtain⟨⟨x,C1⟩,e1,e⟩:=aK.mp e;obtain⟨⟨y,C2⟩,e2,e⟩:=aK.mp e;obtain⟨⟨z,C3⟩,e3,e⟩:=aK.mp e;obtain⟨ts,e4,e⟩:=aL.mp e;cases e
  exact⟨x,C1,e1,y,C2,e2,z,_,e3,ts,e4,q⟩
 ·rintro⟨x,C1,e1,y,C2,e2,z,C3,e3,ts,e4,q⟩
  exact⟨_,C3,by simp[e1,e2,e3,e4],q⟩
def wV{α:Type}(xs:List α)(lo hi:Option Int):List α:=(xs.drop (HT.sIx xs.length 0 lo)).take (HT.sIx xs.length xs.length hi - HT.sIx xs.length 0 lo)
theorem yB{α:Type}{f:α->T}{xs:List α}:aA3 (xs.map f) l h=(wV xs l h).map f:=by
 unfold aA3 wV;simp[aPW,aPX]
theorem aHF{α:Type}{xs:List α}{x:α}(m:x∈wV xs l h):x∈xs:=List.mem_of_mem_drop (aPl m)
theorem aHM{α:Type}{xs:List α}:(wV xs l h).length<=xs.length:=by
 unfold wV;simp;lia
theorem aFD{α:Type}{xs:List α}{k:Int}(hk:0<=k):wV xs (some k) none=xs.drop k.toNat:=by
 unfold wV;have e:HT.sIx xs.length 0 (some k)=min k.toNat xs.length:=by
  show(if k<0 then(k+(xs.length:Int)).toNat else min k.toNat xs.length)=_;rw[if_neg (by lia)]
 rw[e,HT.aCJ];by_cases h:k.toNat<=xs.length
 ·rw[aPe h,dN (by simp)]
 ·rw[aO5 (by lia),eA (by lia:xs.length<=xs.length),eA (by lia:xs.length<=k.toNat)];simp
theorem aE3{α:Type}{xs:List α}{k:Int}(hk:0<=k):wV xs none (some k)=xs.take k.toNat:=by
 unfold wV;have e:HT.sIx xs.length xs.length (some k)=min k.toNat xs.length:=by
  show(if k<0 then(k+(xs.length:Int)).toNat else min k.toNat xs.length)=_;rw[if_neg (by lia)]
 rw[e,HT.aCJ,aPR,aP4];by_cases h:k.toNat<=xs.length
 ·rw[aPe h]
 ·rw[aO5 (by lia),dN (bI _),dN (by lia)]
noncomputable def pT(p:Int×Int):T:=.lst [.int p.1,.int p.2]
noncomputable def w3(p:Int×Int×Int):T:=.lst [.int p.1,.int p.2.1,.int p.2.2]
noncomputable def iT(ns:List Int):T:=.lst (ns.map T.int)
theorem aGH{p:Int×Int}:CF (pT p)=true:=by simp[pT,gJ,fT,g8,gH]
theorem aGe:CF (w3 p)=true:=by simp[w3,gJ,fT,g8,gH]
theorem aNt{ns:List Int}:CF (iT ns)=true:=by rw[iT,gJ];exact iG
theorem kS{ps:List (Int×Int)}:CFs (ps.map pT)=true:=tF fun _ _=>aGH
theorem nT{ps:List (Int×Int×Int)}:CFs (ps.map w3)=true:=tF fun _ _=>aGe
theorem aMU{ps:List (List Int)}:CFs (ps.map iT)=true:=tF fun _ _=>aNt
theorem aEW{α:Type}[DecidableEq α]{e:T->T->Option Bool}{f:α->T}(h:∀x y,e (f x) (f y)=some (decide (x=y))):∀{xs ys:List α},xs.length=ys.length->eqL e (xs.map f) (ys.map f)=some (decide (xs=ys))
 | [],[],_=>rfl
 |x::xs,y::ys,hl=>by
  rw[aM,aM];unfold eqL;rw[h,aU,aEW h (by simpa using hl)];simp only[aOo,aPq.injEq,Bool.decide_and]
theorem qQ{α:Type}[DecidableEq α]{n:Nat}{f:α->T}(h:∀x y,eqT n (f x) (f y)=some (decide (x=y))){xs ys:List α}:eqT (n+1) (.lst (xs.map f)) (.lst (ys.map f))=some (decide (xs=ys)):=by
 unfold eqT;by_cases hl:xs.length=ys.length
 ·rw[if_pos (by simpa using hl),aEW h hl]
 ·rw[if_neg (by simpa using hl),decide_eq_false (fun z=>hl (by rw[z]))]
theorem nX{n:Nat}{i j:Int}:eqT n (.int i) (.int j)=some (decide (i=j)):=by rw[aJV];congr 1
theorem aGR{n:Nat}{p q:Int×Int}:eqT (n+1) (pT p) (pT q)=some (decide (p=q)):=by
 have:=qQ (n:=n) (f:=T.int) (fun x y=>nX) (xs:=[p.1,p.2]) (ys:=[q.1,q.2]);obtain⟨a,b⟩:=p;obtain⟨c,d⟩:=q;simp only[aM,bD]at this;unfold pT;rw[this];simp
theorem aMH{n:Nat}{q:Int×Int×Int}:eqT (n+1) (w3 p) (w3 q)=some (decide (p=q)):=by
 have:=qQ (n:=n) (f:=T.int) (fun x y=>nX) (xs:=[p.1,p.2.1,p.2.2]) (ys:=[q.1,q.2.1,q.2.2]);obtain⟨a,b,e⟩:=p;obtain⟨c,d,f⟩:=q;simp only[aM,bD]at this;unfold w3;rw[this];simp
theorem aIh{n:Nat}{p q:List Int}:eqT (n+1) (iT p) (iT q)=some (decide (p=q)):=qQ fun x y=>nX
theorem aEn{α:Type}[DecidableEq α]{e:T->T->Option Bool}{f:α->T}(h:∀x y,e (f x) (f y)=some (decide (x=y))){y:α}:∀{xs:List α},inL (fun u=>e u (f y)) (xs.map f)=some (decide (y∈xs))
 | []=>rfl
 |x::xs=>by
  rw[aM];unfold inL;rw[h,aU,aEn h];simp only[aOo,cN.injEq,bE,Bool.decide_or];congr 1;by_cases z:x=y
  ·simp[z]
  ·simp[z,show¬y=x from fun q=>z q.symm]
theorem aD2{α:Type}[DecidableEq α]{n:Bool}{f:α->T}{y:α}{xs:List α}[Decidable (y∈xs)]{t:T}(h:∀x y,eqT 5 (f x) (f y)=some (decide (x=y)))(hc:∀x,CF (f x)=true)(ht:dr 3 C t=some (f y))(hu:liT C u=some (xs.map f)):
 wpO (gIn n t u C) Q↔Q (.bl (if n then !decide (y∈xs)else decide (y∈xs))) C:=by
 rw[aNi,fS ht,fS hu,fS (aA7 (tF fun x _=>hc x)),fS ((aEn h).trans (congrArg some (decide_eq_decide.mpr aOY)))]
theorem vQ{α:Type}[DecidableEq α]{n:Bool}{f:α->T}{x y:α}{t:T}(h:∀x y,eqT 5 (f x) (f y)=some (decide (x=y)))(ht:dr 3 C t=some (f x))(hu:dr 3 C u=some (f y)):
 wpO (gEq n t u C) Q↔Q (.bl (if n then !decide (x=y)else decide (x=y))) C:=by
 rw[aIq,fS ht,fS hu,fS (h x y)]
theorem aAX{i j:Int}:wpO (gEq false (.int i) (.int j) C) Q↔Q (.bl (decide (i=j))) C:=vQ (f:=T.int) (fun _ _=>nX) (iE gH) (iE gH)
theorem v5{i j:Int}:wpO (gEq true (.int i) (.int j) C) Q↔Q (.bl (!decide (i=j))) C:=vQ (f:=T.int) (fun _ _=>nX) (iE gH) (iE gH)
theorem aEo{n:Bool}{i:Int}{ns:List Int}(h:liT C u=some (ns.map T.int)):wpO (gIn n (.int i) u C) Q↔Q (.bl (if n then !decide (i∈ns)else decide (i∈ns))) C:=aD2 (f:=T.int) (fun _ _=>nX) (fun _=>gH) (iE gH) h
theorem aJ6{n:Bool}{i j:Int}(h:liT C u=some (ns.map pT)):wpO (gIn n (.lst [.int i,.int j]) u C) Q↔Q (.bl (if n then !decide ((i,j)∈ns)else decide ((i,j)∈ns))) C:=
 aD2 (f:=pT) (y:=(i,j)) (fun _ _=>aGR) (fun _=>aGH) (show dr 3 C (.lst [.int i,.int j])=some (pT (i,j))from iE (aGH (p:=(i,j)))) h
theorem aBU{n:Bool}{i:Int}{ns:List Int}:wpO (gIn n (.int i) (.lst (ns.map T.int)) C) Q↔Q (.bl (if n then !decide (i∈ns)else decide (i∈ns))) C:=aEo rfl
theorem aB7{n:Bool}{i j:Int}:wpO (gIn n (.lst [.int i,.int j]) (.lst (ns.map pT)) C) Q↔Q (.bl (if n then !decide ((i,j)∈ns)else decide ((i,j)∈ns))) C:=aJ6 rfl
theorem aNO{x y:Bool}:(if false=true then x else y)=y:=rfl
theorem aN9{x y:Bool}:(if true=true then x else y)=x:=rfl
instance{k:Nat}{n:Int}:Decidable (Bt k n):=by unfold Bt;infer_instance
theorem Bt.zero{k:Nat}:Bt k 0:=Nat.two_pow_pos k
theorem Bt.sml{k:Nat}{n:Int}(h0:0<=n)(h:n<1024)(hk:10<=k):Bt k n:=(Bt.of_lt (k:=10) h0 h).mono hk
theorem aGA{t:T}{d:Int}:wpO (aCE t (.int d) C) Q↔∃us,liT C t=some us/\∃ns,ints? us=some ns/\Q (.int (jD d ns)) C:=by
 unfold wpO aCE;constructor
 ·rintro⟨t,C',e,q⟩;obtain⟨us,e1,e⟩:=aK.mp e;obtain⟨ns,e2,e⟩:=aL.mp e;cases e
  exact⟨us,e1,ns,e2,q⟩
 ·rintro⟨us,e1,ns,e2,q⟩
  exact⟨_,C,by simp[e1,e2],q⟩
theorem aI7{ts:List T}:liT C (.lst ts)=some ts:=rfl
theorem aJv{ts:List T}:lc ((.l,ts)::C) 0=some ts:=rfl
theorem aKQ{x:Cl}{n:Nat}:lc (x::C) (n+1)=lc C n:=rfl
theorem aG4{c:Nat}:liT C (.cell c)=lc C c:=rfl
theorem aJJ{ts:List T}:sqT C (.lst ts)=some ts:=rfl
theorem aHy{c:Nat}:sqT C (.cell c)=lc C c:=rfl
theorem aKq{ts:List T}:sqT C (.tup ts)=some ts:=rfl
theorem aMs{p:Int×Int}:sqT C (pT p)=some [.int p.1,.int p.2]:=rfl
theorem aM4:sqT C (w3 p)=some [.int p.1,.int p.2.1,.int p.2.2]:=rfl
theorem aNg{p:List Int}:sqT C (iT p)=some (p.map T.int):=rfl
theorem aM0{p:List Int}:liT C (iT p)=some (p.map T.int):=rfl
theorem aL3{p:Int×Int}:liT C (pT p)=some [.int p.1,.int p.2]:=rfl
theorem aLL:liT C (w3 p)=some [.int p.1,.int p.2.1,.int p.2.2]:=rfl
def frzQ(Q:Fl->TSt->Sto->Prop)(l:Fl)(τ:TSt)(C:Sto):Prop:=match l with
 | .nx=>∃τ2,frz C τ=some τ2/\Q .nx τ2 []
 |l=>Q l τ C
theorem aKz:frzQ QS .nx τ C↔∃τ2,frz C τ=some τ2/\QS .nx τ2 []:=aOY
theorem aJU{t:T}:frzQ QS (.rt t) τ C↔QS (.rt t) τ C:=aOY
theorem aGk{b:Bool}:aMx C (.bl b)=some b:=rfl
end
variable{β:Type}{ps:List (Int×Int)}
theorem lR{B:FS}{m:Nat}{ts:List T}{P:T->Prop}(h:wpS B (st0 m ts) [] fun l τ C=>match l with
 | .rt r=>∃t,dr 3 C r=some t/\P t
 | .nx=>P .non
 |_=>False):∃t,jK B m ts=some t/\P t:=by
 obtain⟨l,τ,C,e,q⟩:=h;unfold jK;rw[e];cases l with
 |nx=>exact⟨_,rfl,q⟩
 |rt r=>exact q
 |_=>exact q.elim
theorem xG{α:Type}{xs:List α}{i:Int}{y:α}:(insAt xs i y).length=xs.length+1:=by
 unfold insAt;rw[bC,aN,d4,aO4]
 lia
theorem uE{α:Type}{f:α->β}{xs:List α}{i:Int}{y:α}:insAt (xs.map f) i (f y)=(insAt xs i y).map f:=by
 unfold insAt;simp[aPX,aPW]
theorem u5{α:Type}{xs:List α}{i:Int}{y:α}:(insAt xs i y).Perm (y::xs):=by
 unfold insAt
 refine List.perm_middle.trans ?_
 rw[List.take_append_drop]
theorem aBn{α:Type}{f:α->β}{xs:List α}{i:Int}:atI (xs.map f) i=(atI xs i).map f:=by
 unfold atI;rw[aR];cases ixN xs.length i<;>simp
theorem aL9{α:Type}{xs:List α}{i:Int}(h0:0<=i)(h:i<xs.length):atI xs i=some (xs[i.toNat]'(by lia)):=by
 rw[qE h0,bA (by lia)]
theorem i0{x m:Int}(h:0<m):0<=x%m/\x%m<m:=⟨aOH _ (by lia),aOq _ h⟩
theorem gS{x y:Int}(h0:0<=x)(h:x<1024):kA x y=true:=gG (Bt.sml h0 h (by decide))
theorem hZ{x y:Int}(h0:0<=y)(h:y<1024):kA x y=true:=gO (Bt.sml h0 h (by decide))
theorem kI{p:Prop}[Decidable p](h:p):decide p=true:=decide_eq_true h
theorem aHp{n c:Nat}{C:Sto}(e:lc C c=some (ps.map pT)):dr (n+1) C (.cell c)=some (.lst (ps.map pT)):=vS e kS
theorem m7{n c:Nat}{C:Sto}{ps:List Int}(e:lc C c=some (ps.map T.int)):dr (n+1) C (.cell c)=some (.lst (ps.map T.int)):=vS e iG
theorem yG{ns:List Int}{i:Int}(h0:0<=i)(h:i<ns.length):atI (ns.map T.int) i=some (.int (ns[i.toNat]'(by lia))):=by rw[aBn,aL9 h0 h];rfl
theorem aKI{a b:Int}:ps.map pT++[.lst [.int a,.int b]]=(ps++[(a,b)]).map pT:=by rw[bS];rfl
theorem aDS{ps:List Int}{a:Int}:ps.map T.int++[.int a]=(ps++[a]).map T.int:=by rw[bS];rfl
theorem aIX{n:Nat}{C:Sto}{vs:List Int}:dr n C (.lst (vs.map T.int))=some (.lst (vs.map T.int)):=iE (by rw[gJ];exact iG)
theorem aBN{n:Bool}{xs ys:List Int}{C:Sto}{Q:T->Sto->Prop}:wpO (gEq n (.lst (xs.map T.int)) (.lst (ys.map T.int)) C) Q↔Q (.bl (if n then !decide (xs=ys)else decide (xs=ys))) C:=vQ (f:=iT) (fun _ _=>aIh) aIX aIX
theorem rS:∀{ns:List Int},ns≠[]->tR ns∈ns/\∀a∈ns,a<=tR ns:=by
 have key:∀(ns:List Int)(n:Int),(ns.foldl (fun a b=>if b>a then b else a) n=n\/ns.foldl (fun a b=>if b>a then b else a) n∈ns)/\n<=ns.foldl (fun a b=>if b>a then b else a) n/\∀a∈ns,a<=ns.foldl (fun a b=>if b>a then b else a) n:=by
  intro ns;induction ns with
  |nil=>intro n;simp
  |cons m ns ih=>
   intro n;rw[aOF];obtain⟨h1,h2,h3⟩:=ih (if m>n then m else n);by_cases hm:m>n
   ·rw[if_pos hm]at h1 h2 h3|-
    refine⟨?_,by lia,fun a ha=>?_⟩
    ·rcases h1 with h1|h1
     ·rw[h1];simp
     ·exact .inr (aZ _ h1)
    ·rcases bE.mp ha with rfl|ha
     ·exact h2
     ·exact h3 a ha
   ·rw[if_neg hm]at h1 h2 h3|-
    refine⟨?_,h2,fun a ha=>?_⟩
    ·rcases h1 with h1|h1
     ·exact .inl h1
     ·exact .inr (aZ _ h1)
    ·rcases bE.mp ha with rfl|ha
     ·lia
     ·exact h3 a ha
 intro ns hne;cases ns with
 |nil=>exact absurd rfl hne
 |cons n ns=>
  obtain⟨h1,h2,h3⟩:=key ns n
  refine⟨?_,fun a ha=>?_⟩
  ·rcases h1 with h1|h1
   ·show aPw (fun a b=>if b>a then b else a) n ns∈n::ns;rw[h1];simp
   ·exact aZ _ h1
  ·rcases bE.mp ha with rfl|ha
   ·exact h2
   ·exact h3 a ha
end TL
section
open PySem L2 TL
local macro_rules
 | `(tactic|simp_arith[$xs,*])=>do
   let xs:Lean.TSyntaxArray [`Lean.Parser.Tactic.simpStar,`Lean.Parser.Tactic.simpErase,`Lean.Parser.Tactic.simpLemma]:=xs
   `(tactic|simp (maxSteps:=2000000) (disch:=first|assumption|decide) only[↓aKz,↓aJU,↓aMs,↓aM4,↓aNg,↓aM0,↓aL3,↓aLL,↓aGA,if_true,if_false,Bool.false_eq_true,↓aBN,↓aBU,↓aB7,aNO,aN9,↓aDu,↓v9,↓aCU,↓aAX,↓v5,↓fD,↓iR,↓fP,↓aDr,↓tN,↓fM,↓fG,↓gF,↓qC,↓iQ,↓gC,↓j7,↓jH,↓n9,↓yP,↓kY,↓lT,↓xH,↓vW,↓nZ,↓aEJ,↓yT,↓aIl,↓aFE,↓aKW,↓sO,↓gP,↓jY,↓sV,↓lQ,↓kO,↓aEF,↓aJG,↓aKt,↓aFp,↓gM,↓fN,↓f7,↓aNu,↓aNH,↓aN5,↓aNZ,↓iY,↓iH,↓pR,↓gB,↓gD,↓xE,↓wN,↓tK,↓tE,↓aJ0,↓nF,↓l7,↓aFn,↓j8,↓oZ,↓aFO,aJv,aKQ,Option.isSome_some,List.getElem?_cons_zero,List.getElem?_cons_succ,List.set_cons_zero,List.set_cons_succ,List.length_cons,List.length_nil,List.nil_append,List.cons_append,Option.some.injEq,T.int.injEq,T.bl.injEq,T.lst.injEq,T.cell.injEq,T.tup.injEq,exists_eq_left,exists_eq_left',exists_and_left,setAll,aJJ,aHy,aKq,aI7,aG4,and_true,true_and,Nat.reduceAdd,$xs,*])
namespace Lib
open PySem L2 TL
variable{ns:List Int}{Q:T->Sto->Prop}
abbrev Bg(n:Int):Prop:=Bt 1100000 n
theorem Bg.of{n:Int}{k:Nat}(h:Bt k n)(hk:k<=1100000):Bg n:=h.mono hk
noncomputable def j0(ns:List Int)(k:Int):Int:=(ns[k.toNat]?).getD 0
theorem aJg{k:Int}(hk:0<=k):iK [.lst (ns.map T.int),.int k]=some (.int (j0 ns k)):=by
 apply iV;unfold aAf;walk_at "b";simp_arith[if_true];simp only[aR];unfold j0;by_cases h:k<ns.length
 ·rw[if_pos (by simpa using h)];rw[qE hk,bJ,bA (by lia)]
  exact⟨_,rfl,iE gH⟩
 ·rw[if_neg (by simpa using h)];rw[dE (by lia)]
  exact iE gH
theorem m5{k:Int}{C:Sto}(hk:0<=k):wpO (jZ 2 iK [.lst (ns.map T.int),.int k] C) Q↔Q (.int (j0 ns k)) C:=gA (aJg hk) rfl (by walk_at "c")
noncomputable def aA9(m n:Int):Bool:=decide (0<=n/\n<m)
theorem aDo{m n:Int}:lJ [.int m,.int n]=some (.bl (aA9 m n)):=by
 apply iV;unfold aAl aA9;walk_at "b";simp_arith[if_true];by_cases h:0<=n
 ·rw[if_pos (by simpa using h)];rw[iE lA];simp[h]
 ·rw[if_neg (by simpa using h),iE lA];simp[h]
theorem aB4{m n:Int}{C:Sto}:wpO (jZ 2 lJ [.int m,.int n] C) Q↔Q (.bl (aA9 m n)) C:=gA aDo rfl (by walk_at "c")
end Lib
namespace TL
open PySem L2
section
variable {τ:TSt}{C:Sto}{c:FB}{F:FS}{Q:Fl->TSt->Sto->Prop}
theorem aFj{n:Nat}(I:Nat->TSt->Sto->Prop){k:Nat}(hk:k<n)(h0:I k τ C)
 (hs:∀i τ C,i<n->I i τ C->wpB c τ C fun b C1=>if b=true then wpS F τ C1 (fun l τ2 C2=>match l with
  | .nx=>i+1<n/\I (i+1) τ2 C2
  | .ct=>i+1<n/\I (i+1) τ2 C2
  | .bk=>Q .nx τ2 C2
  | .rt v=>Q (.rt v) τ2 C2
  | .ex v=>Q (.ex v) τ2 C2)else Q .nx τ C1):wpS (lU c F (n - k)) τ C Q:=by
 obtain⟨d,hd⟩:∃d,n - k=d:=⟨_,rfl⟩;rw[hd];induction d generalizing k τ C with
 |zero=>lia
 |succ d ih=>
  obtain⟨b,C1,e1,h⟩:=hs k τ C hk h0;cases b with
  |false=>
   rw[if_neg (by simp)]at h
   exact⟨.nx,τ,C1,by unfold lU;rw[e1];rfl,h⟩
  |true=>
   rw[if_pos rfl]at h;obtain⟨l,τ2,C2,e2,h⟩:=h;cases l with
   |nx=>
    obtain⟨l,τ',C',e,q⟩:=ih h.1 h.2 (by lia)
    exact⟨l,τ',C',by unfold lU;rw[e1,aU,if_pos rfl,e2,aU];exact e,q⟩
   |ct=>
    obtain⟨l,τ',C',e,q⟩:=ih h.1 h.2 (by lia)
    exact⟨l,τ',C',by unfold lU;rw[e1,aU,if_pos rfl,e2,aU];exact e,q⟩
   |bk=>exact⟨.nx,τ2,C2,by unfold lU;rw[e1,aU,if_pos rfl,e2];rfl,h⟩
   |rt v=>exact⟨.rt v,τ2,C2,by unfold lU;rw[e1,aU,if_pos rfl,e2];rfl,h⟩
   |ex v=>exact⟨.ex v,τ2,C2,by unfold lU;rw[e1,aU,if_pos rfl,e2];rfl,h⟩
theorem aAT{g:FG}{ts:List T}(hg:∀t∈ts,∀C,∃τ1,g t C τ=some τ1):∀{C:Sto},jG g gZ (jB (gK fJ)) τ ts C=some ((bK ts.length).map (fun i=>T.cell (C.length+i)),C++aT ts.length (.l,[])):=by
 induction ts with
 |nil=>intro C;simp[jG]
 |cons t ts ih=>
  intro C;obtain⟨τ1,e⟩:=hg t bF C;unfold jG;rw[e,aU];show(gZ τ1 C).bind _=_;have e2:jB (gK fJ) τ1 C=some (.cell C.length,C++[(.l,[])]):=by
   unfold jB gK rL fJ;simp[lim]
  simp only[gZ,aU,if_true,e2];rw[ih fun u hu=>hg u (aZ _ hu),aIb (aOR _ _)];simp only[aOo,bC,aN,aQ,cJ];congr 2
  ·rw[d9,aM,cD];simp only[aPE,aPq.injEq,true_and];apply cS;intro i _;simp only[dO];congr 1;lia
end
end TL
namespace Lib
open PySem L2 TL
variable{ps:List (Int×Int)}{nd:List (List Int)}{told o:List Int}{w:Nat}
def Nd(ps:List (Int×Int))(m:Nat)(nd:List (List Int)):Prop:=nd.length=m/\∀(b:Nat)(l:List Int),nd[b]?=some l->l.length<=ps.length/\∀a,a∈l↔(a,(b:Int))∈ps
def InW(m:Nat)(ps:List (Int×Int)):Prop:=∀p∈ps,(0<=p.1/\p.1<m)/\(0<=p.2/\p.2<m)
theorem aCO{m n:Int}(h:0<=n/\n<m):aA9 m n=true:=kI h
theorem tO{m:Nat}(hm:m<=100)(hl:ps.length<=1000)(hw:InW m ps):∃t,gY [.int m,.lst (ps.map pT)]=some t/\∃nd,t=.lst (nd.map iT)/\Nd ps m nd:=by
 apply lR;unfold pV;walk_at "b";simp_arith[if_true]
 refine⟨by lia,?_⟩
 refine⟨_,_,aAT (g:=gN 0) (fun t ht C=>⟨_,rfl⟩),?_⟩
 simp only[vE,aR,aOZ,aX,aQ,dU,eN,cE]
 refine jW (fun i τ C=>∃a b,τ=[some (.int m),some (.lst (ps.map pT)),some (.cell m),a,b]/\∃ls:List (List Int),C=ls.map (fun l=>(Kd.l,l.map T.int))++[(.l,(bK m).map T.cell)]/\ls.length=m/\
  ∀(b:Nat)(l:List Int),ls[b]?=some l->l.length<=i/\∀a,a∈l↔(a,(b:Int))∈ps.take i) ?_ ?_ ?_
 ·refine⟨_,_,rfl,aT m [],by simp,by simp,fun b l e=>?_⟩
  rw[cM]at e;split at e
  ·cases e;simp
  ·cases e
 ·rintro i ⟨x,y⟩ τ C hx ⟨a,b,rfl,ls,rfl,hls,hin⟩;obtain⟨hx1,hy1⟩:=hw _ (bB hx);have hi:i<ps.length:=(aP.mp hx).1;simp only at hx1 hy1;unfold oM;obtain⟨y,rfl⟩:∃y':Nat,y=y':=⟨_,(b4 hy1.1).symm⟩;have hyl:y<ls.length:=by lia
  have ec:lc (ls.map (fun l=>(Kd.l,l.map T.int))++[(.l,(bK m).map T.cell)]) m=some ((bK m).map T.cell):=by
   rw[gL];rw[bH (by simp[hls])];simp[hls]
  have ey:lc (ls.map (fun l=>(Kd.l,l.map T.int))++[(.l,(bK m).map T.cell)]) y=some (ls[y].map T.int):=by
   rw[gL];rw[aY (by simpa using hyl)];simp[hyl]
  have ea:atI ((bK m).map T.cell) (y:Int)=some (.cell y):=by
   rw[qB,bJ,aPr (by lia)];rfl
  simp_arith[↓aB4,aGk,aCO hx1,aCO hy1,↓fS ec,↓fS ea,↓aEo (show liT _ (T.cell y)=_ from ey),Bool.not_true,Bool.not_false];have next:∀l,(∀c,c∈l↔c∈ls[y]\/c=x)->l.length<=i+1->∀(b:Nat)(l':List Int),(ls.set y l)[b]?=some l'->l'.length<=i+1/\∀a,a∈l'↔(a,(b:Int))∈ps.take (i+1):=by
   intro l hl1 hl2 b l' e;have et:∀a,(a,(b:Int))∈ps.take (i+1)↔(a,(b:Int))∈ps.take i\/(a=x/\b=y):=fun a=>by
    rw[aO0,hx];simp only[eB,bM,bR,aQg.injEq];constructor
    ·rintro(h| ⟨h1,h2⟩)
     ·exact .inl h
     ·exact .inr ⟨h1,by lia⟩
    ·rintro(h| ⟨h1,h2⟩)
     ·exact .inl h
     ·exact .inr ⟨h1,by lia⟩
   by_cases hb:b=y
   ·subst hb;rw[bO hyl]at e;cases e
    refine⟨hl2,fun a=>?_⟩
    rw[hl1,et,(hin b _ (bA hyl)).2];simp
   ·rw[aS (Ne.symm hb)]at e;obtain⟨h1,h2⟩:=hin b l' e
    refine⟨by lia,fun a=>?_⟩
    rw[et,h2];simp[hb]
  obtain⟨hly,_⟩:=hin y _ (bA hyl);split
  ·rw[ey]
   refine⟨rfl,_,rfl,by walk_at "a",trivial,_,_,rfl,ls.set y (ls[y]++[x]),?_,by simpa using hls,next _ (fun c=>by simp) (by simp;lia)⟩
   rw[aDS,aPm _ _ (by simpa using hyl),aP3]
  ·rename_i hn;have hxm:x∈ls[y]:=by simpa using hn
   refine⟨trivial,_,_,rfl,ls,rfl,hls,fun b l e=>?_⟩
   have:=next ls[y] (fun c=>⟨.inl,fun h=>h.elim id fun h=>by rw[h];exact hxm⟩) (by lia) b l
   rw[eO]at this
   exact this e
 ·rintro τ C ⟨a,b,rfl,ls,rfl,hls,hin⟩;simp_arith[if_true]
  refine⟨.lst (ls.map iT),?_,ls,rfl,hls,fun b l e=>?_⟩
  ·unfold dr;rw[show lc (ls.map (fun l=>(Kd.l,l.map T.int))++[(.l,(bK m).map T.cell)]) m=some ((bK m).map T.cell)from by rw[gL,bH (by simp[hls])];simp[hls]];simp only[aU];rw[show mapO (dr 2 (ls.map (fun l=>(Kd.l,l.map T.int))++[(.l,(bK m).map T.cell)])) ((bK m).map T.cell)=some (ls.map iT)from ?_]
   ·rfl
   ·have:∀(k:Nat),k<=m->mapO (dr 2 (ls.map (fun l=>(Kd.l,l.map T.int))++[(.l,(bK m).map T.cell)])) (((bK m).drop (m - k)).map T.cell)=some ((ls.drop (m - k)).map iT):=by
     intro k;induction k with
     |zero=>intro _;rw[aP4,eA (by simp),eA (by lia)];rfl
     |succ k ih=>
      intro hk;have hlt:m - (k+1)<m:=by lia
      rw[eU (by simpa using hlt),eU (by lia:m - (k+1)<ls.length),show m - (k+1)+1=m - k by lia];rw[aM,aM]
      refine hJ ?_ (ih (by lia))
      rw[aOp]
      refine vS ?_ iG
      rw[gL];rw[aY (by simp;lia)];simp[hls,hlt]
    have:=this m (bI _);simpa using this
  ·have:=hin b l e;rw[dH]at this
   exact this
def Rdy(nd:List (List Int))(told:List Int)(w:Nat):Prop:=(w:Int)∉told/\∀l,nd[w]?=some l->∀a∈l,a∈told
theorem yC(hn:nd.length<=100)(hl:∀l∈nd,l.length<=1000)(hw:w<nd.length)(hr:Rdy nd told w)(hmin:∀v<w,¬Rdy nd told v):
 mG [.lst (nd.map iT),.lst (told.map T.int)]=some (.int w):=by
 apply iV;unfold rE;walk_at "b";simp_arith[aR]
 refine⟨by lia,lN (fun i τ C=>C=[]/\∃a,τ=[some (.lst (nd.map iT)),some (.lst (told.map T.int)),a]/\i<=w) ⟨rfl,_,rfl,dJ _⟩ ?_ ?_⟩
 ·rintro i τ C hi ⟨rfl,a,rfl,hiw⟩;have hi':i<nd.length:=by lia
  have e1:atI (nd.map iT) (0+(i:Int))=some (iT nd[i]):=by
   rw[dW,qB,bJ,bA hi'];rfl
  have hli:=hl _ (dG hi');unfold pF;simp_arith[↓fS e1];have fin:∀b:Bool,(b=true↔Rdy nd told i)->if b=true then dr 3 [] (.int (0+(i:Int)))=some (T.int w)else∃a,[some (T.lst (nd.map iT)),some (T.lst (told.map T.int)),some (T.int (0+(i:Int)))]=[some (.lst (nd.map iT)),some (.lst (told.map T.int)),a]/\i+1<=w:=by
   intro b hb;have hiw':i<w\/i=w:=by lia
   rcases hiw' with h|h
   ·rw[if_neg (fun z=>hmin i h (hb.mp z))]
    exact⟨_,rfl,h⟩
   ·subst h;rw[if_pos (hb.mpr hr),dW]
    exact iE gH
  by_cases ht:(0+(i:Int))∈told
  ·have h0:=fin false (Iff.intro (fun z=>nomatch z) (fun z=>(z.1 (by simpa using ht)).elim));rw[if_neg (by simp)]at h0;rw[if_neg (by simpa using ht)]
   exact h0
  ·rw[if_pos (by simpa using ht)]
   refine⟨by walk_at "a",iB (fun a=>T.bl (decide (a∈told))) (fun a _=>?_) ?_⟩
   ·simp only[scT,aT,aM,bD,aX,aV,aW,b5,b7,cR];simp_arith[if_true]
   rw[aJN]
   refine⟨_,rfl,_,aGk,?_⟩
   have h0:=fin (List.all (nd[i].map fun a=>decide (a∈told)) id) (by
    rw[aP0,eT];constructor
    ·intro h
     refine⟨by simpa using ht,fun l e a ha=>?_⟩
     rw[bA hi']at e;cases e;simpa using h a ha
    ·intro h a ha;simpa using h.2 _ (bA hi') a ha)
   split at h0
   ·rename_i hb;rw[if_pos hb];exact h0
   ·rename_i hb;rw[if_neg hb];exact⟨rfl,h0⟩
 ·rintro τ C ⟨rfl,a,rfl,hiw⟩
  lia
theorem aCy{P:Nat->Prop}(h:∃n,P n):∃n,P n/\∀k<n,¬P k:=by
 obtain⟨n,hn⟩:=h;induction n using Nat.strongRecOn with
 |_ n ih=>
  by_cases hk:∃k,k<n/\P k
  ·obtain⟨k,h1,h2⟩:=hk
   exact ih k h1 h2
  ·exact⟨n,hn,fun k h1 h2=>hk ⟨k,h1,h2⟩⟩
theorem aEb:∀(m:Nat)(l:List Int),(∀w:Nat,w<m->(w:Int)∈l)->m<=l.length
 |0,_,_=>dJ _
 |m+1,l,h=>by
  have hm:=h m (dZ _);have:=aEb m (l.erase m) fun w hw=>(List.mem_erase_of_ne (by lia)).mpr (h w (by lia))
  rw[aOn hm]at this;have:=List.length_pos_of_mem hm
  lia
theorem vR:∀(m:Nat)(l:List Int),l.Nodup->(∀x∈l,0<=x/\x<m)->l.length<=m
 |0,l,_,h=>by
  cases l with
  |nil=>simp
  |cons x l=>have:=h x bF;lia
 |m+1,l,hn,h=>by
  by_cases hm:(m:Int)∈l
  ·have:=vR m (l.erase m) (hn.erase _) fun x hx=>by
    have h1:=h x (List.mem_of_mem_erase hx);have h2:x≠m:=fun z=>by subst z;exact(List.Nodup.mem_erase_iff hn).mp hx |>.1 rfl
    lia
   rw[aOn hm]at this
   lia
  ·have:=vR m l hn fun x hx=>by
    have h1:=h x hx;have h2:x≠m:=fun z=>hm (z ▸ hx)
    lia
   lia
def aCZ(ps:List (Int×Int))(told:List Int)(w:Nat):Prop:=(w:Int)∉told/\∀a,(a,(w:Int))∈ps->a∈told
theorem Nd.rdy{m:Nat}(h:Nd ps m nd)(hw:w<m):Rdy nd told w↔aCZ ps told w:=by
 have hw':w<nd.length:=by rw[h.1];exact hw
 have e:=bA hw';obtain⟨_,h2⟩:=h.2 w _ e;constructor
 ·rintro⟨h3,h4⟩
  exact⟨h3,fun a ha=>h4 _ e a ((h2 a).mpr ha)⟩
 ·rintro⟨h3,h4⟩
  refine⟨h3,fun l e' a ha=>?_⟩
  rw[e]at e';cases e'
  exact h4 a ((h2 a).mp ha)
def Acy(ps:List (Int×Int)):Prop:=∃r:Int->Nat,∀p∈ps,r p.1<r p.2
theorem aLw{m:Nat}(hw:InW m ps)(hr:Acy ps)(hl:told.length<m):∃w,w<m/\aCZ ps told w:=by
 obtain⟨r,hr⟩:=hr;have hex:∃w:Nat,w<m/\(w:Int)∉told:=cO fun hn=>by
  have:=aEb m told fun w hw=>cO fun hc=>hn ⟨w,hw,hc⟩
  lia
 obtain⟨k,⟨w,h1,h2,h3⟩,hmin⟩:=aCy (P:=fun k=>∃w:Nat,w<m/\(w:Int)∉told/\r w=k) (by obtain⟨w,h1,h2⟩:=hex;exact⟨r w,w,h1,h2,rfl⟩)
 refine⟨w,h1,h2,fun a ha=>cO fun hc=>?_⟩
 have h4:=(hw _ ha).1;have h5:=hr _ ha;simp only at h4 h5
 refine hmin (r a) (by lia) ⟨a.toNat,by lia,?_,?_⟩
 ·rw[b4 h4.1];exact hc
 ·rw[b4 h4.1]
def aDz(ps:List (Int×Int))(m:Nat)(o:List Int):Prop:=∀(i:Nat)(x:Int),o[i]?=some x->∃w:Nat,x=w/\w<m/\aCZ ps (o.take i) w/\∀v<w,¬aCZ ps (o.take i) v
theorem aDz.snoc{m:Nat}(h:aDz ps m o)(hw:w<m)(hr:aCZ ps o w)(hmin:∀v<w,¬aCZ ps o v):aDz ps m (o++[(w:Int)]):=by
 intro i x e;by_cases hi:i<o.length
 ·rw[aY hi]at e;rw[List.take_append_of_le_length (by lia)]
  exact h i x e
 ·have hi':i=o.length:=by
   have:=(aP.mp e).1;simp at this;lia
  subst hi';simp only[List.getElem?_concat_length,cN.injEq]at e;rw[List.take_left']
  ·exact⟨w,e.symm,hw,hr,hmin⟩
  ·rfl
theorem wE{m:Nat}(hm:m<=8)(hl:ps.length<=1000)(hw:InW m ps)(hr:Acy ps):∃t,mY [.int m,.lst (ps.map pT)]=some t/\∃o,t=.lst (o.map T.int)/\o.length=m/\aDz ps m o:=by
 obtain⟨_,e1,nd,rfl,hnd⟩:=tO (by lia) hl hw;have hnd1:=hnd.1;have w1:∀{C Q},wpO (jZ 2 gY [.int m,.lst (ps.map pT)] C) Q↔Q (.lst (nd.map iT)) C:=gA e1 rfl (by rw[fT,fT,g8,gJ,gH,kS];rfl);apply lR;unfold wK;walk_at "b";simp_arith[↓w1]
 refine⟨by walk_at "a",aFj (n:=10) (k:=0) (fun i τ C=>∃o:List Int,τ=[some (.int m),some (.lst (ps.map pT)),some (.lst (nd.map iT)),some (.cell 0)]/\C=[(.l,o.map T.int)]/\o.length=i/\i<=m/\aDz ps m o) (by lia) ⟨[],rfl,rfl,rfl,dJ _,fun i x e=>by simp at e⟩ ?_⟩
 rintro i τ C hi ⟨o,rfl,rfl,ho,him,hp⟩;simp_arith[aR];by_cases hlt:i<m
 ·obtain⟨w,⟨h1,h2⟩,h3⟩:=aCy (aLw hw hr (told:=o) (by lia));have hmin:∀v<w,¬aCZ ps o v:=fun v hv z=>h3 v hv ⟨by lia,z⟩
  have el:=yC (nd:=nd) (told:=o) (w:=w) (by lia) (fun l hl'=>by
   obtain⟨b,hb⟩:=bN.mp hl';have:=(hnd.2 b l hb).1
   lia) (by lia) ((hnd.rdy h1).mpr h2) (fun v hv z=>hmin v hv ((hnd.rdy (by lia)).mp z))
  rw[if_pos (kI (by lia))];unfold tG;simp_arith[if_true]
  refine oH rfl (hJ (iE (by rw[gJ];exact aMU)) (hJ (m7 rfl) rfl)) ?_
  refine⟨_,el,rfl,?_⟩
  simp_arith[if_true]
  refine⟨by walk_at "a",by lia,o++[(w:Int)],by rw[aDS],by simp[ho],hlt,hp.snoc h1 h2 hmin⟩
 ·rw[if_neg (by simpa using(by lia:m<=o.length))]
  exact⟨_,m7 rfl,o,rfl,by lia,hp⟩
structure Topo(ps:List (Int×Int))(m:Nat)(o:List Int):Prop where
 len:o.length=m
 nd:o.Nodup
 rng:∀x∈o,0<=x/\x<m
 all:∀w:Nat,w<m->(w:Int)∈o
 top:∀(j:Nat)(b:Int),o[j]?=some b->∀a,(a,b)∈ps->a∈o.take j
theorem aDz.topo{m:Nat}(h:aDz ps m o)(hl:o.length=m):Topo ps m o:=by
 have rng:∀x∈o,0<=x/\x<m:=fun x hx=>by
  obtain⟨i,hi⟩:=bN.mp hx;obtain⟨w,rfl,hw,_⟩:=h i x hi
  lia
 have nd:o.Nodup:=by
  refine List.pairwise_iff_getElem.mpr fun i j hi hj hij e=>?_
  have ej:=bA hj;obtain⟨w,e1,_,h2,_⟩:=h j _ ej
  refine h2.1 (bB (i:=i) ?_)
  rw[cZ hij,bA hi,e,e1]
 refine⟨hl,nd,rng,fun w hw=>cO fun hc=>?_,fun j b e a ha=>?_⟩
 ·have:=vR m ((w:Int)::o) (bW.mpr ⟨hc,nd⟩) (fun x hx=>by
   rcases bE.mp hx with rfl|hx
   ·lia
   ·exact rng x hx)
  simp at this;lia
 ·obtain⟨w,rfl,_,h2,_⟩:=h j b e
  exact h2.2 a ha
end Lib
namespace TL
open PySem L2
section
variable {τ:TSt}{C:Sto}{fa:FN}{x:XF}{F:FS}{Q:Fl->TSt->Sto->Prop}{c:String}
end
end TL
namespace Lib
open PySem L2 TL
variable{rs:List Int}{ps:List (Int×Int)}
theorem aHi{i:Int}:mC [.int i]=some (.bl true):=by
 apply iV;unfold aEq;walk_at "b";simp_arith[aMc]
 exact rfl
theorem qM{a:Int}{C:Sto}{Q:T->Sto->Prop}:wpO (jZ 1 mC [.int a] C) Q↔Q (.bl true) C:=gA aHi rfl (by walk_at "c")
structure Rk(m:Nat)(rs:List Int):Prop where
 len:rs.length=m
 nd:rs.Nodup
 rng:∀x∈rs,0<=x/\x<m
theorem Rk.ins{m:Nat}{q:Int}(h:Rk m rs):Rk (m+1) (insAt rs q m):=by
 have p:=u5 (xs:=rs) (i:=q) (y:=(m:Int))
 refine⟨by rw[xG,h.len],p.nodup_iff.mpr (bW.mpr ⟨fun z=>?_,h.nd⟩),fun x hx=>?_⟩
 ·have:=h.rng _ z;lia
 ·rcases bE.mp (p.mem_iff.mp hx)with rfl|hx
  ·lia
  ·have:=h.rng _ hx;lia
def Al(rs:List Int)(p:Int×Int):Prop:=∃i j:Nat,i<j/\rs[i]?=some p.1/\rs[j]?=some p.2
theorem Al.inW{m:Nat}(hr:Rk m rs)(h:∀p∈ps,Al rs p):InW m ps:=fun p hp=>by
 obtain⟨i,j,_,h1,h2⟩:=h p hp
 exact⟨hr.rng _ (bB h1),hr.rng _ (bB h2)⟩
theorem Al.acy{m:Nat}(hr:Rk m rs)(h:∀p∈ps,Al rs p):Acy ps:=by
 refine⟨fun x=>rs.idxOf x,fun p hp=>?_⟩
 obtain⟨i,j,hij,h1,h2⟩:=h p hp;have key:∀(k:Nat)(x:Int),rs[k]?=some x->rs.idxOf x=k:=fun k x e=>by
  obtain⟨hk,e⟩:=aP.mp e;rw[<-e]
  exact hr.nd.idxOf_getElem k hk
 show rs.idxOf p.1<rs.idxOf p.2;rw[key i _ h1,key j _ h2]
 exact hij
theorem aAO{α:Type}{xs:List α}{f:α->Int}:(xs.map fun x=>T.int (f x))=(xs.map f).map T.int:=by simp
end Lib
namespace Lib
open PySem L2 TL
variable{bs hs ns:List Int}{d:Int}{ps:List (Int×Int)}{S:Int->Prop}
noncomputable def at0(bs:List Int)(x:Int):Int:=bs.getD x.toNat 0
theorem yR{x:Int}(h0:0<=x)(h:x<bs.length):atI (bs.map T.int) x=some (.int (at0 bs x)):=by
 rw[yG h0 h];unfold at0;rw[cG,bA (by lia)];rfl
theorem vK{x y v:Int}(h0:0<=x)(h:x<bs.length)(hy:0<=y):at0 (bs.set x.toNat v) y=if y=x then v else at0 bs y:=by
 unfold at0;rw[cG,cG];by_cases e:y=x
 ·subst e;rw[if_pos rfl,bO (by lia)];rfl
 ·rw[if_neg e,aS (by lia)]
theorem sC{P:Int->Prop}{x:Int}(h:∀b∈bs,P b)(h0:P 0):P (at0 bs x):=by
 unfold at0;rw[cG];cases e:bs[x.toNat]?with
 |none=>exact h0
 |some b=>exact h b (bB e)
theorem mR{i:Nat}(h:i<bs.length):at0 bs (i:Int)=bs[i]:=by
 unfold at0;rw[cG,cE,bA h];rfl
theorem aKb(hl:bs.length<=1000):kF [.lst (bs.map T.int),.lst (hs.map T.int)]=some (.lst (((bs.zip hs).map fun p=>p.1+p.2).map T.int)):=by
 apply iV;unfold pM;walk_at "b";simp_arith[aHv]
 refine⟨by rw[aR,dC];unfold lim;lia,iB (fun p:Int×Int=>T.int (p.1+p.2)) (fun p _=>?_) ?_⟩
 ·simp only[scT,aT,aM,bD,aX,aV,aW];simp_arith[if_true]
 ·rw[aAO];exact aIX
theorem vU{n:Int}(h:n∈ns):n<=jD d ns:=by
 unfold jD;have hne:ns≠[]:=by rintro rfl;simp at h
 rw[if_neg (by simpa using hne)]
 exact(rS hne).2 n h
theorem pU:(ns=[]/\jD d ns=d)\/jD d ns∈ns:=by
 unfold jD;by_cases h:ns=[]
 ·left;subst h;exact⟨rfl,rfl⟩
 ·right;rw[if_neg (by simpa using h)]
  exact(rS h).1
structure Early(ps:List (Int×Int))(hs:List Int)(bs:List Int):Prop where
 len:bs.length=hs.length
 pos:∀x,0<=at0 bs x
 ge:∀p∈ps,at0 bs p.1+at0 hs p.1<=at0 bs p.2
 att:∀w:Nat,w<hs.length->at0 bs w=0\/∃a,(a,(w:Int))∈ps/\at0 bs w=at0 bs a+at0 hs a
theorem aBD(hm:hs.length<=8)(hl:ps.length<=1000)(hw:InW hs.length ps)(hr:Acy ps)(hp:∀h∈hs,0<=h):
 ∃t,lX [.lst (hs.map T.int),.lst (ps.map pT)]=some t/\∃bs,t=.lst (bs.map T.int)/\Early ps hs bs:=by
 obtain⟨_,e1,nd,rfl,hnd⟩:=tO (by lia) hl hw;obtain⟨_,e2,o,rfl,ho,hord⟩:=wE hm hl hw hr;have tp:=hord.topo ho;have w1:∀{C Q},wpO (jZ 2 gY [.int hs.length,.lst (ps.map pT)] C) Q↔Q (.lst (nd.map iT)) C:=gA e1 rfl (by rw[fT,fT,g8,gJ,gH,kS];rfl);have w2:∀{C Q},wpO (jZ 2 mY [.int hs.length,.lst (ps.map pT)] C) Q↔Q (.lst (o.map T.int)) C:=gA e2 rfl (by rw[fT,fT,g8,gJ,gH,kS];rfl);have hnd1:=hnd.1;apply lR;unfold yE;walk_at "b";simp_arith[↓w1,↓w2,aR]
 refine⟨by unfold lim;lia,iB (fun _:Int=>T.int 0) (fun i _=>?_) ?_⟩
 ·simp only[scT,aT,aM,bD,aX,aV,aW];simp_arith[if_true]
 simp_arith[if_true]
 refine jW (fun i τ C=>∃a,τ=[some (.lst (hs.map T.int)),some (.lst (ps.map pT)),some (.lst (o.map T.int)),some (.lst (nd.map iT)),some (.cell 0),a]/\∃bs:List Int,C=[(.l,bs.map T.int)]/\bs.length=hs.length/\(∀x,0<=at0 bs x)/\
  ∀(j:Nat)(w:Int),j<i->o[j]?=some w->(∀a,(a,w)∈ps->at0 bs a+at0 hs a<=at0 bs w)/\(at0 bs w=0\/∃a,(a,w)∈ps/\at0 bs w=at0 bs a+at0 hs a)) ?_ ?_ ?_
 ·refine⟨_,rfl,aT hs.length 0,?_,by simp,fun x=>sC (fun b hb=>by rw[List.eq_of_mem_replicate hb];exact bV _) (bV _),fun j w hj=>by lia⟩
  rw[aPO,aPy,ho]
 ·rintro i w τ C hw' ⟨a,rfl,bs,rfl,hbl,hbp,hin⟩;obtain⟨hw0,hw1⟩:=tp.rng w (bB hw');have hwn:w.toNat<nd.length:=by lia
  obtain⟨hnl,hnm⟩:=hnd.2 w.toNat _ (bA hwn);rw[b4 hw0]at hnm;have en:atI (nd.map iT) w=some (iT nd[w.toNat]):=by rw[qE hw0,bJ,bA hwn];rfl
  generalize nd[w.toNat]=l at hnl hnm en;unfold sT;simp_arith[↓fS en]
  refine⟨by walk_at "a",iB (fun a:Int=>T.int (at0 bs a+at0 hs a)) (fun a ha=>?_) ?_⟩
  ·have ha':=(hw _ ((hnm a).mp ha)).1;simp only at ha';have g1:=yR (bs:=bs) ha'.1 (by lia);have g2:=yR (bs:=hs) ha'.1 (by lia);simp only[scT,aT,aM,bD,aX,aV,aW,b5,b7,cR];simp_arith[↓fS g1,↓fS g2]
  ·rw[aAO,fS (qP _)];simp_arith[if_true];have ix:ixN (bs.map T.int).length w=some w.toNat:=aDa hw0 (by simp;lia);rw[fS ix];obtain⟨v,hv⟩:∃v,jD 0 (l.map fun a=>at0 bs a+at0 hs a)=v:=⟨_,rfl⟩;rw[hv];have v0:0<=v:=by
    rw[<-hv];rcases pU (d:=0) (ns:=l.map fun a=>at0 bs a+at0 hs a)with⟨_,h⟩|h
    ·rw[h];exact bV _
    ·obtain⟨a,_,e⟩:=bL.mp h;rw[<-e];have:=hbp a;have:=sC (x:=a) hp (bV 0)
     lia
   have keep:∀(j:Nat)(u a:Int),j<=i->o[j]?=some u->(a,u)∈ps->at0 (bs.set w.toNat v) a=at0 bs a:=by
    intro j u a hj hu ha;have hm:=tp.top j u hu a ha;obtain⟨k,hk⟩:=bN.mp hm;have hkj:k<j:=by
     have:=(aP.mp hk).1;simp at this;lia
    rw[cZ hkj]at hk;have ha0:=(hw _ ha).1;rw[vK hw0 (by lia) ha0.1,if_neg];rintro rfl;have:=(eQ (by have:=(aP.mp hk).1;exact this) tp.nd).mp (hk.trans hw'.symm)
    lia
   refine⟨trivial,_,rfl,bs.set w.toNat v,by rw[<-yI],by simpa using hbl,fun x=>sC (fun b hb=>?_) (bV _),fun j u hj hu=>?_⟩
   ·rcases aOT hb with hb|rfl
    ·obtain⟨k,hk⟩:=bN.mp hb;obtain⟨hk1,hk2⟩:=aP.mp hk;have:=hbp k;rw[mR hk1,hk2]at this
     exact this
    ·exact v0
   ·obtain⟨hu0,hu1⟩:=tp.rng u (bB hu);by_cases hji:j=i
    ·subst hji;rw[hw']at hu;cases hu;have ev:at0 (bs.set w.toNat v) w=v:=by rw[vK hw0 (by lia) hw0,if_pos rfl]
     rw[ev]
     refine⟨fun a ha=>?_,?_⟩
     ·rw[keep j w a (bI _) hw' ha,<-hv]
      exact vU (bL.mpr ⟨a,(hnm a).mpr ha,rfl⟩)
     ·rcases pU (d:=0) (ns:=l.map fun a=>at0 bs a+at0 hs a)with⟨_,h⟩|h
      ·left;rw[<-hv];exact h
      ·right;obtain⟨a,ha,e⟩:=bL.mp h
       exact⟨a,(hnm a).mp ha,by rw[keep j w a (bI _) hw' ((hnm a).mp ha),e,hv]⟩
    ·have hne:u≠w:=by
      rintro rfl;have:=(eQ (by have:=(aP.mp hu).1;exact this) tp.nd).mp (hu.trans hw'.symm)
      lia
     have eu:at0 (bs.set w.toNat v) u=at0 bs u:=by rw[vK hw0 (by lia) hu0,if_neg hne]
     obtain⟨h1,h2⟩:=hin j u (by lia) hu;rw[eu]
     refine⟨fun a ha=>?_,?_⟩
     ·rw[keep j u a (by lia) hu ha];exact h1 a ha
     ·rcases h2 with h2| ⟨a,ha,e⟩
      ·exact .inl h2
      ·exact .inr ⟨a,ha,by rw[keep j u a (by lia) hu ha];exact e⟩
 ·rintro τ C ⟨a,rfl,bs,rfl,hbl,hbp,hin⟩;simp_arith[if_true]
  refine⟨_,m7 rfl,bs,rfl,hbl,hbp,fun p hpm=>?_,fun w hw'=>?_⟩
  ·have h2:=(hw p hpm).2;have:=tp.all p.2.toNat (by lia);rw[b4 h2.1]at this;obtain⟨j,hj⟩:=bN.mp this
   exact(hin j p.2 (aP.mp hj).1 hj).1 p.1 hpm
  ·obtain⟨j,hj⟩:=bN.mp (tp.all w hw')
   exact(hin j w (aP.mp hj).1 hj).2
noncomputable def dones(bs hs:List Int):List Int:=(bs.zip hs).map fun p=>p.1+p.2
theorem aFw(e:lX [.lst (hs.map T.int),.lst (ps.map pT)]=some (.lst (bs.map T.int)))(hl:bs.length<=1000):
 lB [.lst (hs.map T.int),.lst (ps.map pT)]=some (.int (jD 0 (dones bs hs))):=by
 have w1:∀{C Q},wpO (jZ 2 lX [.lst (hs.map T.int),.lst (ps.map pT)] C) Q↔Q (.lst (bs.map T.int)) C:=gA e rfl (by rw[fT,fT,g8,gJ,gJ,kS,iG];rfl);have w2:∀{C Q},wpO (jZ 2 kF [.lst (bs.map T.int),.lst (hs.map T.int)] C) Q↔Q (.lst ((dones bs hs).map T.int)) C:=gA (aKb hl) rfl (by walk_at "c");apply iV;unfold aCn;walk_at "b";simp_arith[↓w1,↓w2];rw[fS (qP _)]
 exact iE gH
theorem mW(hl:bs.length=hs.length){x:Int}:x∈dones bs hs↔∃w:Nat,w<hs.length/\x=at0 bs w+at0 hs w:=by
 unfold dones;rw[bL];constructor
 ·rintro⟨p,hp,rfl⟩;obtain⟨w,hw⟩:=bN.mp hp;rw[dQ]at hw;obtain⟨h1,e1⟩:=aP.mp hw.1;obtain⟨h2,e2⟩:=aP.mp hw.2
  exact⟨w,h2,by rw[mR h1,mR h2,e1,e2]⟩
 ·rintro⟨w,hw,rfl⟩
  refine⟨(bs[w]'(by lia),hs[w]),bB (i:=w) ?_,?_⟩
  ·rw[dQ];exact⟨bA (by lia),bA hw⟩
  ·rw[mR (by lia),mR hw]
def Mx(S:Int->Prop)(d:Int):Prop:=0<=d/\(∀x,S x->x<=d)/\(d=0\/S d)
theorem Mx.uniq{d':Int}(h:Mx S d)(h':Mx S d'):d=d':=by
 obtain⟨a1,a2,a3⟩:=h;obtain⟨b1,b2,b3⟩:=h';apply aOG
 ·rcases a3 with rfl|a3
  ·exact b1
  ·exact b2 _ a3
 ·rcases b3 with rfl|b3
  ·exact a1
  ·exact a2 _ b3
theorem Mx.nil(h:∀x,¬S x):Mx S 0:=⟨bV _,fun x hx=>(h x hx).elim,.inl rfl⟩
theorem Early.mxL(h:Early ps hs bs)(hp:∀x∈hs,0<=x):Mx (fun x=>∃w:Nat,w<hs.length/\x=at0 bs w+at0 hs w) (jD 0 (dones bs hs)):=by
 have hl:=h.len;have nn:∀w,0<=at0 bs w+at0 hs w:=fun w=>by
  have:=h.pos w;have:=sC (x:=w) hp (bV 0)
  lia
 refine⟨?_,fun x hx=>vU ((mW hl).mpr hx),?_⟩
 ·rcases pU (d:=0) (ns:=dones bs hs)with⟨_,e⟩|e
  ·rw[e];exact bV _
  ·obtain⟨w,_,e⟩:=(mW hl).mp e;rw[e];exact nn _
 ·rcases pU (d:=0) (ns:=dones bs hs)with⟨_,e⟩|e
  ·exact .inl e
  ·exact .inr ((mW hl).mp e)
end Lib
namespace Lib
open PySem L2 TL
def Chn(ps:List (Int×Int))(ws:List Int):Prop:=∀(j:Nat)(x y:Int),ws[j]?=some x->ws[j+1]?=some y->(x,y)∈ps
theorem Chn.cons{ps:List (Int×Int)}{ws:List Int}{a w:Int}(h:Chn ps (w::ws))(ha:(a,w)∈ps):Chn ps (a::w::ws):=by
 intro j x y ex ey;cases j with
 |zero=>
  simp at ex ey;subst ex ey
  exact ha
 |succ j=>exact h j x y (by simpa using ex) (by simpa using ey)
end Lib
set_option maxHeartbeats 4000000
namespace Lib
open PySem L2 TL
end Lib
namespace TL
open PySem L2
section
variable {τ:TSt}{C:Sto}{fo fi fe:FE}{fa:FN}{Q:T->Sto->Prop}{QS:Fl->TSt->Sto->Prop}
theorem fK:wpO (aDg .non .non C) Q↔Q (.bl true) C:=by
 unfold wpO aDg;constructor
 ·rintro⟨_,_,e,q⟩;cases e;exact q
 ·exact fun q=>⟨_,_,rfl,q⟩
theorem fL:wpE (tH fa) τ C Q↔wpA fa τ C fun ts C1=>ts.length<=lim/\Q (.tup ts) C1:=by
 unfold wpE wpA tH nB;constructor
 ·rintro⟨t,C',e,q⟩;obtain⟨⟨ts,C1⟩,e1,e⟩:=aK.mp e;dsimp only at e;split at e
  ·cases e;exact⟨ts,_,e1,‹_›,q⟩
  ·cases e
 ·rintro⟨ts,C1,e1,h,q⟩
  exact⟨_,_,by rw[e1];exact if_pos h,q⟩
end
end TL
namespace Lib
open PySem L2 TL
end Lib
namespace Lib
open PySem L2 TL
theorem aGz{a:Int}{ws:List Int}:aA3 (T.int a::ws.map T.int) (some 1) none=ws.map T.int:=by
 rw[show T.int a::ws.map T.int=(a::ws).map T.int from rfl,yB,aFD (by decide)];rfl
end Lib
namespace Lib
open PySem L2 TL
theorem aEZ{f:T->Option T}:∀{ts us:List T},ts.length=us.length->(∀(i:Nat)(t u:T),ts[i]?=some t->us[i]?=some u->f t=some u)->mapO f ts=some us
 | [],[],_,_=>rfl
 |t::ts,u::us,hl,h=>hJ (h 0 t u rfl rfl) (aEZ (by simpa using hl) fun i t u e1 e2=>h (i+1) t u e1 e2)
end Lib
set_option maxHeartbeats 1000000
namespace Lib
open PySem L2 TL
theorem Bt.sum{k:Nat}:∀{xs:List Int},(∀x∈xs,Bt k x)->Bt (k+xs.length) xs.sum
 | [],_=>by simp[Bt.zero]
 |x::xs,h=>by
  rw[dX,aN];have h1:=(h x bF).mono (d7 k xs.length)
  exact h1.add (Bt.sum fun y hy=>h y (aZ _ hy))
end Lib
namespace Lib
open PySem L2 TL
variable{pl:List (Int×Int)}{rs:List Int}
noncomputable def plA(pl:List (Int×Int))(x:Int):Int×Int:=pl.getD x.toNat (0,0)
theorem aKH{x y:Int}{v:Int×Int}(h0:0<=x)(h:x<pl.length)(hy:0<=y):plA (pl.set x.toNat v) y=if y=x then v else plA pl y:=by
 unfold plA;rw[cG,cG];by_cases e:y=x
 ·subst e;rw[if_pos rfl,bO (by lia)];rfl
 ·rw[if_neg e,aS (by lia)]
noncomputable def wsA(ws:List (Int×Int×Int))(x:Int):Int×Int×Int:=ws.getD x.toNat (0,0,0)
structure aLz(ws:List (Int×Int×Int))(ps:List (Int×Int))(rs:List Int)(i:Nat)(pl:List (Int×Int)):Prop where
 len:pl.length=ws.length
 nn:∀x:Int,0<=x->x<ws.length->0<=(plA pl x).1/\0<=(plA pl x).2/\(plA pl x).1+(plA pl x).2<=i*2^113
 fit:∀x∈rs.take i,(wsA ws x).2.1<=(plA pl x).2/\(plA pl x).2<=(wsA ws x).1
 ord:∀p∈ps,p.2∈rs.take i->(plA pl p.1).1+(plA pl p.1).2<=(plA pl p.2).1
theorem aLz.step{ws:List (Int×Int×Int)}{ps:List (Int×Int)}{i:Nat}{w b h:Int}(I:aLz ws ps rs i pl)(hrk:Rk ws.length rs)(hal:∀p∈ps,Al rs p)(hw:rs[i]?=some w)
 (hb:∀p∈ps,p.2=w->(plA pl p.1).1+(plA pl p.1).2<=b)(b0:0<=b)(b1:b<=i*2^113+2^111)(h0:0<=h)(h1:(wsA ws w).2.1<=h)(h2:h<=(wsA ws w).1)(h3:h<=2^111):aLz ws ps rs (i+1) (pl.set w.toNat (b,h)):=by
 obtain⟨w0,w1⟩:=hrk.rng w (bB hw);have hlen:=I.len;have es:∀x:Int,0<=x->plA (pl.set w.toNat (b,h)) x=if x=w then(b,h)else plA pl x:=fun x hx=>aKH w0 (by lia) hx
 have tk:∀u,u∈rs.take (i+1)↔u∈rs.take i\/u=w:=fun u=>by rw[aO0,hw];simp
 have wnot:w∉rs.take i:=fun z=>by
  obtain⟨k,hk⟩:=bN.mp z;have hlt:k<i:=by have:=(aP.mp hk).1;simp at this;lia
  rw[cZ hlt]at hk;have:=(eQ (aP.mp hk).1 hrk.nd).mp (hk.trans hw.symm)
  lia
 have early:∀p∈ps,p.2∈rs.take (i+1)->p.1≠w:=fun p hp hm z=>by
  obtain⟨a,c,hac,ea,ec⟩:=hal p hp;obtain⟨k,hk⟩:=bN.mp hm;have hlt:k<i+1:=by have:=(aP.mp hk).1;simp at this;lia
  rw[cZ hlt]at hk;have e1:=(eQ (aP.mp ec).1 hrk.nd).mp (ec.trans hk.symm);rw[z]at ea;have e2:=(eQ (aP.mp ea).1 hrk.nd).mp (ea.trans hw.symm)
  lia
 have rng:∀x∈rs,0<=x:=fun x hx=>(hrk.rng x hx).1
 have pin:∀p∈ps,0<=p.1/\0<=p.2:=fun p hp=>by
  obtain⟨a,c,_,ea,ec⟩:=hal p hp
  exact⟨rng _ (bB ea),rng _ (bB ec)⟩
 refine⟨by simpa using hlen,fun x hx0 hx1=>?_,fun x hx=>?_,fun p hp hm=>?_⟩
 ·have:=I.nn x hx0 hx1;rw[es x hx0]
  push_cast
  split
  ·simp only;lia
  ·lia
 ·rw[es x (rng x (aPl hx))];rcases(tk x).mp hx with hx|rfl
  ·rw[if_neg (fun z:x=w=>wnot (by rw[<-z];exact hx))]
   exact I.fit x hx
  ·rw[if_pos rfl];exact⟨h1,h2⟩
 ·rw[es _ (pin p hp).1,es _ (pin p hp).2,if_neg (early p hp hm)];rcases(tk p.2).mp hm with hx|hx
  ·rw[if_neg (fun z:p.2=w=>wnot (by rw[<-z];exact hx))]
   exact I.ord p hp hx
  ·rw[if_pos hx];exact hb p hp hx
theorem Rk.all{m:Nat}(h:Rk m rs){x:Int}(h0:0<=x)(h1:x<m):x∈rs:=by
 have hz:∀(l:List Int),l.Nodup->(∀y∈l,0<=y/\y<m)->x∉l->l.length<m:=fun l nd hr hx=>by
  have:=vR m (x::l) (bW.mpr ⟨hx,nd⟩) fun y hy=>by
   rcases bE.mp hy with rfl|hy
   ·exact⟨h0,h1⟩
   ·exact hr y hy
  simp at this;lia
 exact cO fun hx=>by
  have:=hz rs h.nd h.rng hx;have:=h.len
  lia
end Lib
namespace Lib
open PySem L2 TL
end Lib
namespace Lib
open PySem L2 TL
end Lib
namespace Lib
open PySem L2 TL
end Lib
namespace Lib
open PySem L2 TL
theorem aBu{α:Type}{xs:List α}{i:Int}(h0:0<=i)(h:i<xs.length):∃t∈xs,atI xs i=some t:=
 ⟨xs[i.toNat]'(by lia),dG _,by rw[qE h0,bA (by lia)]⟩
def Sm(n:Int):Prop:=0<=n/\n<2147483587
theorem Sm.bt{n:Int}(h:Sm n):Bt 31 n:=.of_lt h.1 (by have:=h.2;lia)
theorem qK{a k:Int}(hk:Bt 20 k):∃t,j4 [.int a,.int k]=some t/\∃r,t=.int r/\Sm r:=by
 apply lR;unfold aCd;walk_at "b";simp_arith[↓fK,↓fL];have h1:=i0 (x:=a*48271+k*k*69621+3) (m:=2147483647) (by lia);generalize (a*48271+k*k*69621+3)%2147483647=n1 at h1;have h2:=i0 (x:=n1*n1) (m:=2147483629) (by lia);have b1:Bt 31 n1:=.of_lt h1.1 (by lia);generalize n1*n1%2147483629=n2 at h2;have h3:=i0 (x:=n2*n2) (m:=2147483587) (by lia);have b2:Bt 31 n2:=.of_lt h2.1 (by lia)
 exact⟨gO (.of_lt (by decide) (by decide)),gG (hk.mono (by decide)),gO (.of_lt (by decide) (by decide)),by decide,gG (b1.mono (by decide)),by decide,gG (b2.mono (by decide)),by decide,_,iE gH,_,rfl,h3⟩
noncomputable def rP(a k:Int):Int:=if h:Bt 20 k then aQi (dF (qK (a:=a) h)).2 else 0
theorem aIY{a k:Int}(h:Bt 20 k):j4 [.int a,.int k]=some (.int (rP a k)):=by
 unfold rP;rw[dif_pos h];have e:=(dF (qK (a:=a) h)).1;have e2:=(dF (dF (qK (a:=a) h)).2).1;rw[<-e2];exact e
theorem aBx{a k:Int}:Sm (rP a k):=by
 unfold rP;split
 ·rename_i h
  exact(dF (dF (qK (a:=a) h)).2).2
 ·exact⟨by decide,by decide⟩
theorem sD{a k:Int}{C:Sto}{Q:T->Sto->Prop}(h:Bt 20 k):wpO (jZ 2 j4 [.int a,.int k] C) Q↔Q (.int (rP a k)) C:=gA (aIY h) rfl (by walk_at "c")
theorem aBJ{ns:List Int}(hl:ns.length<=63):∃t,l9 [.lst (ns.map T.int)]=some t/\∃xs:List Int,t=.lst (xs.map T.int)/\xs.length=40/\∀x∈xs,Sm x:=by
 apply lR;unfold yX;walk_at "b";simp_arith[↓fK,↓fL,aR]
 refine⟨by lia,?_⟩
 rw[pX]
 refine iB (fun i=>T.int (rP (j0 ns 0) (90+(0+(i:Int))))) (fun i hi=>?_) ?_
 ·have hi:=dA.mp hi;have hb:Bt 20 (90+(0+(i:Int))):=.sml (by lia) (by lia) (by decide);simp only[scT,aT,aM,bD,aX,aV,aW,b5,b7,cR];simp_arith[↓fK,↓fL,↓m5,↓sD]
 rw[show(aPn (fun(i:Nat)=>T.int (rP (j0 ns 0) (90+(0+(i:Int))))) (bK (eL 40)))=((bK 40).map fun(i:Nat)=>rP (j0 ns 0) (90+(0+(i:Int)))).map T.int by simp];obtain⟨xs0,hx0⟩:∃xs0,((bK 40).map fun(i:Nat)=>rP (j0 ns 0) (90+(0+(i:Int))))=xs0:=⟨_,rfl⟩;have hl0:xs0.length=40:=by rw[<-hx0];simp
 have hs0:∀x∈xs0,Sm x:=by
  rw[<-hx0];intro x hx;obtain⟨i,_,rfl⟩:=bL.mp hx
  exact aBx
 rw[hx0]
 refine⟨by lia,lN (fun i τ C=>∃a b:Option T,τ=[some (.lst (ns.map T.int)),some (.cell 0),a,b]/\∃xs:List Int,C=[(.l,xs.map T.int)]/\xs.length=40/\∀x∈xs,Sm x) ⟨_,_,rfl,xs0,rfl,hl0,hs0⟩ ?_ ?_⟩
 ·rintro i τ C hi ⟨_,_,rfl,xs,rfl,hxl,hxs⟩;have hb:Bt 20 (2+(i:Int)):=.sml (by lia) (by lia) (by decide);have hq:=i0 (x:=2+(i:Int)) (m:=40) (by lia);unfold sX;generalize hqe:(2+(i:Int))%40=q at hq;have e1:=yG (ns:=xs) (i:=q) hq.1 (by lia);have e2:=yG (ns:=ns) (i:=2+(i:Int)) (by lia) (by lia);simp_arith[↓fK,↓fL,hqe,↓fS e1,↓fS e2,↓sD]
  refine⟨by decide,?_⟩
  rw[fS (aDa hq.1 (by simp[hxl];lia))]
  refine⟨_,_,rfl,xs.set q.toNat _,by rw[yI (f:=T.int)],by simpa using hxl,fun x hx=>?_⟩
  rcases aOT hx with h|h
  ·exact hxs x h
  ·rw[h];exact aBx
 ·rintro τ C ⟨_,_,rfl,xs,rfl,hxl,hxs⟩;simp_arith[↓fK,↓fL]
  exact⟨_,m7 rfl,xs,rfl,hxl,hxs⟩
theorem aFy{c:Int}{m:Nat}(hm:m<=8):∃t,pZ [.int c,.int m]=some t/\∃rs:List Int,t=.lst (rs.map T.int)/\Rk m rs:=by
 apply lR;unfold aCM;walk_at "b";simp_arith[↓fK,↓fL]
 refine⟨by walk_at "a",by lia,lN (fun i τ C=>∃(a:Option T),τ=[some (.int c),some (.int m),some (.cell 0),a]/\∃rs:List Int,C=[(.l,rs.map T.int)]/\Rk i rs) ⟨_,rfl,[],rfl,⟨rfl,.nil,by simp⟩⟩ ?_ ?_⟩
 ·rintro i τ C hi ⟨a,rfl,rs,rfl,hr⟩;have hb:Bt 20 (0+(i:Int)):=.sml (by lia) (by lia) (by decide);have hlen:=hr.len;unfold xP;simp_arith[↓fK,↓fL,↓sD];have b2:=i0 (x:=rP c (0+(i:Int))) (m:=0+(i:Int)+1) (by lia);generalize rP c (0+(i:Int))%(0+(i:Int)+1)=q at b2
  refine⟨by walk_at "a",⟨by walk_at "a",by lia,by lia⟩,_,rfl,insAt rs q (i:Int),by rw[dW,<-uE],hr.ins⟩
 ·rintro τ C ⟨a,rfl,rs,rfl,hr⟩;simp_arith[↓fK,↓fL]
  exact⟨_,m7 rfl,rs,rfl,by simpa using hr⟩
end Lib
namespace Lib
open PySem L2 TL
theorem aKj{ws:List (Int×Int×Int)}{a b c:Int}:ws.map w3++[T.lst [.int a,.int b,.int c]]=(ws++[(a,b,c)]).map w3:=by
 rw[bS];rfl
theorem aL0{n:Nat}{C:Sto}{ts us:List T}(h:mapO (dr n C) ts=some us):dr (n+1) C (.tup ts)=some (.tup us):=by
 unfold dr;split
 ·rename_i hc;rw[aA7 hc]at h;cases h;rfl
 ·rw[h];rfl
end Lib
namespace Lib
open PySem L2 TL
variable{ws:List (Int×Int×Int)}{w:Int×Int×Int}{Q:T->Sto->Prop}
theorem aEa{hs:List Int}{ps:List (Int×Int)}:CFs [.lst (hs.map T.int),.lst (ps.map pT)]=true:=by rw[fT,fT,g8,gJ,gJ,iG,kS];rfl
theorem xB(hl:ws.length<=1000):k8 [.lst (ws.map w3)]=some (.lst ((ws.map (·.2.1)).map T.int)):=by
 apply iV;unfold rC;walk_at "b";simp_arith[↓fK,↓fL]
 refine⟨aBq (by simpa using hl),iB (fun w=>T.int w.2.1) (fun w _=>?_) ?_⟩
 ·simp only[scT,aT,aM,bD,aX,aV,aW,b5,b7,cR];simp_arith[↓fK,↓fL,w3,↓fS (aEc (α:=T))]
 ·rw[aAO,aIX]
theorem zC:o9 [w3 w]=some (.int (if w.2.2=0 then w.2.1 else w.1)):=by
 apply iV;unfold sL;walk_at "b";simp_arith[↓fK,↓fL,w3,↓fS (aLg (α:=T)),↓fS (aEc (α:=T)),↓fS (aK6 (α:=T))];by_cases h:w.2.2=0
 ·rw[if_pos (kI h),if_pos h];exact iE gH
 ·rw[if_neg (by simpa using h),if_neg h];exact iE gH
theorem vB{C:Sto}(hl:ws.length<=1000):wpO (jZ 1 k8 [.lst (ws.map w3)] C) Q↔Q (.lst ((ws.map (·.2.1)).map T.int)) C:=gA (xB hl) rfl (by rw[fT,g8,gJ,nT];rfl)
theorem y8{C:Sto}:wpO (jZ 1 o9 [w3 w] C) Q↔Q (.int (if w.2.2=0 then w.2.1 else w.1)) C:=gA zC rfl (by rw[fT,g8,aGe];rfl)
def NoOrd(m:Nat)(ps:List (Int×Int)):Prop:=aBc [.int m,.lst (ps.map pT)]=some "NoOrder"
section
variable {ws:List (Int×Int×Int)}{ps:List (Int×Int)}{e:Int}(hl:ws.length<=1000)(h:NoOrd ws.length ps)
include hl h
end
end Lib
namespace Lib
open PySem L2 TL
variable{ps:List (Int×Int)}{ws:List (Int×Int×Int)}{z:Int}
theorem aDt{hs bs:List Int}(hm:hs.length<=8)(hl:ps.length<=1000)(hw:InW hs.length ps)(hr:Acy ps)(hp:∀h∈hs,0<=h)(hE:Early ps hs bs):
 j9 [.lst (hs.map T.int),.lst (ps.map pT)]=some (.int (jD 0 (dones bs hs))):=by
 obtain⟨_,e2,o,rfl,ho,hord⟩:=wE hm hl hw hr;have tp:=hord.topo ho;apply iV;unfold aAg;walk_at "b";simp_arith[↓fK,↓fL,aR]
 refine⟨by walk_at "a",iB (fun _:Int=>T.int 0) (fun i _=>?_) ?_⟩
 ·simp only[scT,aT,aM,bD,aX,aV,aW,b5,b7,cR];simp_arith[↓fK,↓fL]
 simp_arith[↓fK,↓fL,aR];rw[show(aPn (fun _=>T.int 0) hs)=(aT hs.length (0:Int)).map T.int by rw[aPO,aPy]]
 refine⟨by lia,lN (fun k τ C=>∃a b c:Option T,τ=[some (.lst (hs.map T.int)),some (.lst (ps.map pT)),some (.cell 0),a,b,c]/\∃g:List Int,C=[(.l,g.map T.int)]/\g.length=hs.length/\(∀x:Int,0<=x->x<hs.length->0<=at0 g x/\at0 g x<=at0 bs x)/\∀(j:Nat)(w:Int),j<k->o[j]?=some w->at0 g w=at0 bs w) ?_ ?_ ?_⟩
 ·refine⟨_,_,_,rfl,aT hs.length 0,rfl,by simp,fun x h0 h1=>?_,fun j w hj=>by lia⟩
  have:at0 (aT hs.length 0) x=0:=by
   unfold at0;rw[cG,cM,if_pos (by lia)];rfl
  rw[this]
  exact⟨bV _,hE.pos x⟩
 ·rintro k τ C hk ⟨_,_,_,rfl,g,rfl,hgl,hg,hq⟩;have hk:k<hs.length:=by lia
  have hok:o[k]?=some o[k]:=bA (by lia);generalize o[k]=u at hok;unfold uR;simp_arith[↓fK,↓fL]
  refine jW (fun i τ C=>∃b c:Option T,τ=[some (.lst (hs.map T.int)),some (.lst (ps.map pT)),some (.cell 0),some (.int (0+(k:Int))),b,c]/\∃g:List Int,C=[(.l,g.map T.int)]/\g.length=hs.length/\(∀x:Int,0<=x->x<hs.length->0<=at0 g x/\at0 g x<=at0 bs x)/\(∀(j:Nat)(w:Int),j<k->o[j]?=some w->at0 g w=at0 bs w)/\∀p∈ps.take i,p.2=u->at0 bs p.1+at0 hs p.1<=at0 g u) ⟨_,_,rfl,g,rfl,hgl,hg,hq,by simp⟩ ?_ ?_
  ·rintro i p τ C hi ⟨_,_,rfl,g,rfl,hgl,hg,hq,ht⟩;have hpm:=bB hi;obtain⟨h1,h2⟩:=hw p hpm;have g1:=yR (bs:=g) h2.1 (by lia);have g2:=yR (bs:=g) h1.1 (by lia);have g3:=yR (bs:=hs) h1.1 (by lia);unfold uU;simp_arith[↓fK,↓fL,pT,↓fS g1,↓fS g2,↓fS g3];rw[fS (aDa h2.1 (by simp[hgl];lia))];obtain⟨v,hv⟩:∃v,max (at0 g p.2) (at0 g p.1+at0 hs p.1)=v:=⟨_,rfl⟩;rw[hv];have hge:=hE.ge p hpm;have q1:=hg p.1 h1.1 h1.2;have q2:=hg p.2 h2.1 h2.2;have hh:0<=at0 hs p.1:=sC hp (bV 0);have es:∀x:Int,0<=x->at0 (g.set p.2.toNat v) x=if x=p.2 then v else at0 g x:=fun x h0=>vK h2.1 (by lia) h0
   refine⟨trivial,_,_,rfl,g.set p.2.toNat v,by rw[yI (f:=T.int)],by simpa using hgl,fun x h0 h3=>?_,fun j w hj hjw=>?_,fun q hqm hqu=>?_⟩
   ·rw[es x h0];have:=hg x h0 h3;split
    ·rename_i e;subst e;lia
    ·exact this
   ·obtain⟨w0,w1⟩:=tp.rng w (bB hjw);rw[es w w0];have:=hq j w hj hjw;split
    ·rename_i e;subst e;lia
    ·exact this
   ·obtain⟨u0,u1⟩:=tp.rng u (bB hok);rw[aO0,hi]at hqm;simp only[eB,bM,bR]at hqm;rw[es u u0];rcases hqm with hqm|rfl
    ·have:=ht q hqm hqu;split
     ·rename_i e;subst e;lia
     ·exact this
    ·rw[if_pos hqu.symm];have ha:=tp.top k u hok q.1 (by rw[<-hqu];exact hpm);obtain⟨j,hj⟩:=bN.mp ha;have hjk:j<k:=by have:=(aP.mp hj).1;simp at this;lia
     rw[cZ hjk]at hj;have:=hq j q.1 hjk hj
     lia
  ·rintro τ C ⟨_,_,rfl,g,rfl,hgl,hg,hq,ht⟩;rw[dH]at ht
   refine⟨_,_,_,rfl,g,rfl,hgl,hg,fun j w hj hjw=>?_⟩
   by_cases e:j=k
   ·subst e;rw[hok]at hjw;cases hjw;obtain⟨u0,u1⟩:=tp.rng u (bB hok);have hu:=hg u u0 u1;have hat:=hE.att u.toNat (by lia);rw[b4 u0]at hat;rcases hat with h| ⟨a,ha,h⟩
    ·lia
    ·have:=ht _ ha rfl;simp only at this
     lia
   ·exact hq j w (by lia) hjw
 ·rintro τ C ⟨_,_,_,rfl,g,rfl,hgl,hg,hq⟩;have heq:∀w:Nat,w<hs.length->at0 g w=at0 bs w:=fun w hw'=>by
   obtain⟨j,hj⟩:=bN.mp (tp.all w hw')
   exact hq j w (by have:=(aP.mp hj).1;lia) hj
  simp_arith[↓fK,↓fL,aR]
  refine⟨by lia,?_⟩
  rw[pX]
  refine iB (fun(w:Nat)=>T.int (at0 bs w+at0 hs w)) (fun w hw'=>?_) ?_
  ·have hw':w<hs.length:=by simpa using hw'
   have g1:=yR (bs:=g) (x:=0+(w:Int)) (by lia) (by lia);have g2:=yR (bs:=hs) (x:=0+(w:Int)) (by lia) (by lia);simp only[scT,aT,aM,bD,aX,aV,aW,b5,b7,cR];simp_arith[↓fK,↓fL,↓fS g1,↓fS g2];rw[dW,heq w hw']
  obtain⟨xs,hxs⟩:∃xs:List Int,((bK hs.length).map fun(w:Nat)=>at0 bs w+at0 hs w)=xs:=⟨_,rfl⟩;have hxl:xs.length=hs.length:=by rw[<-hxs];simp
  have hmem:∀x,x∈xs↔∃w:Nat,w<hs.length/\x=at0 bs w+at0 hs w:=fun x=>by
   rw[<-hxs,bL];constructor
   ·rintro⟨w,hw',rfl⟩;exact⟨w,dA.mp hw',rfl⟩
   ·rintro⟨w,hw',rfl⟩;exact⟨w,dA.mpr hw',rfl⟩
  rw[show(aPn (fun(w:Nat)=>T.int (at0 bs w+at0 hs w)) (bK (hs.length:Int).toNat))=xs.map T.int by rw[<-hxs];simp,aDS,fS (qP _)]
  refine⟨by walk_at "a",by simp[lim,hxl];lia,by simp,?_⟩
  obtain⟨m1,m2⟩:=rS (ns:=xs++[0]) (by simp);have:tR (xs++[0])=jD 0 (dones bs hs):=by
   refine Mx.uniq (S:=fun x=>∃w:Nat,w<hs.length/\x=at0 bs w+at0 hs w) ⟨m2 0 (by simp),fun x hx=>m2 x (aOC _ ((hmem x).mpr hx)),?_⟩ (hE.mxL hp)
   rcases bM.mp m1 with h|h
   ·exact .inr ((hmem _).mp h)
   ·exact .inl (bR.mp h)
  rw[this]
  exact iE gH
noncomputable def iW(w:Int×Int×Int):Int:=if w.2.2=0 then w.2.1 else w.1
theorem aBl(hl:ws.length<=1000)(h:lB [.lst ((ws.map (·.2.1)).map T.int),.lst (ps.map pT)]=some (.int z)):iU [.lst (ws.map w3),.lst (ps.map pT)]=some (.int z):=by
 have w1:∀{C Q},wpO (jZ 2 lB [.lst ((ws.map (·.2.1)).map T.int),.lst (ps.map pT)] C) Q↔Q (.int z) C:=gA h rfl aEa;apply iV;unfold uZ;walk_at "b";simp_arith[↓fK,↓fL,↓vB,↓w1]
 exact iE gH
theorem aB6(hl:ws.length<=1000)(h:lB [.lst ((ws.map iW).map T.int),.lst (ps.map pT)]=some (.int z)):wU [.lst (ws.map w3),.lst (ps.map pT)]=some (.int z):=by
 have w1:∀{C Q},wpO (jZ 2 lB [.lst ((ws.map iW).map T.int),.lst (ps.map pT)] C) Q↔Q (.int z) C:=gA h rfl aEa;apply iV;unfold xJ;walk_at "b";simp_arith[↓fK,↓fL]
 refine⟨aBq (by simpa using hl),iB (fun w=>T.int (iW w)) (fun w _=>?_) ?_⟩
 ·simp only[scT,aT,aM,bD,aX,aV,aW,b5,b7,cR];simp_arith[↓fK,↓fL,↓y8]
  exact rfl
 ·rw[show(ws.map fun w=>T.int (iW w))=(ws.map iW).map T.int by simp];simp_arith[↓fK,↓fL,↓w1]
  exact iE gH
theorem aII{y:Int}(hl:ws.length<=1000)(h1:j9 [.lst ((ws.map (·.2.1)).map T.int),.lst (ps.map pT)]=some (.int z))(h2:j9 [.lst ((ws.map iW).map T.int),.lst (ps.map pT)]=some (.int y)):
 qL [.lst (ws.map w3),.lst (ps.map pT)]=some (.tup [.int z,.int y]):=by
 have w1:∀{C Q},wpO (jZ 2 j9 [.lst ((ws.map (·.2.1)).map T.int),.lst (ps.map pT)] C) Q↔Q (.int z) C:=gA h1 rfl aEa;have w2:∀{C Q},wpO (jZ 2 j9 [.lst ((ws.map iW).map T.int),.lst (ps.map pT)] C) Q↔Q (.int y) C:=gA h2 rfl aEa;apply iV;unfold aEH;walk_at "b";simp_arith[↓fK,↓fL]
 refine⟨aBq (by simpa using hl),iB (fun w=>T.int w.2.1) (fun w _=>?_) ?_⟩
 ·simp only[scT,aT,aM,bD,aX,aV,aW,b5,b7,cR];simp_arith[↓fK,↓fL,w3,↓fS (aEc (α:=T))]
 rw[show(ws.map fun w=>T.int w.2.1)=(ws.map (·.2.1)).map T.int by simp];simp_arith[↓fK,↓fL,↓w1]
 refine⟨aBq (by simpa using hl),iB (fun w=>T.int (iW w)) (fun w _=>?_) ?_⟩
 ·simp only[scT,aT,aM,bD,aX,aV,aW,b5,b7,cR];simp_arith[↓fK,↓fL,w3,↓fS (aK6 (α:=T))];unfold iW;by_cases h:w.2.2=0
  ·rw[kI h,if_pos rfl,fS aEc,if_pos h]
  ·rw[decide_eq_false h,if_neg (by decide),fS aLg,if_neg h]
 ·rw[show(ws.map fun w=>T.int (iW w))=(ws.map iW).map T.int by simp];simp_arith[↓fK,↓fL,↓w2]
  exact⟨by walk_at "a",iE (by walk_at "c")⟩
end Lib
namespace NF
noncomputable def sm:Nat->(Nat->Int)->Int
 |0,_=>0
 |n+1,g=>sm n g+g n
theorem k7{n:Nat}{g g':Nat->Int}(h:∀k,k<n->g k=g' k):sm n g=sm n g':=by
 induction n with
 |zero=>rfl
 |succ n ih=>unfold sm;rw[ih fun k hk=>h k (by lia),h n (by lia)]
theorem u4{n:Nat}{g g':Nat->Int}(h:∀k,k<n->g k<=g' k):sm n g<=sm n g':=by
 induction n with
 |zero=>exact bV _
 |succ n ih=>unfold sm;have:=ih fun k hk=>h k (by lia);have:=h n (by lia);lia
theorem aLD{n:Nat}{g g':Nat->Int}:sm n (fun k=>g k+g' k)=sm n g+sm n g':=by
 induction n with
 |zero=>rfl
 |succ n ih=>unfold sm;rw[ih];dsimp only;lia
theorem aMp{n:Nat}{g g':Nat->Int}:sm n (fun k=>g k - g' k)=sm n g - sm n g':=by
 induction n with
 |zero=>rfl
 |succ n ih=>unfold sm;rw[ih];dsimp only;lia
theorem oW{n:Nat}{g:Nat->Int}(h:∀k,k<n->g k=0):sm n g=0:=by
 induction n with
 |zero=>rfl
 |succ n ih=>unfold sm;rw[ih fun k hk=>h k (by lia),h n (by lia)];rfl
theorem qT{n:Nat}{g:Nat->Int}(h:∀k,k<n->0<=g k):0<=sm n g:=by
 induction n with
 |zero=>exact bV _
 |succ n ih=>unfold sm;have:=ih fun k hk=>h k (by lia);have:=h n (by lia);lia
theorem aMv{n:Nat}{g:Nat->Int}(h:∀k,k<n->0<=g k){k:Nat}(hk:k<n):g k<=sm n g:=by
 induction n with
 |zero=>lia
 |succ n ih=>
  unfold sm;by_cases e:k=n
  ·subst e;have:=qT fun j hj=>h j (aOW hj);lia
  ·have:=ih (fun j hj=>h j (by lia)) (by lia);have:=h n (by lia);lia
noncomputable def up(f:Nat->Int)(k:Nat)(v:Int):Nat->Int:=fun j=>if j=k then v else f j
theorem aAu{f:Nat->Int}{k:Nat}{v:Int}:up f k v k=v:=by unfold up;rw[if_pos rfl]
theorem x8{f:Nat->Int}{k j:Nat}{v:Int}(h:j≠k):up f k v j=f j:=by unfold up;rw[if_neg h]
theorem aLe{n:Nat}{f g:Nat->Int}{k:Nat}{v:Int}(hk:k<n):sm n (fun j=>up f k v j*g j)=sm n (fun j=>f j*g j)+(v - f k)*g k:=by
 induction n with
 |zero=>lia
 |succ n ih=>
  unfold sm;dsimp only;by_cases e:k=n
  ·subst e;rw[aAu,k7 (g':=fun j=>f j*g j) (fun j hj=>by rw[x8 (by lia)]),aO1]
   lia
  ·rw[ih (by lia),x8 (by lia)];lia
structure Nt where
 m:Nat
 t:Nat->Nat
 h:Nat->Nat
 d:Nat->Int
 c:Nat->Int
variable {N:Nt}{f f' p q:Nat->Int}{a b x:Int}
variable{r:List (Nat×Bool)}
def Pot(N:Nt)(f p:Nat->Int):Prop:=∀k,k<N.m->(f k<N.c k->p (N.t k)+N.d k<=p (N.h k))/\(0<f k->p (N.h k)<=p (N.t k)+N.d k)
def Flo(N:Nt)(f:Nat->Int)(a:Int):Prop:=∀p:Nat->Int,sm N.m (fun k=>f k*(p (N.h k) - p (N.t k)))=a*(p 1 - p 0)
def Cap(N:Nt)(f:Nat->Int):Prop:=∀k,k<N.m->0<=f k/\f k<=N.c k
noncomputable def pos(x:Int):Int:=if 0<x then x else 0
theorem aDM:0<=pos x:=by unfold pos;split<;>lia
theorem aMT:x<=pos x:=by unfold pos;split<;>lia
def len(N:Nt)(f:Nat->Int):Int:=sm N.m fun k=>f k*N.d k
def cost(N:Nt)(p:Nat->Int):Int:=sm N.m fun k=>N.c k*pos (N.d k - (p (N.h k) - p (N.t k)))
theorem gap(hf:Flo N f a)(p:Nat->Int):len N f - a*(p 1 - p 0)=sm N.m fun k=>f k*(N.d k - (p (N.h k) - p (N.t k))):=by
 unfold len;rw[<-hf p,<-aMp]
 exact k7 fun k _=>by rw[<-dD]
theorem weak(hf:Flo N f a)(hc:Cap N f)(p:Nat->Int):len N f - a*(p 1 - p 0)<=cost N p:=by
 rw[gap hf]
 refine u4 fun k hk=>?_
 obtain⟨h1,h2⟩:=hc k hk;have h3:f k*(N.d k - (p (N.h k) - p (N.t k)))<=f k*pos (N.d k - (p (N.h k) - p (N.t k))):=Int.mul_le_mul_of_nonneg_left aMT h1;have h4:f k*pos (N.d k - (p (N.h k) - p (N.t k)))<=N.c k*pos (N.d k - (p (N.h k) - p (N.t k))):=d8 h2 aDM
 lia
theorem strong(hf:Flo N f a)(hc:Cap N f)(hp:Pot N f p):len N f - a*(p 1 - p 0)=cost N p:=by
 rw[gap hf]
 refine k7 fun k hk=>?_
 obtain⟨h1,h2⟩:=hc k hk;obtain⟨h3,h4⟩:=hp k hk;generalize hx:N.d k - (p (N.h k) - p (N.t k))=y;unfold pos;by_cases hy:0<y
 ·rw[if_pos hy];have:f k=N.c k:=by
   by_cases h:f k<N.c k
   ·have:=h3 h;lia
   ·lia
  rw[this]
 ·rw[if_neg hy,aOt];by_cases hz:y=0
  ·rw[hz,aOt]
  ·have:f k=0:=by
    by_cases h:0<f k
    ·have:=h4 h;lia
    ·lia
   rw[this,eC]
noncomputable def rt(N:Nt)(e:Nat×Bool):Nat:=if e.2 then N.t e.1 else N.h e.1
noncomputable def rh(N:Nt)(e:Nat×Bool):Nat:=if e.2 then N.h e.1 else N.t e.1
noncomputable def rd(N:Nt)(e:Nat×Bool):Int:=if e.2 then N.d e.1 else - N.d e.1
noncomputable def rr(N:Nt)(f:Nat->Int)(e:Nat×Bool):Int:=if e.2 then N.c e.1 - f e.1 else f e.1
def Walk(N:Nt):List (Nat×Bool)->Nat->Nat->Prop
 | [],u,v=>u=v
 |e::r,u,v=>e.1<N.m/\rt N e=u/\Walk N r (rh N e) v
def pr(r:List (Nat×Bool))(x:Int)(f:Nat->Int):Nat->Int:=match r with
 | []=>f
 |e::r=>pr r x (up f e.1 (f e.1+if e.2 then x else -x))
theorem aIv:∀{r:List (Nat×Bool)}{u v:Nat}{f:Nat->Int},Walk N r u v->∀p:Nat->Int,sm N.m (fun k=>pr r x f k*(p (N.h k) - p (N.t k)))=sm N.m (fun k=>f k*(p (N.h k) - p (N.t k)))+x*(p v - p u)
 | [],u,v,f,w,p=>by cases w;simp[pr]
 |e::r,u,v,f,⟨h1,h2,h3⟩,p=>by
  show sm N.m (fun k=>pr r x (up f e.1 _) k*_)=_;rw[aIv h3,aLe h1];subst h2;unfold rt rh;cases e.2
  ·simp only[b9,if_false];have:(f e.1+ -x - f e.1)*(p (N.h e.1) - p (N.t e.1))=x*p (N.t e.1) - x*p (N.h e.1):=by
    rw[show f e.1+ -x - f e.1= -x by lia,Int.neg_mul,dD];lia
   rw[this,dD,dD];lia
  ·simp only[if_true];have:(f e.1+x - f e.1)*(p (N.h e.1) - p (N.t e.1))=x*p (N.h e.1) - x*p (N.t e.1):=by
    rw[show f e.1+x - f e.1=x by lia,dD]
   rw[this,dD,dD];lia
theorem Flo.pour(hf:Flo N f a)(w:Walk N r 0 1):Flo N (pr r x f) (a+x):=fun p=>by
 rw[aIv w,hf p,aOE]
theorem aIH:∀{r:List (Nat×Bool)}{f:Nat->Int}{k:Nat},(∀e∈r,e.1≠k)->pr r x f k=f k
 | [],_,_,_=>rfl
 |e::r,f,k,h=>by
  show pr r x (up f e.1 _) k=_;rw[aIH fun e' he=>h e' (aZ _ he),x8 (fun z=>h e bF z.symm)]
theorem aK1:∀{r:List (Nat×Bool)}{f:Nat->Int}{e:Nat×Bool},(r.map (·.1)).Nodup->e∈r->pr r x f e.1=f e.1+if e.2 then x else -x
 | [],_,_,_,h=>by cases h
 |e::r,f,e',hn,h=>by
  rw[aM,bW]at hn;show pr r x (up f e.1 _) e'.1=_;rcases bE.mp h with rfl|h
  ·rw[aIH fun e hr z=>hn.1 (bL.mpr ⟨e,hr,z⟩),aAu]
  ·rw[aK1 hn.2 h,x8 fun z=>hn.1 (bL.mpr ⟨e',h,z⟩)]
theorem aBB(hn:(r.map (·.1)).Nodup)(f:Nat->Int)(x:Int)(k:Nat):(pr r x f k=f k/\∀e∈r,e.1≠k)\/∃b,(k,b)∈r/\pr r x f k=f k+if b then x else -x:=by
 by_cases h:∃e∈r,e.1=k
 ·obtain⟨⟨k',b⟩,he,rfl⟩:=h
  exact .inr ⟨b,he,aK1 (e:=(k',b)) hn he⟩
 ·exact .inl ⟨aIH fun e he z=>h ⟨e,he,z⟩,fun e he z=>h ⟨e,he,z⟩⟩
theorem Cap.pour(hc:Cap N f)(hn:(r.map (·.1)).Nodup)(hx:0<=x)(hr:∀e∈r,x<=rr N f e):Cap N (pr r x f):=fun k hk=>by
 obtain⟨h1,h2⟩:=hc k hk;rcases aBB hn f x k with⟨e,_⟩| ⟨b,hb,e⟩
 ·rw[e];exact⟨h1,h2⟩
 ·rw[e];have:=hr _ hb;unfold rr at this;cases b<;>simp at this|- <;>lia
def Tight(N:Nt)(p:Nat->Int)(r:List (Nat×Bool)):Prop:=∀e∈r,p (rt N e)+rd N e=p (rh N e)
theorem Pot.pour(hp:Pot N f p)(hn:(r.map (·.1)).Nodup)(ht:Tight N p r):Pot N (pr r x f) p:=fun k hk=>by
 obtain⟨h1,h2⟩:=hp k hk;rcases aBB hn f x k with⟨e,_⟩| ⟨b,hb,e⟩
 ·rw[e];exact⟨h1,h2⟩
 ·have:=ht _ hb;unfold rt rd rh at this;cases b<;>simp at this<;>exact⟨fun _=>by lia,fun _=>by lia⟩
theorem cut(hf:Flo N f a)(hc:Cap N f)(hp:Pot N f p)(W:Nat->Bool)(hq:∀k,k<N.m->W k=false->q (N.t k)+N.d k<=q (N.h k))(h0:p 0<=q 0)(h1:q 1<p 1):
 a<=sm N.m fun k=>if W k then N.c k else 0:=by
 have g:=hf fun v=>if q v<p v then 1 else 0
 simp only[if_pos h1,if_neg (Int.not_lt.mpr h0)]at g;rw[show a=a*(1 - 0)by lia,<-g]
 refine u4 fun k hk=>?_
 obtain⟨c1,c2⟩:=hc k hk;obtain⟨h3,h4⟩:=hp k hk;by_cases z:f k=0
 ·rw[z,eC];split<;>lia
 ·have h4:=h4 (by lia);cases hw:W k
  ·have:=hq k hk hw;have:¬(¬q (N.t k)<p (N.t k)/\q (N.h k)<p (N.h k)):=by lia
   simp only[b9,if_false];by_cases e1:q (N.h k)<p (N.h k)
   ·by_cases e2:q (N.t k)<p (N.t k)
    ·rw[if_pos e1,if_pos e2];lia
    ·exact absurd ⟨e2,e1⟩ this
   ·rw[if_neg e1];by_cases e2:q (N.t k)<p (N.t k)
    ·rw[if_pos e2];lia
    ·rw[if_neg e2];lia
  ·rw[if_pos rfl];by_cases e1:q (N.h k)<p (N.h k)
   ·by_cases e2:q (N.t k)<p (N.t k)
    ·rw[if_pos e1,if_pos e2];lia
    ·rw[if_pos e1,if_neg e2];lia
   ·by_cases e2:q (N.t k)<p (N.t k)
    ·rw[if_neg e1,if_pos e2];lia
    ·rw[if_neg e1,if_neg e2];lia
theorem aDq(hf:Flo N f a)(hc:∀k,k<N.m->0<=f k)(ρ:Nat->Int)(hr:∀k,k<N.m->ρ (N.t k)<ρ (N.h k)){j:Nat}(hj:j<N.m)(h0:ρ 0<ρ (N.h j))(h1:ρ (N.h j)<=ρ 1):f j<=a:=by
 have g:=hf fun v=>if ρ (N.h j)<=ρ v then 1 else 0
 simp only[if_pos h1,if_neg (aQf.mpr h0)]at g;rw[show a=a*(1 - 0)by lia,<-g];have k0:∀k,k<N.m->0<=f k*((if ρ (N.h j)<=ρ (N.h k)then(1:Int)else 0) - if ρ (N.h j)<=ρ (N.t k)then 1 else 0):=fun k hk=>by
  refine dP (hc k hk) ?_
  have:=hr k hk;split<;>split<;>lia
 have hl:=hr j hj;have:=aMv k0 hj;rw[if_pos (bV _),if_neg (by lia)]at this
 lia
end NF
namespace NF
variable {N:Nt}{f p q st:Nat->Int}{a e x:Int}{n:Nat}
def In(N:Nt)(n:Nat):Prop:=∀k,k<N.m->N.t k<n/\N.h k<n
structure Least(N:Nt)(n:Nat)(f st p:Nat->Int):Prop where
 ge:∀v,v<n->st v<=p v
 pot:Pot N f p
 le:∀q,(∀v,v<n->st v<=q v)->Pot N f q->∀v,v<n->p v<=q v
def Open(N:Nt)(f:Nat->Int)(o:Nat×Bool):Prop:=o.1<N.m/\0<rr N f o
theorem kL:Pot N f p↔∀o,Open N f o->p (rt N o)+rd N o<=p (rh N o):=by
 constructor
 ·rintro h ⟨k,b⟩ ⟨hk,ho⟩;obtain⟨h1,h2⟩:=h k hk;unfold rr at ho;unfold rt rd rh;cases b
  ·simp only[b9,if_false]at ho|-;have:=h2 ho;lia
  ·simp only[if_true]at ho|-;exact h1 (by lia)
 ·intro h k hk
  refine⟨fun h1=>?_,fun h1=>?_⟩
  ·have:=h (k,true) ⟨hk,by unfold rr;simp only[if_true];lia⟩;simpa only[rt,rd,rh,if_true]using this
  ·have:=h (k,false) ⟨hk,by unfold rr;simp only[b9,if_false];lia⟩;simp only[rt,rd,rh,b9,if_false]at this
   lia
theorem aGD{o:Nat×Bool}(hq:Pot N f q)(ho:Open N f o)(hl:∀v,v<n->p v<=q v)(hi:rt N o<n):∀v,v<n->up p (rh N o) (p (rt N o)+rd N o) v<=q v:=fun v hv=>by
 unfold up;split
 ·rename_i z;subst z;have:=kL.mp hq o ho;have:=hl _ hi
  lia
 ·exact hl v hv
theorem reach(L:Least N n f st p)(hi:In N n)(h1:1<n)(R:Nat->Prop)(hz:∀v,v<n->p v=st v->R v)(hc:∀o,Open N f o->R (rt N o)->p (rt N o)+rd N o=p (rh N o)->R (rh N o)):R 1:=by
 by_cases hr:R 1
 ·exact hr
 ·exfalso;have key:=L.le (fun v=>open Classical in if R v then p v else p v - 1) (fun v hv=>?_) (kL.mpr fun o ho=>?_) 1 h1
  ·simp only[if_neg hr]at key;lia
  ·have:=L.ge v hv;try dsimp only
   split
   ·exact this
   ·rename_i z;have:p v≠st v:=fun w=>z (hz v hv w)
    lia
  ·have h:=kL.mp L.pot o ho;have h':=hc o ho;try dsimp only
   split
   ·rename_i z1;split
    ·exact h
    ·rename_i z2;have:p (rt N o)+rd N o≠p (rh N o):=fun w=>z2 (h' z1 w)
     lia
   ·split<;>lia
theorem aEC(h1:Pot N f p)(h2:Pot N f q)(x:Int):Pot N f fun v=>if p v<q v - x then q v - x else p v:=kL.mpr fun o ho=>by
 have:=kL.mp h1 o ho;have:=kL.mp h2 o ho;try dsimp only
 split<;>split<;>lia
theorem ends(L:Least N n f (fun v=>if v=1 then e else 0) p)(hn:1<n){m0:Nat->Int}(h0:∀v,v<n->0<=m0 v)(hm:Pot N f m0)(m00:m0 0=0)(m01:m0 1<=e)
 (hq:(∃q,Pot N f q/\q 0=0/\e<=q 1)\/∀o,Open N f o->rt N o≠1):p 1=e/\p 0=0:=by
 have g1:=L.ge 1 hn;have g0:=L.ge 0 (by lia);simp only[if_true,if_neg (show¬(0:Nat)=1 by lia)]at g1 g0;rcases hq with⟨q,hq,q0,q1⟩|hq
 ·have:=L.le _ (fun v hv=>?_) (aEC hm hq (q 1 - e))
  ·have t1:=this 1 hn;have t0:=this 0 (by lia);try simp only at t1 t0
   split at t1<;>split at t0<;>lia
  ·have:=h0 v hv;by_cases hv1:v=1
   ·subst hv1;simp only[if_true];split<;>lia
   ·simp only[if_neg hv1];split<;>lia
 ·have:=L.le (fun v=>if v=1 then e else m0 v) (fun v hv=>?_) (kL.mpr fun o ho=>?_)
  ·have t1:=this 1 hn;have t0:=this 0 (by lia);simp only[if_true,if_neg (show¬(0:Nat)=1 by lia)]at t1 t0
   lia
  ·by_cases hv1:v=1
   ·simp only[if_pos hv1];lia
   ·simp only[if_neg hv1];exact h0 v hv
  ·have:=kL.mp hm o ho;simp only[if_neg (hq o ho)];split
   ·rename_i z;rw[z]at this;lia
   ·exact this
end NF
namespace NF
structure Wk where
 u:Nat->Int
 l:Nat->Int
 p:Nat->Int
noncomputable def net(w:Wk)(n:Nat)(es:List (Nat×Nat))(P:Int):Nt where
 m:=4*n+es.length
 t k:=if k<4*n then(match k%4 with|0=>0|1=>2*(k/4)+2|2=>2*(k/4)+2|_=>2*(k/4)+3)else 2*((es[k - 4*n]?).getD (0,0)).1+3
 h k:=if k<4*n then(match k%4 with|0=>2*(k/4)+2|1=>2*(k/4)+3|2=>2*(k/4)+3|_=>1)else 2*((es[k - 4*n]?).getD (0,0)).2+2
 d k:=if k<4*n then(match k%4 with|1=>w.u (k/4)|2=>w.l (k/4)|_=>0)else 0
 c k:=if k<4*n/\k%4=1 then w.p (k/4)else P
variable {w:Wk}{n:Nat}{es:List (Nat×Nat)}{P:Int}{f p q:Nat->Int}{a:Int}
variable{r:Nat->Int}{i:Nat}
inductive Pipe(w:Wk)(n:Nat)(es:List (Nat×Nat))(P:Int)(k:Nat):Prop where
 |src (i:Nat) (hi:i<n) (e:k=4*i) (t:(net w n es P).t k=0) (h:(net w n es P).h k=2*i+2) (d:(net w n es P).d k=0) (c:(net w n es P).c k=P)
 |usu (i:Nat) (hi:i<n) (e:k=4*i+1) (t:(net w n es P).t k=2*i+2) (h:(net w n es P).h k=2*i+3) (d:(net w n es P).d k=w.u i) (c:(net w n es P).c k=w.p i)
 |lea (i:Nat) (hi:i<n) (e:k=4*i+2) (t:(net w n es P).t k=2*i+2) (h:(net w n es P).h k=2*i+3) (d:(net w n es P).d k=w.l i) (c:(net w n es P).c k=P)
 |snk (i:Nat) (hi:i<n) (e:k=4*i+3) (t:(net w n es P).t k=2*i+3) (h:(net w n es P).h k=1) (d:(net w n es P).d k=0) (c:(net w n es P).c k=P)
 |nee (x y:Nat) (j:Nat) (hj:es[j]?=some (x,y)) (e:k=4*n+j) (t:(net w n es P).t k=2*x+3) (h:(net w n es P).h k=2*y+2) (d:(net w n es P).d k=0) (c:(net w n es P).c k=P)
theorem pipe{k:Nat}(hk:k<(net w n es P).m):Pipe w n es P k:=by
 have hk:k<4*n+es.length:=hk;by_cases h4:k<4*n
 ·have hi:k/4<n:=by lia
  have hm:k%4=0\/k%4=1\/k%4=2\/k%4=3:=by lia
  rcases hm with hm|hm|hm|hm
  ·exact .src (k/4) hi (by lia) (by simp[net,h4,hm]) (by simp[net,h4,hm]) (by simp[net,h4,hm]) (by simp[net,h4,hm])
  ·exact .usu (k/4) hi (by lia) (by simp[net,h4,hm]) (by simp[net,h4,hm]) (by simp[net,h4,hm]) (by simp[net,h4,hm])
  ·exact .lea (k/4) hi (by lia) (by simp[net,h4,hm]) (by simp[net,h4,hm]) (by simp[net,h4,hm]) (by simp[net,h4,hm])
  ·exact .snk (k/4) hi (by lia) (by simp[net,h4,hm]) (by simp[net,h4,hm]) (by simp[net,h4,hm]) (by simp[net,h4,hm])
 ·have hj:k - 4*n<es.length:=by lia
  have e:es[k - 4*n]?=some (es[k - 4*n]):=bA hj
  exact .nee es[k - 4*n].1 es[k - 4*n].2 (k - 4*n) e (by lia) (by simp[net,h4,e]) (by simp[net,h4,e]) (by simp[net,h4,e]) (by simp[net,h4,e])
theorem x9(he:∀e∈es,e.1<n/\e.2<n):In (net w n es P) (2*n+2):=fun k hk=>by
 cases pipe hk with
 |src i hi e t h d c=>rw[t,h];lia
 |usu i hi e t h d c=>rw[t,h];lia
 |lea i hi e t h d c=>rw[t,h];lia
 |snk i hi e t h d c=>rw[t,h];lia
 |nee x y j hj e t h d c=>have:=he _ (bB hj);rw[t,h];lia
noncomputable def rk(n:Nat)(r:Nat->Int)(v:Nat):Int:=if v=0 then -1 else if v=1 then 2*n else if v%2=0 then 2*r (v/2 - 1)else 2*r (v/2 - 1)+1
theorem xQ:rk n r (2*i+2)=2*r i:=by
 unfold rk;rw[if_neg (by lia),if_neg (by lia),if_pos (by lia),show(2*i+2)/2 - 1=i by lia]
theorem vG:rk n r (2*i+3)=2*r i+1:=by
 unfold rk;rw[if_neg (by lia),if_neg (by lia),if_neg (by lia),show(2*i+3)/2 - 1=i by lia]
theorem aK7(hr:∀i,i<n->0<=r i/\r i<n)(he:∀e∈es,r e.1<r e.2):∀k,k<(net w n es P).m->rk n r ((net w n es P).t k)<rk n r ((net w n es P).h k):=fun k hk=>by
 cases pipe hk with
 |src i hi e t h d c=>rw[t,h,xQ];have:=hr i hi;show(-1:Int)<_;lia
 |usu i hi e t h d c=>rw[t,h,xQ,vG];lia
 |lea i hi e t h d c=>rw[t,h,xQ,vG];lia
 |snk i hi e t h d c=>rw[t,h,vG];have:=hr i hi;show _<(2*n:Int);lia
 |nee x y j hj e t h d c=>have:=he _ (bB hj);rw[t,h,xQ,vG];simp only at this;lia
theorem aJ4(hf:Flo (net w n es P) f a)(hc:Cap (net w n es P) f)(hr:∀i,i<n->0<=r i/\r i<n)(he:∀e∈es,r e.1<r e.2)(hn:∀e∈es,e.1<n/\e.2<n){k:Nat}(hk:k<(net w n es P).m):f k<=a:=by
 have up:=aK7 (w:=w) (P:=P) hr he;have hu:=up k hk
 refine aDq hf (fun k hk=>(hc k hk).1) (rk n r) up hk ?_ ?_
 ·cases pipe hk with
  |src i hi e t h d c=>rw[t]at hu;exact hu
  |usu i hi e t h d c=>rw[h,vG];have:=hr i hi;show(-1:Int)<_;lia
  |lea i hi e t h d c=>rw[h,vG];have:=hr i hi;show(-1:Int)<_;lia
  |snk i hi e t h d c=>rw[h];show(-1:Int)<2*n;lia
  |nee x y j hj e t h d c=>rw[h,xQ];have:=hr y (hn _ (bB hj)).2;show(-1:Int)<_;lia
 ·show _<=(2*n:Int);cases pipe hk with
  |src i hi e t h d c=>rw[h,xQ];have:=hr i hi;lia
  |usu i hi e t h d c=>rw[h,vG];have:=hr i hi;lia
  |lea i hi e t h d c=>rw[h,vG];have:=hr i hi;lia
  |snk i hi e t h d c=>rw[h];exact bV _
  |nee x y j hj e t h d c=>rw[h,xQ];have:=hr y (hn _ (bB hj)).2;lia
noncomputable def isU(n:Nat)(k:Nat):Bool:=decide (k<4*n/\k%4=1)
theorem aBt{g:Nat->Int}{n:Nat}:sm (4*n) g=sm n fun i=>g (4*i)+g (4*i+1)+g (4*i+2)+g (4*i+3):=by
 induction n with
 |zero=>rfl
 |succ n ih=>
  show sm (4*n) g+g (4*n)+g (4*n+1)+g (4*n+2)+g (4*n+3)=sm n (fun i=>g (4*i)+g (4*i+1)+g (4*i+2)+g (4*i+3))+(g (4*n)+g (4*n+1)+g (4*n+2)+g (4*n+3));rw[ih]
  lia
theorem vP{g:Nat->Int}{n:Nat}:∀{j:Nat},sm (n+j) g=sm n g+sm j fun i=>g (n+i)
 |0=>by show sm n g=sm n g+0;lia
 |j+1=>by
  show sm (n+j) g+g (n+j)=sm n g+(sm j (fun i=>g (n+i))+g (n+j));rw[vP];lia
theorem aNh:(sm (net w n es P).m fun k=>if isU n k then(net w n es P).c k else 0)=sm n w.p:=by
 show sm (4*n+es.length) _=_;rw[vP,aBt];rw[oW (n:=es.length) (fun i hi=>if_neg (by simp[isU];lia)),aOM]
 refine k7 fun i hi=>?_
 have h0:isU n (4*i)=false:=by simp[isU]
 have h1:isU n (4*i+1)=true:=by simp[isU];lia
 have h2:isU n (4*i+2)=false:=by simp[isU]
 have h3:isU n (4*i+3)=false:=by simp[isU]
 rw[h0,h1,h2,h3];simp only[b9,if_false,if_true];have:(net w n es P).c (4*i+1)=w.p i:=by
  show(if 4*i+1<4*n/\(4*i+1)%4=1 then w.p ((4*i+1)/4)else P)=_;rw[if_pos (by lia),show(4*i+1)/4=i by lia]
 rw[this];lia
end NF
namespace NF
variable {w:Wk}{n:Nat}{es:List (Nat×Nat)}{P E:Int}{f p q b h:Nat->Int}{a:Int}
noncomputable def pf(E:Int)(b h:Nat->Int)(v:Nat):Int:=if v=0 then 0 else if v=1 then E else if v%2=0 then b (v/2 - 1)else b (v/2 - 1)+h (v/2 - 1)
theorem aHQ{i:Nat}:pf E b h (2*i+2)=b i:=by
 unfold pf;rw[if_neg (by lia),if_neg (by lia),if_pos (by lia),show(2*i+2)/2 - 1=i by lia]
theorem aGw{i:Nat}:pf E b h (2*i+3)=b i+h i:=by
 unfold pf;rw[if_neg (by lia),if_neg (by lia),if_neg (by lia),show(2*i+3)/2 - 1=i by lia]
theorem aOc:pf E b h 0=0:=rfl
theorem aOm:pf E b h 1=E:=rfl
structure Tim(n:Nat)(es:List (Nat×Nat))(E:Int)(b h:Nat->Int):Prop where
 b0:∀i,i<n->0<=b i
 e:∀i,i<n->b i+h i<=E
 ne:∀x∈es,b x.1+h x.1<=b x.2
theorem aEM(T:Tim n es E b h)(hl:∀i,i<n->w.l i<=h i):∀k,k<(net w n es P).m->isU n k=false->pf E b h ((net w n es P).t k)+(net w n es P).d k<=pf E b h ((net w n es P).h k):=fun k hk hu=>by
 cases pipe hk with
 |src i hi e t h' d c=>rw[t,h',d,aHQ,aOc];have:=T.b0 i hi;lia
 |usu i hi e t h' d c=>
  have:isU n k=true:=by unfold isU;rw[decide_eq_true_iff];lia
  rw[this]at hu;cases hu
 |lea i hi e t h' d c=>rw[t,h',d,aHQ,aGw];have:=hl i hi;lia
 |snk i hi e t h' d c=>rw[t,h',d,aGw,aOm];have:=T.e i hi;lia
 |nee x y j hj e t h' d c=>rw[t,h',d,aHQ,aGw];have:=T.ne _ (bB hj);simp only at this;lia
theorem aDT(hf:Flo (net w n es P) f a)(hc:Cap (net w n es P) f)(hp:Pot (net w n es P) f p)(h0:p 0<=0)(T:Tim n es E b w.l)(h1:E<p 1):a<=sm n w.p:=by
 rw[<-aNh (w:=w) (n:=n) (es:=es) (P:=P)]
 exact cut hf hc hp (isU n) (aEM T fun i _=>bV _) h0 h1
theorem plenty(hf:Flo (net w n es P) f a)(hc:Cap (net w n es P) f){r:Nat->Int}(hr:∀i,i<n->0<=r i/\r i<n)(he:∀e∈es,r e.1<r e.2)(hn:∀e∈es,e.1<n/\e.2<n)(ha:a<P){k:Nat}(hk:k<(net w n es P).m)(hu:isU n k=false):f k<(net w n es P).c k:=by
 have:=aJ4 hf hc hr he hn hk;have hP:(net w n es P).c k=P:=by
  show(if k<4*n/\k%4=1 then _ else P)=P;rw[if_neg];intro z;rw[show isU n k=true from decide_eq_true z]at hu;cases hu
 lia
theorem aEV(hp:Pot (net w n es P) f p)(ho:∀k,k<(net w n es P).m->isU n k=false->f k<(net w n es P).c k)(h0:p 0=0)(hn:∀e∈es,e.1<n/\e.2<n):
 (∀i,i<n->0<=p (2*i+2))/\(∀i,i<n->p (2*i+2)+w.l i<=p (2*i+3))/\(∀i,i<n->p (2*i+3)<=p 1)/\∀e∈es,p (2*e.1+3)<=p (2*e.2+2):=by
 have key:∀k,k<(net w n es P).m->isU n k=false->p ((net w n es P).t k)+(net w n es P).d k<=p ((net w n es P).h k):=fun k hk hu=>(hp k hk).1 (ho k hk hu)
 have hm:(net w n es P).m=4*n+es.length:=rfl
 refine⟨fun i hi=>?_,fun i hi=>?_,fun i hi=>?_,fun e he=>?_⟩
 ·have hk:4*i<(net w n es P).m:=by rw[hm];lia
  have:=key (4*i) hk (by simp[isU]);cases pipe hk with
  |src j hj e t h' d c=>obtain rfl:j=i:=by lia
                        rw[t,h',d,h0]at this;lia
  |usu j hj e=>lia
  |lea j hj e=>lia
  |snk j hj e=>lia
  |nee x y j hj e=>lia
 ·have hk:4*i+2<(net w n es P).m:=by rw[hm];lia
  have:=key (4*i+2) hk (by simp[isU]);cases pipe hk with
  |src j hj e=>lia
  |usu j hj e=>lia
  |lea j hj e t h' d c=>obtain rfl:j=i:=by lia
                        rw[t,h',d]at this;exact this
  |snk j hj e=>lia
  |nee x y j hj e=>lia
 ·have hk:4*i+3<(net w n es P).m:=by rw[hm];lia
  have:=key (4*i+3) hk (by simp[isU]);cases pipe hk with
  |src j hj e=>lia
  |usu j hj e=>lia
  |lea j hj e=>lia
  |snk j hj e t h' d c=>obtain rfl:j=i:=by lia
                        rw[t,h',d]at this;lia
  |nee x y j hj e=>lia
 ·obtain⟨j,hj⟩:=bN.mp he;have hlt:=(aP.mp hj).1;have hk:4*n+j<(net w n es P).m:=by rw[hm];lia
  have:=key (4*n+j) hk (by unfold isU;rw[decide_eq_false_iff_not];lia);cases pipe hk with
  |src i hi e=>lia
  |usu i hi e=>lia
  |lea i hi e=>lia
  |snk i hi e=>lia
  |nee x y j' hj' e' t h' d c=>
   obtain rfl:j'=j:=by lia
   rw[hj]at hj';cases hj';rw[t,h',d]at this;dsimp only;lia
theorem aGP{x:Int}(h:x<=0):pos x=0:=by unfold pos;rw[if_neg (by lia)]
theorem aMA(hq:∀k,k<(net w n es P).m->isU n k=false->p ((net w n es P).t k)+(net w n es P).d k<=p ((net w n es P).h k)):cost (net w n es P) p=sm n fun i=>w.p i*pos (w.u i - (p (2*i+3) - p (2*i+2))):=by
 have z:∀k,k<(net w n es P).m->isU n k=false->(net w n es P).c k*pos ((net w n es P).d k - (p ((net w n es P).h k) - p ((net w n es P).t k)))=0:=fun k hk hu=>by
  have:=hq k hk hu;rw[aGP (by lia),aOt]
 have hm:(net w n es P).m=4*n+es.length:=rfl;unfold cost;show sm (4*n+es.length) _=_;rw[vP,aBt,oW (n:=es.length) (fun i hi=>z _ (by rw[hm];lia) (by unfold isU;rw[decide_eq_false_iff_not];lia)),aOM]
 refine k7 fun i hi=>?_
 rw[z (4*i) (by rw[hm];lia) (by simp[isU]),z (4*i+2) (by rw[hm];lia) (by simp[isU]),z (4*i+3) (by rw[hm];lia) (by simp[isU])];have hk:4*i+1<(net w n es P).m:=by rw[hm];lia
 cases pipe hk with
 |src j hj e=>lia
 |usu j hj e t h' d c=>obtain rfl:j=i:=by lia
                       rw[t,h',d,c];lia
 |lea j hj e=>lia
 |snk j hj e=>lia
 |nee x y j hj e=>lia
end NF
namespace NF
variable {w:Wk}{n:Nat}{es:List (Nat×Nat)}{P E:Int}{f p q b h:Nat->Int}{a x:Int}
structure Good(w:Wk)(n:Nat)(es:List (Nat×Nat))(P:Int)(f:Nat->Int)(a:Int)(p:Nat->Int):Prop where
 flo:Flo (net w n es P) f a
 cap:Cap (net w n es P) f
 pot:Pot (net w n es P) f p
 p0:p 0=0
 ge:∀v,v<2*n+2->0<=p v
theorem Good.pour{r:List (Nat×Bool)}(G:Good w n es P f a p)(wk:Walk (net w n es P) r 0 1)(nd:(r.map (·.1)).Nodup)(tg:Tight (net w n es P) p r)(hx:0<=x)(hr:∀o∈r,x<=rr (net w n es P) f o):Good w n es P (pr r x f) (a+x) p:=
 ⟨G.flo.pour wk,G.cap.pour nd hx hr,G.pot.pour nd tg,G.p0,G.ge⟩
theorem Good.least(G:Good w n es P f a p)(L:Least (net w n es P) (2*n+2) f (fun _=>0) q):Good w n es P f a q/\∀v,v<2*n+2->q v<=p v:=by
 have h:=L.le p (fun v hv=>G.ge v hv) G.pot
 refine⟨⟨G.flo,G.cap,L.pot,?_,L.ge⟩,h⟩
 have h1:=h 0 (by lia);have h2:=L.ge 0 (by lia);rw[G.p0]at h1;try dsimp only at h2
 lia
theorem Good.bound(G:Good w n es P f a p)(T:Tim n es E b w.l)(h1:E<p 1):a<=sm n w.p:=aDT G.flo G.cap G.pot (by rw[G.p0];exact bV _) T h1
theorem Good.route(G:Good w n es P f a p)(L:Least (net w n es P) (2*n+2) f (fun _=>0) p)(ho:∀k,k<(net w n es P).m->isU n k=false->f k<(net w n es P).c k)(hn:∀e∈es,e.1<n/\e.2<n)(hl:∀i,i<n->0<=w.l i)(h0:0<n)
 (R:Nat->Prop)(r0:R 0)(hc:∀o,Open (net w n es P) f o->R (rt (net w n es P) o)->p (rt (net w n es P) o)+rd (net w n es P) o=p (rh (net w n es P) o)->R (rh (net w n es P) o)):R 1:=by
 obtain⟨q1,q2,q3,q4⟩:=aEV G.pot ho G.p0 hn;have hm:(net w n es P).m=4*n+es.length:=rfl;have fw:∀k,k<(net w n es P).m->isU n k=false->R ((net w n es P).t k)->p ((net w n es P).t k)+(net w n es P).d k=p ((net w n es P).h k)->R ((net w n es P).h k):=fun k hk hu hr ht=>by
  have:=hc (k,true) ⟨hk,by unfold rr;simp only[if_true];have:=ho k hk hu;lia⟩;simp only[rt,rh,rd,if_true]at this
  exact this hr ht
 have hb:∀i,i<n->p (2*i+2)=0->R (2*i+2):=fun i hi hz=>by
  have hk:4*i<(net w n es P).m:=by rw[hm];lia
  have:=fw (4*i) hk (by simp[isU]);cases pipe hk with
  |src j hj e t h' d c=>
   obtain rfl:j=i:=by lia
   rw[t,h',d,G.p0,hz]at this
   exact this r0 rfl
  |usu j hj e=>lia
  |lea j hj e=>lia
  |snk j hj e=>lia
  |nee x y j hj e=>lia
 have hd:∀i,i<n->p (2*i+3)=0->R (2*i+3):=fun i hi hz=>by
  have g1:=q1 i hi;have g2:=q2 i hi;have g3:=hl i hi;have hk:4*i+2<(net w n es P).m:=by rw[hm];lia
  have:=fw (4*i+2) hk (by simp[isU]);cases pipe hk with
  |src j hj e=>lia
  |usu j hj e=>lia
  |lea j hj e t h' d c=>
   obtain rfl:j=i:=by lia
   rw[t,h',d]at this
   exact this (hb j hi (by lia)) (by lia)
  |snk j hj e=>lia
  |nee x y j hj e=>lia
 refine reach L (x9 hn) (by lia) R (fun v hv hz=>?_) hc
 try dsimp only at hz
 by_cases v0:v=0
 ·rw[v0];exact r0
 ·by_cases v1:v=1
  ·subst v1;have g1:=q1 0 h0;have g2:=q2 0 h0;have g3:=q3 0 h0;have g4:=hl 0 h0;have hk:3<(net w n es P).m:=by rw[hm];lia
   have:=fw 3 hk (by simp[isU]);cases pipe hk with
   |src j hj e=>lia
   |usu j hj e=>lia
   |lea j hj e=>lia
   |snk j hj e t h' d c=>
    obtain rfl:j=0:=by lia
    rw[t,h',d]at this
    exact this (hd 0 h0 (by lia)) (by lia)
   |nee x y j hj e=>lia
  ·by_cases ve:v%2=0
   ·obtain⟨i,rfl⟩:∃i,v=2*i+2:=⟨v/2 - 1,by lia⟩
    exact hb i (by lia) hz
   ·obtain⟨i,rfl⟩:∃i,v=2*i+3:=⟨v/2 - 1,by lia⟩
    exact hd i (by lia) hz
theorem Good.price(G:Good w n es P f a p)(ho:∀k,k<(net w n es P).m->isU n k=false->f k<(net w n es P).c k):len (net w n es P) f - a*p 1=sm n fun i=>w.p i*pos (w.u i - (p (2*i+3) - p (2*i+2))):=by
 have:=strong G.flo G.cap G.pot;rw[G.p0,aOu]at this;rw[this]
 exact aMA fun k hk hu=>(G.pot k hk).1 (ho k hk hu)
end NF
namespace NF
variable{e:(Nat×Nat)×Int}{L:Fl}
noncomputable abbrev Fl:=List ((Nat×Nat)×Int)
noncomputable def sl(L:Fl)(g:Nat×Nat->Int):Int:=(L.map fun e=>e.2*g e.1).sum
theorem aMf{g:Nat×Nat->Int}:sl [] g=0:=rfl
theorem mO{g:Nat×Nat->Int}:sl (e::L) g=e.2*g e.1+sl L g:=by unfold sl;rw[aM,dX]
def Con(L:Fl)(a:Int):Prop:=∀p:Nat->Int,sl L (fun s=>p s.2 - p s.1)=a*(p 1 - p 0)
theorem aHd{g:Nat×Nat->Int}:∀{L:Fl},(∀e∈L,0<=e.2*g e.1)->0<=sl L g
 | [],_=>bV _
 |e::L,h=>by
  rw[mO];have:=h e bF;have:=aHd fun e he=>h e (aZ _ he)
  lia
theorem aDp{g:Nat×Nat->Int}:∀{L:Fl},(∀e∈L,0<=e.2*g e.1)->∀e∈L,e.2*g e.1<=sl L g
 | [],_,_,he=>by cases he
 |e::L,h,e',he=>by
  rw[mO];have h0:=aHd fun e he=>h e (aZ _ he)
  rcases bE.mp he with rfl|he
  ·lia
  ·have:=aDp (fun e he=>h e (aZ _ he)) e' he;have:=h e bF
   lia
theorem aKJ{a:Int}(hc:Con L a)(h0:∀e∈L,0<=e.2){v:Nat}(hv0:v≠0)(hv1:v≠1)(he:e∈L)(hv:e.1.2=v)(hp:0<e.2):∃e'∈L,e'.1.1=v/\0<e'.2:=by
 have hh:¬∀e'∈L,e'.1.1=v->¬0<e'.2:=fun no=>by
  have k:=hc fun u=>if u=v then 1 else 0
  rw[if_neg (Ne.symm hv1),if_neg (Ne.symm hv0)]at k;have nn:∀e'∈L,0<=e'.2*((if e'.1.2=v then(1:Int)else 0) - if e'.1.1=v then 1 else 0):=fun e' he'=>by
   have z:=h0 e' he';by_cases ht:e'.1.1=v
   ·have:e'.2=0:=by have:=no e' he' ht;lia
    rw[this,eC];exact bV _
   ·rw[if_neg ht,aOu];split
    ·lia
    ·lia
  have:=aDp (g:=fun s=>(if s.2=v then(1:Int)else 0) - if s.1=v then 1 else 0) nn e he;rw[if_pos hv]at this;by_cases ht:e.1.1=v
  ·exact no e he ht hp
  ·rw[if_neg ht]at this;simp only[aP5,aOt]at k;have k':sl L (fun s=>(if s.2=v then(1:Int)else 0) - if s.1=v then 1 else 0)=0:=k
   lia
 apply cO;intro h
 exact hh fun e' he' ht hp'=>h ⟨e',he',ht,hp'⟩
theorem aKv{a:Int}(hc:Con L a)(h0:∀e∈L,0<=e.2)(hz:∀e∈L,e.1.2≠0)(ha:0<a):∃e∈L,e.1.1=0/\0<e.2:=by
 apply cO;intro h;have k:=hc fun u=>if u=0 then 1 else 0
 rw[if_neg (by lia),if_pos rfl]at k;have k':sl L (fun s=>(if s.2=0 then(1:Int)else 0) - if s.1=0 then 1 else 0)=a*(0 - 1):=k;have:0<=sl L (fun s=>(if s.2=0 then(1:Int)else 0) - if s.1=0 then 1 else 0):=aHd fun e he=>by
  rw[if_neg (hz e he)];by_cases ht:e.1.1=0
  ·have z:=h0 e he;have:¬0<e.2:=fun hp=>h ⟨e,he,ht,hp⟩
   have:e.2=0:=by lia
   rw[this,eC];exact bV _
  ·rw[if_neg ht];simp
 lia
noncomputable def tk(x:Int)(s:Nat×Nat)(L:Fl):Fl:=L.map fun e=>if e.1=s then(e.1,e.2 - x)else e
theorem aLk{x:Int}{s:Nat×Nat}{g:Nat×Nat->Int}:∀{L:Fl},(L.map (·.1)).Nodup->s∈L.map (·.1)->sl (tk x s L) g=sl L g - x*g s
 | [],_,h=>by cases h
 |e::L,hn,h=>by
  rw[aM,bW]at hn;unfold tk;rw[aM,mO,mO];by_cases hs:e.1=s
  ·rw[if_pos hs];have hk:(L.map fun e=>if e.1=s then(e.1,e.2 - x)else e)=L:=by
    conv=>rhs;rw[<-List.map_id L]
    refine cS fun e' he'=>?_
    rw[if_neg fun z=>hn.1 (by rw[hs,<-z];exact cT he')];rfl
   rw[hk];subst hs;dsimp only;rw[aO1];lia
  ·rw[if_neg hs];have hm:s∈L.map (·.1):=by
    rcases bE.mp h with z|z
    ·exact absurd z.symm hs
    ·exact z
   have:=aLk (x:=x) (g:=g) hn.2 hm;unfold tk at this;rw[this];lia
theorem vO{x:Int}{s:Nat×Nat}:(tk x s L).map (·.1)=L.map (·.1):=by
 unfold tk;rw[cD]
 refine cS fun e _=>?_
 show(if e.1=s then(e.1,e.2 - x)else e).1=e.1;split<;>rfl
end NF
namespace NF
variable {L:Fl}{a x:Int}
def SW:List (Nat×Nat)->Nat->Nat->Prop
 | [],u,v=>u=v
 |s::r,u,v=>s.1=u/\SW r s.2 v
def tks(x:Int):List (Nat×Nat)->Fl->Fl
 | [],L=>L
 |s::r,L=>tks x r (tk x s L)
theorem oA:∀{r:List (Nat×Nat)}{L:Fl},(tks x r L).map (·.1)=L.map (·.1)
 | [],_=>rfl
 |s::r,L=>by unfold tks;rw[oA,vO]
theorem aGG{p:Nat->Int}:∀{r:List (Nat×Nat)}{L:Fl}{u v:Nat},(L.map (·.1)).Nodup->(∀s∈r,s∈L.map (·.1))->SW r u v->sl (tks x r L) (fun s=>p s.2 - p s.1)=sl L (fun s=>p s.2 - p s.1) - x*(p v - p u)
 | [],L,u,v,_,_,h=>by cases h;unfold tks;rw[aP5,aOt,aOu]
 |s::r,L,u,v,hn,hm,⟨h1,h2⟩=>by
  unfold tks;rw[aGG (by rw[vO];exact hn) (fun s' hs=>by rw[vO];exact hm s' (aZ _ hs)) h2,aLk hn (hm s bF)];subst h1;rw[dD,dD,dD];lia
theorem Con.take{r:List (Nat×Nat)}(hc:Con L a)(hn:(L.map (·.1)).Nodup)(hm:∀s∈r,s∈L.map (·.1))(w:SW r 0 1):Con (tks x r L) (a - x):=fun p=>by
 rw[aGG hn hm w,hc p,aO1]
noncomputable def at_(L:Fl)(s:Nat×Nat):Int:=(L.lookup s).getD 0
theorem aLp{s s':Nat×Nat}:∀{L:Fl},at_ (tk x s L) s'=if s'=s/\s∈L.map (·.1)then at_ L s' - x else at_ L s'
 | []=>by unfold tk at_;simp
 |e::L=>by
  have ih:=aLp (s:=s) (s':=s') (L:=L);unfold tk at_ at ih|-;rw[aM];by_cases h1:s'=e.1
  ·subst h1;have hl:dI e.1 (e::L)=some e.2:=by rw[bZ,beq_self_eq_true]
   by_cases h2:e.1=s
   ·subst h2;rw[if_pos rfl,if_pos ⟨rfl,by simp⟩,hl,bZ,beq_self_eq_true];rfl
   ·have:¬(e.1=s/\s∈(e::L).map (·.1)):=fun z=>h2 z.1
    rw[if_neg h2,if_neg this,hl,bZ,beq_self_eq_true]
  ·have hb:(s'==e.1)=false:=beq_eq_false_iff_ne.mpr h1;have hl:dI s' ((if e.1=s then(e.1,e.2 - x)else e)::L.map fun e=>if e.1=s then(e.1,e.2 - x)else e)=dI s' (L.map fun e=>if e.1=s then(e.1,e.2 - x)else e):=by
    rw[bZ];split
    ·rename_i z;exfalso;by_cases h2:e.1=s
     ·rw[if_pos h2]at z;rw[hb]at z;cases z
     ·rw[if_neg h2]at z;rw[hb]at z;cases z
    ·rfl
   rw[hl,ih];rw[show dI s' (e::L)=dI s' L from by rw[bZ,hb]];by_cases h3:s'=s
   ·subst h3;simp only[true_and,aM,bE,h1,false_or]
   ·simp only[h3,false_and]
theorem aGC{s':Nat×Nat}:∀{r:List (Nat×Nat)}{L:Fl},(∀s∈r,s∈L.map (·.1))->at_ (tks x r L) s'=at_ L s' - x*(r.count s':Int)
 | [],L,_=>by unfold tks;simp
 |s::r,L,hm=>by
  unfold tks;rw[aGC (fun s' hs=>by rw[vO];exact hm s' (aZ _ hs)),aLp,aOI];by_cases h:s'=s
  ·subst h;rw[if_pos ⟨rfl,hm s' bF⟩];simp only[beq_self_eq_true,if_true,Int.natCast_add,aQd]
   lia
  ·rw[if_neg (fun z=>h z.1),if_neg (by simpa using Ne.symm h)];simp
theorem aKE(hc:Con L a)(h0:∀e∈L,0<=e.2)(ρ:Nat->Int)(hr:∀e∈L,ρ e.1.1<ρ e.1.2){e:(Nat×Nat)×Int}(he:e∈L)(h1:ρ 0<ρ e.1.2)(h2:ρ e.1.2<=ρ 1):e.2<=a:=by
 have k:=hc fun v=>if ρ e.1.2<=ρ v then 1 else 0
 rw[if_pos h2,if_neg (aQf.mpr h1)]at k;have k':sl L (fun s=>(if ρ e.1.2<=ρ s.2 then(1:Int)else 0) - if ρ e.1.2<=ρ s.1 then 1 else 0)=a*(1 - 0):=k;have:=aDp (L:=L) (g:=fun s=>(if ρ e.1.2<=ρ s.2 then(1:Int)else 0) - if ρ e.1.2<=ρ s.1 then 1 else 0) (fun e' he'=>by
  refine dP (h0 e' he') ?_
  have:=hr e' he';split<;>split<;>lia) e he
 have hl:=hr e he;rw[if_pos (bV _),if_neg (by lia)]at this
 lia
end NF
namespace NF
variable {N:Nt}{f:Nat->Int}{a v:Int}{s:Nat×Nat}{g:Nat×Nat->Int}
noncomputable def ad(s:Nat×Nat)(v:Int):Fl->Fl
 | []=>[(s,v)]
 |e::L=>if e.1=s then(e.1,e.2+v)::L else e::ad s v L
theorem aLn:∀{L:Fl},sl (ad s v L) g=sl L g+v*g s
 | []=>by unfold ad;rw[mO,aMf];dsimp only;lia
 |e::L=>by
  unfold ad;split
  ·rename_i h;rw[mO,mO];subst h;dsimp only;rw[aOE];lia
  ·rw[mO,mO,aLn];lia
theorem aDN{s':Nat×Nat}:∀{L:Fl},s'∈(ad s v L).map (·.1)↔s'=s\/s'∈L.map (·.1)
 | []=>by unfold ad;simp
 |e::L=>by
  unfold ad;split
  ·rename_i h;subst h;simp only[aM,bE];constructor
   ·exact .inr
   ·rintro(h|h)
    ·exact .inl h
    ·exact h
  ·simp only[aM,bE];rw[aDN];constructor
   ·rintro(h|h|h)
    ·exact .inr (.inl h)
    ·exact .inl h
    ·exact .inr (.inr h)
   ·rintro(h|h|h)
    ·exact .inr (.inl h)
    ·exact .inl h
    ·exact .inr (.inr h)
theorem aCq:∀{L:Fl},(L.map (·.1)).Nodup->((ad s v L).map (·.1)).Nodup
 | [],_=>by unfold ad;simp
 |e::L,h=>by
  unfold ad;rw[aM,bW]at h;split
  ·rw[aM,bW];exact h
  ·rename_i hs;rw[aM,bW]
   refine⟨fun z=>?_,aCq h.2⟩
   rcases aDN.mp z with z|z
   ·exact hs z
   ·exact h.1 z
theorem z6(hv:0<=v):∀{L:Fl},(∀e∈L,0<=e.2)->∀e∈ad s v L,0<=e.2
 | [],_,e,he=>by
   unfold ad at he;rw[bR.mp he];exact hv
 |e'::L,h,e,he=>by
  unfold ad at he;split at he
  ·rcases bE.mp he with rfl|he
   ·have:=h e' bF;dsimp only;lia
   ·exact h e (aZ _ he)
  ·rcases bE.mp he with rfl|he
   ·exact h e bF
   ·exact z6 hv (fun e he=>h e (aZ _ he)) e he
theorem aK0{s':Nat×Nat}:∀{L:Fl},at_ (ad s v L) s'=at_ L s'+if s'=s then v else 0
 | []=>by
   unfold ad at_;by_cases h:s'=s
   ·rw[bZ,beq_iff_eq.mpr h,if_pos h];simp
   ·rw[bZ,beq_eq_false_iff_ne.mpr h,if_neg h];simp
 |e::L=>by
  have ih:=aK0 (s':=s') (L:=L);unfold ad;by_cases h1:s'=e.1
  ·subst h1;have l1:∀M:Fl,at_ (e::M) e.1=e.2:=fun M=>by unfold at_;rw[bZ,beq_self_eq_true];rfl
   by_cases h2:e.1=s
   ·rw[if_pos h2,if_pos h2,l1];unfold at_;rw[bZ,beq_self_eq_true];rfl
   ·rw[if_neg h2,if_neg h2,l1,l1];lia
  ·have l1:∀(y:Int)(M:Fl),at_ ((e.1,y)::M) s'=at_ M s':=fun y M=>by unfold at_;rw[bZ,beq_eq_false_iff_ne.mpr h1]
   have l2:∀M:Fl,at_ (e::M) s'=at_ M s':=fun M=>l1 e.2 M
   by_cases h2:e.1=s
   ·rw[if_pos h2,l1,l2,if_neg (fun z=>h1 (z.trans h2.symm))];lia
   ·rw[if_neg h2,l2,l2,ih]
def stp(N:Nt)(f:Nat->Int):Nat->Fl
 |0=>[]
 |k+1=>ad (N.t k,N.h k) (f k) (stp N f k)
theorem aGh:∀{k:Nat},sl (stp N f k) g=sm k fun j=>f j*g (N.t j,N.h j)
 |0=>rfl
 |k+1=>by
  show sl (ad _ _ _) g=sm k _+_;rw[aLn,aGh]
theorem aMF(hf:Flo N f a):Con (stp N f N.m) a:=fun p=>by rw[aGh];exact hf p
theorem tS:∀{k:Nat},((stp N f k).map (·.1)).Nodup
 |0=>List.Pairwise.nil
 |k+1=>aCq tS
theorem wT(h:∀k,k<N.m->0<=f k):∀{k:Nat},k<=N.m->∀e∈stp N f k,0<=e.2
 |0,_,e,he=>by cases he
 |k+1,hk,e,he=>z6 (h k (by lia)) (wT h (by lia)) e he
theorem aGm{s:Nat×Nat}:∀{k:Nat},at_ (stp N f k) s=sm k fun j=>if s=(N.t j,N.h j)then f j else 0
 |0=>rfl
 |k+1=>by
  show at_ (ad _ _ _) s=sm k _+_;rw[aK0,aGm]
theorem xV{s:Nat×Nat}:∀{k:Nat},s∈(stp N f k).map (·.1)->∃j,j<k/\s=(N.t j,N.h j)
 |0,h=>by cases h
 |k+1,h=>by
  rcases aDN.mp h with h|h
  ·exact⟨k,by lia,h⟩
  ·obtain⟨j,hj,e⟩:=xV h
   exact⟨j,by lia,e⟩
end NF
namespace NF
variable {w:Wk}{n:Nat}{es:List (Nat×Nat)}{P:Int}{f p:Nat->Int}{a:Int}
theorem aN2:len (net w n es P) f=sm n fun i=>f (4*i+1)*w.u i+f (4*i+2)*w.l i:=by
 have hm:(net w n es P).m=4*n+es.length:=rfl;unfold len;show sm (4*n+es.length) _=_;rw[vP,aBt,oW (n:=es.length) (fun j hj=>?_),aOM]
 ·refine k7 fun i hi=>?_
  have e0:(net w n es P).d (4*i)=0:=by
   cases pipe (w:=w) (es:=es) (P:=P) (show 4*i<(net w n es P).m by rw[hm];lia)with
   |src j hj e t h d c=>exact d
   |usu j hj e=>lia
   |lea j hj e=>lia
   |snk j hj e=>lia
   |nee x y j hj e=>lia
  have e1:(net w n es P).d (4*i+1)=w.u i:=by
   cases pipe (w:=w) (es:=es) (P:=P) (show 4*i+1<(net w n es P).m by rw[hm];lia)with
   |src j hj e=>lia
   |usu j hj e t h d c=>obtain rfl:j=i:=by lia
                        exact d
   |lea j hj e=>lia
   |snk j hj e=>lia
   |nee x y j hj e=>lia
  have e2:(net w n es P).d (4*i+2)=w.l i:=by
   cases pipe (w:=w) (es:=es) (P:=P) (show 4*i+2<(net w n es P).m by rw[hm];lia)with
   |src j hj e=>lia
   |usu j hj e=>lia
   |lea j hj e t h d c=>obtain rfl:j=i:=by lia
                        exact d
   |snk j hj e=>lia
   |nee x y j hj e=>lia
  have e3:(net w n es P).d (4*i+3)=0:=by
   cases pipe (w:=w) (es:=es) (P:=P) (show 4*i+3<(net w n es P).m by rw[hm];lia)with
   |src j hj e=>lia
   |usu j hj e=>lia
   |lea j hj e=>lia
   |snk j hj e t h d c=>exact d
   |nee x y j hj e=>lia
  rw[e0,e1,e2,e3];lia
 ·have:(net w n es P).d (4*n+j)=0:=by
   cases pipe (w:=w) (es:=es) (P:=P) (show 4*n+j<(net w n es P).m by rw[hm];lia)with
   |src i hi e=>lia
   |usu i hi e=>lia
   |lea i hi e=>lia
   |snk i hi e=>lia
   |nee x y i hi e t h d c=>exact d
  rw[this,aOt]
theorem aJ5{f1 f2 u l pr:Int}(h1:0<=f1)(h2:f1<=pr)(h3:0<=f2)(h:0<f2->f1=pr\/u=l):f1*u+f2*l=if f1+f2<=pr then(f1+f2)*u else pr*u+(f1+f2 - pr)*l:=by
 by_cases z:f2=0
 ·subst z;rw[aOM,if_pos h2,eC,aOM]
 ·rcases h (by lia)with e|e
  ·subst e;rw[if_neg (by lia),show f1+f2 - f1=f2 by lia]
  ·subst e;split
   ·rw[aOE]
   ·rw[<-aOE,<-aOE];congr 1;lia
theorem aAJ(hc:Cap (net w n es P) f)(hp:Pot (net w n es P) f p)(hlu:∀i,i<n->w.l i<=w.u i){i:Nat}(hi:i<n):0<f (4*i+2)->f (4*i+1)=w.p i\/w.u i=w.l i:=fun h2=>by
 have hm:(net w n es P).m=4*n+es.length:=rfl;have k1:4*i+1<(net w n es P).m:=by rw[hm];lia
 have k2:4*i+2<(net w n es P).m:=by rw[hm];lia
 have a1:=hp _ k1;have a2:=(hp _ k2).2 h2;have b1:=(hc _ k1).2;have hl:=hlu i hi;cases pipe k2 with
 |src j hj e=>lia
 |usu j hj e=>lia
 |lea j hj e t h d c=>
  obtain rfl:j=i:=by lia
  rw[t,h,d]at a2;cases pipe k1 with
  |src j' hj' e'=>lia
  |usu j' hj' e' t' h' d' c'=>
   obtain rfl:j'=j:=by lia
   rw[t',h',d',c']at a1;rw[c']at b1;by_cases z:f (4*j'+1)<w.p j'
   ·have:=a1.1 z
    exact .inr (by lia)
   ·exact .inl (by lia)
  |lea j' hj' e'=>lia
  |snk j' hj' e'=>lia
  |nee x y j' hj' e'=>lia
 |snk j hj e=>lia
 |nee x y j hj e=>lia
noncomputable def thr(f:Nat->Int)(i:Nat):Int:=f (4*i+1)+f (4*i+2)
theorem aIt(G:Good w n es P f a p)(hlu:∀i,i<n->w.l i<=w.u i):len (net w n es P) f=sm n fun i=>if thr f i<=w.p i then thr f i*w.u i else w.p i*w.u i+(thr f i - w.p i)*w.l i:=by
 have hm:(net w n es P).m=4*n+es.length:=rfl;rw[aN2]
 refine k7 fun i hi=>?_
 have k1:4*i+1<(net w n es P).m:=by rw[hm];lia
 have k2:4*i+2<(net w n es P).m:=by rw[hm];lia
 have c1:=G.cap _ k1;have c2:=G.cap _ k2;have hP:(net w n es P).c (4*i+1)=w.p i:=by
  show(if 4*i+1<4*n/\(4*i+1)%4=1 then w.p ((4*i+1)/4)else P)=_;rw[if_pos (by lia),show(4*i+1)/4=i by lia]
 rw[hP]at c1
 exact aJ5 c1.1 c1.2 c2.1 (aAJ G.cap G.pot hlu hi)
end NF
namespace NF
variable {w:Wk}{n:Nat}{es:List (Nat×Nat)}{P P':Int}{f f' p q m:Nat->Int}{a a' e:Int}
theorem aDw(G:Good w n es P f a p)(G':Good w n es P f' a' q)(h1:p 1=e)(h2:q 1=e):len (net w n es P) f - a*e=len (net w n es P) f' - a'*e:=by
 have s1:=strong G.flo G.cap G.pot;have s2:=strong G'.flo G'.cap G'.pot;have w1:=weak G.flo G.cap q;have w2:=weak G'.flo G'.cap p;rw[G.p0,h1,aOu]at s1 w2;rw[G'.p0,h2,aOu]at s2 w1
 lia
theorem Good.amid(G:Good w n es P f a m)(G':Good w n es P f a q)(h1:m 1<=e)(h2:e<=q 1):∃p,Good w n es P f a p/\p 1=e:=by
 refine⟨fun v=>if m v<q v - (q 1 - e)then q v - (q 1 - e)else m v,⟨G.flo,G.cap,aEC G.pot G'.pot _,?_,fun v hv=>?_⟩,?_⟩
 ·show(if m 0<q 0 - (q 1 - e)then q 0 - (q 1 - e)else m 0)=0;rw[G.p0,G'.p0,if_neg (by lia)]
 ·have:=G.ge v hv;show 0<=if m v<q v - (q 1 - e)then q v - (q 1 - e)else m v
  split<;>lia
 ·show(if m 1<q 1 - (q 1 - e)then q 1 - (q 1 - e)else m 1)=e;split<;>lia
end NF
namespace NF
variable {N:Nt}{n:Nat}{f st x p:Nat->Int}
variable{o:Nat×Bool}{r:List (Nat×Bool)}
structure Ris(N:Nt)(n:Nat)(f st x:Nat->Int):Prop where
 ge:∀v,v<n->st v<=x v
 le:∀q,(∀v,v<n->st v<=q v)->Pot N f q->∀v,v<n->x v<=q v
theorem Ris.start:Ris N n f st st:=⟨fun _ _=>bV _,fun q h _=>h⟩
theorem Ris.raise(R:Ris N n f st x)(ho:Open N f o)(hi:rt N o<n)(hr:x (rh N o)<x (rt N o)+rd N o):Ris N n f st (up x (rh N o) (x (rt N o)+rd N o)):=by
 refine⟨fun v hv=>?_,fun q hq hp=>aGD hp ho (R.le q hq hp) hi⟩
 have:=R.ge v hv;unfold up;split
 ·rename_i z;subst z;lia
 ·exact this
theorem Ris.done(R:Ris N n f st x)(h:∀o,Open N f o->x (rt N o)+rd N o<=x (rh N o)):Least N n f st x:=⟨R.ge,kL.mpr h,R.le⟩
theorem aIx{n:Nat}{x:Nat->Int}{k:Nat}{v:Int}(hk:k<n):sm n (up x k v)=sm n x+(v - x k):=by
 have:=aLe (f:=x) (g:=fun _=>1) (v:=v) hk;simpa using this
theorem Ris.sum_le(R:Ris N n f st x){q:Nat->Int}(hq:∀v,v<n->st v<=q v)(hp:Pot N f q):sm n x<=sm n q:=u4 fun v hv=>R.le q hq hp v hv
theorem aAk(hh:rh N o<n)(hr:x (rh N o)<x (rt N o)+rd N o):sm n x<sm n (up x (rh N o) (x (rt N o)+rd N o)):=by
 rw[aIx hh];lia
structure Rte(N:Nt)(f p:Nat->Int)(r:List (Nat×Bool))(v:Nat):Prop where
 wk:Walk N r 0 v
 tg:Tight N p r
 op:∀o∈r,Open N f o
 nd:(0::r.map (rh N)).Nodup
theorem Walk.snoc:∀{r:List (Nat×Bool)}{u v:Nat}{o:Nat×Bool},Walk N r u v->o.1<N.m->rt N o=v->Walk N (r++[o]) u (rh N o)
 | [],u,v,o,h,h1,h2=>by cases h;exact⟨h1,h2,rfl⟩
 |e::r,u,v,o,⟨a,b,c⟩,h1,h2=>⟨a,b,Walk.snoc c h1 h2⟩
theorem Rte.nil:Rte N f p [] 0:=⟨rfl,(fun e h=>by cases h),(fun e h=>by cases h),by simp⟩
theorem Rte.snoc{v:Nat}(R:Rte N f p r v)(ho:Open N f o)(ht:rt N o=v)(tg:p (rt N o)+rd N o=p (rh N o))(hn:rh N o∉0::r.map (rh N)):Rte N f p (r++[o]) (rh N o):=by
 refine⟨R.wk.snoc ho.1 ht,fun e he=>?_,fun e he=>?_,?_⟩
 ·rcases bM.mp he with he|he
  ·exact R.tg e he
  ·rw[bR.mp he];exact tg
 ·rcases bM.mp he with he|he
  ·exact R.op e he
  ·rw[bR.mp he];exact ho
 ·rw[bS,<-aV]
  refine dR.mpr ⟨R.nd,by simp,fun a ha b hb=>?_⟩
  simp only[aM,bD,bR]at hb;rintro rfl;subst hb
  exact hn ha
theorem yS:∀{r:List (Nat×Bool)}{u v:Nat},Walk N r u v->(u::r.map (rh N)).Nodup->(r.map (·.1)).Nodup
 | [],_,_,_,_=>List.Pairwise.nil
 |e::r,u,v,⟨_,h2,h3⟩,hn=>by
  rw[aM,bW]at hn;rw[aM,bW]
  refine⟨fun z=>?_,yS h3 hn.2⟩
  obtain⟨e',he',z⟩:=bL.mp z;have hm:rh N e'∈r.map (rh N):=cT he';have h4:=(bW.mp hn.2).1;by_cases hb:e'.2=e.2
  ·have:e'=e:=aP8 z hb;subst this
   exact h4 hm
  ·have:rh N e'=rt N e:=by
    unfold rh rt;rw[z];cases h5:e'.2<;>cases h6:e.2<;>simp_all
   rw[this,h2]at hm
   exact hn.1 (aZ _ hm)
theorem Rte.pipes{v:Nat}(R:Rte N f p r v):(r.map (·.1)).Nodup:=yS R.wk R.nd
end NF
namespace NF
variable {n:Nat}{es:List (Nat×Nat)}
noncomputable def od{α:Type}:List α->List α
 |_::y::r=>y::od r
 |_=>[]
inductive Ky(n:Nat)(es:List (Nat×Nat))(s:Nat×Nat):Prop where
 |src (i:Nat) (hi:i<n) (e:s=(0,2*i+2))
 |wk (i:Nat) (hi:i<n) (e:s=(2*i+2,2*i+3))
 |snk (i:Nat) (hi:i<n) (e:s=(2*i+3,1))
 |nee (x y:Nat) (h:(x,y)∈es) (e:s=(2*x+3,2*y+2))
theorem aN4{w:Wk}{P:Int}{f:Nat->Int}{s:Nat×Nat}(h:s∈(stp (net w n es P) f (net w n es P).m).map (·.1)):Ky n es s:=by
 obtain⟨j,hj,rfl⟩:=xV h;cases pipe hj with
 |src i hi e t h d c=>exact .src i hi (by rw[t,h])
 |usu i hi e t h d c=>exact .wk i hi (by rw[t,h])
 |lea i hi e t h d c=>exact .wk i hi (by rw[t,h])
 |snk i hi e t h d c=>exact .snk i hi (by rw[t,h])
 |nee x y i hi e t h d c=>exact .nee x y (bB hi) (by rw[t,h])
noncomputable def stw(i:Nat):Nat×Nat:=(2*i+2,2*i+3)
def Chn(es:List (Nat×Nat)):Option Nat->List Nat->Prop
 |_,[]=>True
 |b,i::r=>(∀a,b=some a->(a,i)∈es)/\Chn es (some i) r
theorem aJn{i j:Nat}(h:stw i=stw j):i=j:=by
 unfold stw at h;have:=(aQg.inj h).1
 lia
theorem aGp:∀(r:List (Nat×Nat))(b:Option Nat),SW r (match b with|none=>0|some a=>2*a+3) 1->(∀s∈r,Ky n es s)->
 ∃is:List Nat,od r=is.map stw/\(∀i∈is,i<n)/\Chn es b is/\(b=none->is≠[])/\∀i,r.count (stw i)=is.count i
 | [],b,h,_=>by
   exfalso;have h:(match b with|none=>0|some a=>2*a+3)=1:=h;cases b<;>simp at h
 | [s],b,⟨h1,h2⟩,hk=>by
   have h2:s.2=1:=h2
   refine⟨[],rfl,by simp,trivial,fun hb=>?_,fun i=>?_⟩
   ·subst hb;exfalso;cases hk s bF with
    |src i hi e=>rw[e]at h2;simp at h2
    |wk i hi e=>rw[e]at h1;simp at h1
    |snk i hi e=>rw[e]at h1;simp at h1
    |nee x y h e=>rw[e]at h1;simp at h1
   ·rw[List.count_singleton,List.count_nil,if_neg];intro z;have:s=stw i:=by simpa using z
    rw[this]at h2;unfold stw at h2;simp at h2
 |s::s2::r,b,⟨h1,h2,h3⟩,hk=>by
  have k1:=hk s bF;have k2:=hk s2 (aZ _ bF);have key:∃i,i<n/\s2=stw i/\(∀a,b=some a->(a,i)∈es)/\∀j,s≠stw j:=by
   cases k1 with
   |src i hi e=>
    subst e;have hb:b=none:=by cases b<;>simp_all
    cases k2 with
    |src j hj e=>subst e;simp at h2
    |wk j hj e=>
     subst e
     refine⟨j,hj,rfl,fun a ha=>?_,fun j' z=>?_⟩
     ·rw[hb]at ha;cases ha
     ·unfold stw at z;simp at z
    |snk j hj e=>subst e;simp at h2;lia
    |nee x y h e=>subst e;simp at h2;lia
   |wk i hi e=>subst e;cases b<;>simp at h1<;>lia
   |snk i hi e=>
    subst e;cases k2 with
    |src j hj e=>subst e;simp at h2
    |wk j hj e=>subst e;simp at h2
    |snk j hj e=>subst e;simp at h2
    |nee x y h e=>subst e;simp at h2
   |nee x y h e=>
    subst e;cases k2 with
    |src j hj e=>subst e;simp at h2
    |wk j hj e=>
     subst e;have hjy:j=y:=by simp at h2;lia
     subst hjy
     refine⟨j,hj,rfl,fun a ha=>?_,fun j' z=>?_⟩
     ·subst ha;have:x=a:=by simp at h1;lia
      subst this;exact h
     ·unfold stw at z;simp at z;lia
    |snk j hj e=>subst e;simp at h2;lia
    |nee x' y' h' e=>subst e;simp at h2;lia
  obtain⟨i,hi,e2,hb,hs⟩:=key;subst e2;obtain⟨is,q1,q2,q3,_,q5⟩:=aGp r (some i) h3 fun s hs=>hk s (aZ _ (aZ _ hs))
  refine⟨i::is,?_,?_,⟨hb,q3⟩,fun _=>by simp,fun j=>?_⟩
  ·show stw i::od r=_;rw[q1];rfl
  ·intro j hj;rcases bE.mp hj with rfl|hj
   ·exact hi
   ·exact q2 j hj
  ·have c1:(s==stw j)=false:=beq_eq_false_iff_ne.mpr (hs j);rw[aOI,aOI,q5,aOI,c1];by_cases hij:i=j
   ·subst hij;simp
   ·have c2:(stw i==stw j)=false:=beq_eq_false_iff_ne.mpr fun z=>hij (aJn z)
    have c3:(i==j)=false:=beq_eq_false_iff_ne.mpr hij;rw[c2,c3];simp
end NF
namespace TL
open PySem L2
section
variable {τ:TSt}{C:Sto}{Q:T->Sto->Prop}{QL:List T->Sto->Prop}{QS:Fl->TSt->Sto->Prop}{a b c fo fk fv:FE}{fa:FN}{F:FS}
variable{cls:String}{ks:List (List Key)}{i j:Int}{G:List T->Sto->Option (T×Sto)}{td tk:T}{fb:FB}
theorem aIr{c:Nat}{ns:List Str}{ts:List T}(e:C[c]?=some (.o cls ns,ts)):oc cls C (.cell c)=some (c,ns,ts):=by
 show(C[c]?).bind _=_;rw[e,aU]
 exact if_pos rfl
theorem uP{c:Nat}{ks:List Key}{ts:List T}(e:C[c]?=some (.dk ks,ts)):dkc C (.cell c)=some (c,ks,ts):=by
 show(C[c]?).bind _=_;rw[e];rfl
theorem aIm{c:Nat}{ts:List T}(e:C[c]?=some (.dt ks,ts)):dtc C (.cell c)=some (c,ks,ts):=by
 show(C[c]?).bind _=_;rw[e];rfl
theorem aId{c:Nat}{ts:List T}(e:C[c]?=some (.dt ks,ts)\/C[c]?=some (.dz ks,ts)):dzc C (.cell c)=some (c,ks,ts):=by
 show(C[c]?).bind _=_;rcases e with e|e<;>(rw[e];rfl)
theorem aGT{c:Nat}{ts:List T}(e:C[c]?=some (.dt ks,ts)\/C[c]?=some (.dz ks,ts)):dkc C (.cell c)=none:=by
 show(C[c]?).bind _=_;rcases e with e|e<;>(rw[e];rfl)
def oG(cls:String)(f:Str)(C:Sto)(t:T):Option T:=(oc cls C t).bind fun x=>getN f x.2.1 x.2.2
theorem aBk{f:Str}:wpE (lL cls f a) τ C Q↔wpE a τ C fun t C1=>∃u,oG cls f C1 t=some u/\Q u C1:=by
 rw[aDr];unfold wpE;constructor
 ·rintro⟨t,C1,e,u,C2,e2,q⟩;unfold aFB at e2;obtain⟨x,e3,e2⟩:=aK.mp e2;obtain⟨y,e4,e2⟩:=aL.mp e2;cases e2
  exact⟨t,_,e,u,by unfold oG;rw[e3];exact e4,q⟩
 ·rintro⟨t,C1,e,u,e2,q⟩;unfold oG at e2;obtain⟨x,e3,e2⟩:=aK.mp e2
  exact⟨t,C1,e,u,C1,by unfold aFB;rw[e3,aU,e2];rfl,q⟩
theorem aI4{f:Str}{t:T}:wpO (aFB cls f t C) Q↔∃u,oG cls f C t=some u/\Q u C:=by
 unfold wpO aFB oG;constructor
 ·rintro⟨u,C2,e2,q⟩;obtain⟨x,e3,e2⟩:=aK.mp e2;obtain⟨y,e4,e2⟩:=aL.mp e2;cases e2
  exact⟨u,by rw[e3];exact e4,q⟩
 ·rintro⟨u,e2,q⟩;obtain⟨x,e3,e2⟩:=aK.mp e2
  exact⟨u,C,by rw[e3,aU,e2];rfl,q⟩
def aFS(cls:String)(f:Str)(x:T)(C:Sto)(t:T):Option Sto:=(oc cls C t).bind fun y=>if y.2.1.length<900 then some (C.set y.1 (.o cls (pn f y.2.1),pv f x y.2.1 y.2.2))else none
theorem mQ{f:Str}(h:wpE a τ C fun x C1=>wpE fo τ C1 fun t C2=>∃C3,aFS cls f x C2 t=some C3/\QS .nx τ C3):wpS (nN cls f fo a) τ C QS:=by
 obtain⟨x,C1,e1,t,C2,e2,C3,e3,q⟩:=h
 refine⟨.nx,τ,C3,?_,q⟩
 unfold nN;rw[e1,aU,e2,aU];unfold aFS at e3;obtain⟨y,e4,e3⟩:=aK.mp e3;rw[e4,aU];try dsimp only at e3|-
 split at e3
 ·rename_i h;cases e3;rw[if_pos h]
 ·cases e3
theorem w6{f:Str}{g:Int->Int->Int}(h:wpE fo τ C fun t C1=>oG cls f C1 t=some (.int i)/\wpE a τ C1 fun x C2=>x=.int j/\∃C3,aFS cls f (.int (g i j)) C2 t=some C3/\QS .nx τ C3):wpS (uX cls f g fo a) τ C QS:=by
 obtain⟨t,C1,e1,e2,x,C2,e3,rfl,C3,e4,q⟩:=h
 refine⟨.nx,τ,C3,?_,q⟩
 unfold uX;rw[e1,aU];unfold oG at e2;obtain⟨y,e5,e2⟩:=aK.mp e2;rw[e5,aU];try dsimp only at e2|-
 rw[e2,aU];try dsimp only
 rw[e3,aU];try dsimp only
 unfold aFS at e4;obtain⟨z,e6,e4⟩:=aK.mp e4;rw[e6,aU];try dsimp only at e4|-
 split at e4
 ·rename_i h;cases e4;rw[if_pos h]
 ·cases e4
theorem jI{n:Nat}:wpE (kZ n G fa) τ C Q↔wpA fa τ C fun ts C1=>ts.length=n/\wpO (G ts C1) Q:=by
 rw[gF];unfold wpA wpO pY;constructor
 ·rintro⟨ts,C1,e,t,C2,e2,q⟩;split at e2
  ·exact⟨ts,C1,e,‹_›,t,C2,e2,q⟩
  ·cases e2
 ·rintro⟨ts,C1,e,h,t,C2,e2,q⟩
  exact⟨ts,C1,e,t,C2,by rw[if_pos h];exact e2,q⟩
def noAt(cls:String)(m:Str)(C:Sto)(t:T):Prop:=∃x,oc cls C t=some x/\getN m x.2.1 x.2.2=none
theorem mJ{m:Str}{n:Nat}(h:wpE fo τ C fun t C1=>noAt cls m C1 t/\wpA fa τ C1 fun ts C2=>ts.length+1=n/\wpO (G (t::ts) C2) Q):wpE (lH cls m n G fo fa) τ C Q:=by
 obtain⟨t,C1,e1,⟨x,e2,e3⟩,ts,C2,e4,hl,r,C3,e5,q⟩:=h
 refine⟨r,C3,?_,q⟩
 unfold lH;rw[e1,aU];try dsimp only
 rw[e2,aU];try dsimp only
 rw[e3];try dsimp only
 rw[e4,aU];unfold pY;rw[if_pos (by simpa using hl)]
 exact e5
theorem wY{n:Nat}{dts:List T}(h:wpA fa τ C fun ts C1=>(ts++dts).length+1=n/\wpO (G (.cell C1.length::(ts++dts)) (C1++[(.o cls [],[])])) fun r C2=>r=.non/\Q (.cell C1.length) C2):wpE (uT cls n G dts fa) τ C Q:=by
 obtain⟨ts,C1,e1,hl,r,C2,e2,rfl,q⟩:=h
 refine⟨_,C2,?_,q⟩
 unfold uT;rw[e1,aU];try dsimp only
 unfold pY;rw[if_pos (by simpa using hl),e2];rfl
theorem i6{B:FS}{m:Nat}{ts:List T}(h:wpS B (st0 m ts) C fun l τ' C'=>match l with
 | .nx=>Q .non C'
 | .rt r=>Q r C'
 |_=>False):wpO (nA B m ts C) Q:=by
 obtain⟨l,τ',C',e,q⟩:=h;cases l with
 |nx=>exact⟨_,C',by unfold nA;rw[e],q⟩
 |rt r=>exact⟨_,C',by unfold nA;rw[e],q⟩
 |bk=>exact q.elim
 |ct=>exact q.elim
 |ex c=>exact q.elim
theorem aBQ{kd:Kd}:wpE (uV kd) τ C Q↔Q (.cell C.length) (C++[(kd,[])]):=by
 unfold wpE uV;constructor
 ·rintro⟨_,_,e,q⟩;cases e;exact q
 ·exact fun q=>⟨_,_,rfl,q⟩
theorem sJ:wpO (aEB td tk C) Q↔∃t,dval C td tk=some (some t)/\Q t C:=by
 unfold wpO aEB;constructor
 ·rintro⟨t,C',e,q⟩;split at e
  ·rename_i u hu;cases e;exact⟨_,hu,q⟩
  ·cases e
 ·rintro⟨t,e,q⟩
  exact⟨t,C,by rw[e],q⟩
theorem aAL{n:Bool}:wpO (wB n tk td C) Q↔∃o,dval C td tk=some o/\Q (.bl (o.isSome==n)) C:=by
 unfold wpO wB;constructor
 ·rintro⟨t,C',e,q⟩;obtain⟨o,e1,e⟩:=aL.mp e;cases e
  exact⟨o,e1,q⟩
 ·rintro⟨o,e,q⟩
  exact⟨_,C,by rw[e];rfl,q⟩
theorem aFu(h:wpE fo τ C fun td C1=>isDc C1 td=true/\wpE fk τ C1 fun tk C2=>wpE fv τ C2 fun tx C3=>∃o,dval C3 td tk=some o/\Q (o.getD tx) C3):wpE (t9 fo fk fv) τ C Q:=by
 obtain⟨td,C1,e1,hd,tk,C2,e2,tx,C3,e3,o,e4,q⟩:=h
 refine⟨_,C3,?_,q⟩
 unfold t9;rw[e1,aU];try dsimp only
 rw[if_pos hd,e2,aU];try dsimp only
 rw[e3,aU];try dsimp only
 rw[e4];rfl
theorem aCl(h:wpE fv τ C fun tv C1=>wpE fo τ C1 fun td C2=>wpE fk τ C2 fun tk C3=>∃C4,dput C3 td tk tv=some C4/\QS .nx τ C4):wpS (wD fo fk fv) τ C QS:=by
 obtain⟨tv,C1,e1,td,C2,e2,tk,C3,e3,C4,e4,q⟩:=h
 refine⟨.nx,τ,C4,?_,q⟩
 unfold wD;rw[e1,aU];try dsimp only
 rw[e2,aU];try dsimp only
 rw[e3,aU];try dsimp only
 rw[e4];rfl
theorem aHq{g:Int->Int->Int}(h:wpE fo τ C fun td C1=>wpE fk τ C1 fun tk C2=>dval C2 td tk=some (some (.int i))/\wpE fv τ C2 fun tv C3=>tv=.int j/\∃C4,dput C3 td tk (.int (g i j))=some C4/\QS .nx τ C4):wpS (zW g fo fk fv) τ C QS:=by
 obtain⟨td,C1,e1,tk,C2,e2,e3,tv,C3,e4,rfl,C4,e5,q⟩:=h
 refine⟨.nx,τ,C4,?_,q⟩
 unfold zW;rw[e1,aU];try dsimp only
 rw[e2,aU];try dsimp only
 rw[e3];try dsimp only
 rw[e4,aU];try dsimp only
 rw[e5];rfl
theorem aFr{k:Key}{x:T}(h:wpE fk τ (C++[(.dk [],[])]) fun tk C1=>kyT tk=some k/\wpE fv τ C1 fun tv C2=>tv=x/\C2[C.length]?=some (.dk [],[])/\Q (.cell C.length) (C2.set C.length (.dk [k],[x]))):wpE (t7 fk fv) τ C Q:=by
 obtain⟨tk,C1,e1,e2,tv,C2,e3,rfl,e4,q⟩:=h
 refine⟨_,_,?_,q⟩
 unfold t7;rw[e1,aU];try dsimp only
 rw[e3,aU];try dsimp only
 rw[e2,aU];have:=uP e4;rw[this]
theorem aIN{c1 c2:Nat}{ks ks':List Key}{ts ts':List T}(h:wpE fo τ C fun td C1=>td=.cell c1/\isDc C1 td=true/\wpE fv τ C1 fun te C2=>te=.cell c2/\C2[c1]?=some (.dk ks,ts)/\C2[c2]?=some (.dk ks',ts')/\c1≠c2/\ks.length+ks'.length<=lim/\
 Q .non (C2.set c1 (.dk (mrgK ks' ts' (ks,ts)).1,(mrgK ks' ts' (ks,ts)).2))):wpE (y6 fo fv) τ C Q:=by
 obtain⟨td,C1,e1,rfl,hd,te,C2,e2,rfl,e3,e4,hn,hl,q⟩:=h
 refine⟨_,_,?_,q⟩
 unfold y6;rw[e1,aU];try dsimp only
 rw[if_pos hd,e2,aU];try dsimp only
 have h1:=uP e3;have h2:=uP e4;rw[h1,h2,aU,aU];try dsimp only
 rw[if_pos ⟨hn,hl⟩]
theorem aJI:wpA (aFT a) τ C QL↔wpE a τ C fun t C1=>∃ts,liT C1 t=some ts/\QL (od ts) C1:=by
 unfold wpA wpE aFT;constructor
 ·rintro⟨us,C',e,q⟩;obtain⟨⟨t,C1⟩,e1,e⟩:=aK.mp e;obtain⟨ts,e2,e⟩:=aL.mp e;cases e
  exact⟨t,_,e1,ts,e2,q⟩
 ·rintro⟨t,C1,e1,ts,e2,q⟩
  exact⟨_,_,by rw[e1,aU,e2];rfl,q⟩
theorem aCm{g:FG}:wpS (yM a g F) τ C QS↔wpE a τ C fun t C1=>∃ts,liT C1 t=some ts/\wpS (kH (stays t ts) g F (tQ ts)) τ C1 QS:=by
 unfold wpS wpE yM;constructor
 ·rintro⟨l,τ',C',e,q⟩;obtain⟨⟨t,C1⟩,e1,e⟩:=aK.mp e;obtain⟨ts,e2,e⟩:=aK.mp e
  exact⟨t,C1,e1,ts,e2,l,τ',C',e,q⟩
 ·rintro⟨t,C1,e1,ts,e2,l,τ',C',e,q⟩
  exact⟨l,τ',C',by rw[e1,aU];try dsimp only;rw[e2,aU];exact e,q⟩
theorem aFM{k:Nat}{is:List Nat}{g:FG}{fe:FE}:wpA (uO a k is g fb fe) τ C QL↔wpE a τ C fun t C1=>∃ts,liT C1 t=some ts/\(tQ ts).length<lim/\wpC (jG g fb fe (scT k is τ) (tQ ts) C1) QL:=by
 unfold wpA wpE wpC uO;constructor
 ·rintro⟨us,C',e,q⟩;obtain⟨⟨t,C1⟩,e1,e⟩:=aK.mp e;obtain⟨ts,e2,e⟩:=aK.mp e;split at e
  ·exact⟨t,C1,e1,ts,e2,‹_›,us,C',e,q⟩
  ·cases e
 ·rintro⟨t,C1,e1,ts,e2,h,us,C',e,q⟩
  exact⟨us,C',by rw[e1,aU];try dsimp only;rw[e2,aU,if_pos h];exact e,q⟩
theorem xY{α:Type}{f:α->T}{xs:List α}:tQ (xs.map f)=(xs.zipIdx).map fun p=>.tup [.int p.2,f p.1]:=by
 unfold tQ;rw[List.zipIdx_map,cD];rfl
theorem aFN{k:Nat}{is:List Nat}{g:FG}{fe:FE}{c:Nat}{ts:List T}
 (h:wpE a τ C fun t C1=>t=.cell c/\C1[c]?=some (.dt ks,ts)/\ks.length=ts.length/\ks.length<lim/\wpC (jG g fb fe (scT k is τ) (ks.map aHY) (C1.set c (.dz ks,ts))) fun us C2=>C2=C1.set c (.dz ks,ts)/\QL us C1):wpA (uI a k is g fb fe) τ C QL:=by
 obtain⟨t,C1,e1,rfl,e2,hl,hlim,us,C2,e3,rfl,q⟩:=h;have hc:c<C1.length:=(aP.mp e2).1
 refine⟨us,C1,?_,q⟩
 unfold uI;rw[e1,aU];try dsimp only
 have h1:=aIm e2;rw[h1,aU];try dsimp only
 rw[if_pos ⟨hlim,hl⟩,e3,aU];try dsimp only
 rw[bO hc];try dsimp only
 rw[eE,<-(aP.mp e2).2,eO]
end
end TL
namespace TL
open PySem L2
variable{c:Nat}{cls:String}{ns:List Str}
noncomputable def pnm:List Str:=["tail","head","hours","room","back"]
noncomputable def nnm:List Str:=["pipes","places"]
theorem mM{C:Sto}{x:Cl}(h:c<C.length):(C.set c x)[c]?=some x:=bO h
theorem kD{C:Sto}{x:Cl}(h:C[c]?=some x):c<C.length:=(aP.mp h).1
theorem lS{f:Str}{x:T}{C:Sto}{ns':List Str}{ts ts':List T}(e:C[c]?=some (.o cls ns,ts))(h:ns.length<900)(h1:pn f ns=ns')(h2:pv f x ns ts=ts'):aFS cls f x C (.cell c)=some (C.set c (.o cls ns',ts')):=by
 unfold aFS;rw[aIr e,aU];dsimp only;rw[if_pos h,h1,h2]
theorem lD{f:Str}{C:Sto}{ts:List T}{u:T}(e:C[c]?=some (.o cls ns,ts))(h:getN f ns ts=some u):oG cls f C (.cell c)=some u:=by
 unfold oG;rw[aIr e];exact h
theorem nH{m:Str}{C:Sto}{ts:List T}(e:C[c]?=some (.o cls ns,ts))(h:getN m ns ts=none):noAt cls m C (.cell c):=⟨_,aIr e,h⟩
end TL
namespace Lib
open PySem L2 TL
variable{c:Nat}{h d r:T}{Q:T->Sto->Prop}
theorem aCD{C:Sto}{t:T}(e:C[c]?=some (.o "Pipe" [],[]))(q:Q .non (C.set c (.o "Pipe" pnm,[t,h,d,r,.non]))):wpO (lZ [.cell c,t,h,d,r] C) Q:=by
 have hc:=kD e
 refine i6 ?_
 unfold wX;walk_at "b"
 refine fN.mpr (mQ ?_)
 try simp_arith[if_true]
 refine⟨_,lS e (by decide) rfl rfl,?_⟩
 refine mQ ?_
 try simp_arith[if_true]
 refine⟨_,lS (mM hc) (by decide) rfl rfl,?_⟩
 rw[eE]
 refine mQ ?_
 try simp_arith[if_true]
 refine⟨_,lS (mM hc) (by decide) rfl rfl,?_⟩
 rw[eE]
 refine mQ ?_
 try simp_arith[if_true]
 refine⟨_,lS (mM hc) (by decide) rfl rfl,?_⟩
 rw[eE]
 refine mQ ?_
 try simp_arith[if_true]
 refine⟨_,lS (mM hc) (by decide) rfl rfl,?_⟩
 rw[eE]
 exact q
theorem qS{C:Sto}{t:T}(q:Q .non (C++[(.o "Pipe" pnm,[t,h,d,r,.non])])):wpO (lZ [.cell C.length,t,h,d,r] (C++[(.o "Pipe" [],[])])) Q:=by
 refine aCD (by simp) ?_
 rw[b8 _ _ (bI _),dB]
 exact q
theorem aMh{C:Sto}{d:Nat}{ps:List T}{pl:T}{t h x r:Int}(e1:C[c]?=some (.o "Net" nnm,[.cell d,pl]))(e2:C[d]?=some (.l,ps))(hl:ps.length<lim)
 (q:Q .non (C.set d (.l,ps++[.cell C.length])++[(.o "Pipe" pnm,[.int t,.int h,.int x,.int r,.cell (C.length+1)]),(.o "Pipe" pnm,[.int h,.int t,.int (-x),.int 0,.cell C.length])])):
 wpO (jP [.cell c,.int t,.int h,.int x,.int r] C) Q:=by
 have hc:=kD e1;have hd:=kD e2
 refine i6 ?_
 unfold zT;walk_at "b"
 refine fN.mpr (gB.mpr (wY ?_))
 try simp_arith[if_true]
 first|refine qS ⟨rfl,?_⟩|refine⟨rfl,qS ⟨rfl,?_⟩⟩
 try simp_arith[if_true]
 refine wY ?_
 try simp_arith[if_true]
 first|refine qS ⟨rfl,?_⟩|refine⟨rfl,qS ⟨rfl,?_⟩⟩
 try simp_arith[if_true]
 have l1:(C++[(Kd.o "Pipe" pnm,[T.int t,T.int h,T.int x,T.int r,T.non])]).length=C.length+1:=by simp
 rw[l1];have f1:(C++[(Kd.o "Pipe" pnm,[T.int t,T.int h,T.int x,T.int r,T.non])]++[(Kd.o "Pipe" pnm,[T.int h,T.int t,T.int (-x),T.int 0,T.non])])[C.length]?=some (Kd.o "Pipe" pnm,[T.int t,T.int h,T.int x,T.int r,T.non]):=by simp
 refine mQ ?_
 try simp_arith[if_true]
 refine⟨_,lS f1 (by decide) rfl rfl,?_⟩
 have f2:((C++[(Kd.o "Pipe" pnm,[T.int t,T.int h,T.int x,T.int r,T.non])]++[(Kd.o "Pipe" pnm,[T.int h,T.int t,T.int (-x),T.int 0,T.non])]).set C.length (Kd.o "Pipe" pnm,[T.int t,T.int h,T.int x,T.int r,T.cell (C.length+1)]))=C++[(Kd.o "Pipe" pnm,[T.int t,T.int h,T.int x,T.int r,T.cell (C.length+1)]),(Kd.o "Pipe" pnm,[T.int h,T.int t,T.int (-x),T.int 0,T.non])]:=by
  rw[cJ,b8 _ _ (bI _),dB];rfl
 rw[show(pv ("back":Str) (T.cell (C.length+1)) pnm [T.int t,T.int h,T.int x,T.int r,T.non])=[T.int t,T.int h,T.int x,T.int r,T.cell (C.length+1)]from rfl,show pn ("back":Str) pnm=pnm from rfl,f2];try simp_arith[if_true]
 refine mQ ?_
 try simp_arith[if_true]
 have f3:(C++[(Kd.o "Pipe" pnm,[T.int t,T.int h,T.int x,T.int r,T.cell (C.length+1)]),(Kd.o "Pipe" pnm,[T.int h,T.int t,T.int (-x),T.int 0,T.non])])[C.length+1]?=some (Kd.o "Pipe" pnm,[T.int h,T.int t,T.int (-x),T.int 0,T.non]):=by
  rw[bH (by lia)];simp
 refine⟨_,lS f3 (by decide) rfl rfl,?_⟩
 have f4:((C++[(Kd.o "Pipe" pnm,[T.int t,T.int h,T.int x,T.int r,T.cell (C.length+1)]),(Kd.o "Pipe" pnm,[T.int h,T.int t,T.int (-x),T.int 0,T.non])]).set (C.length+1) (Kd.o "Pipe" pnm,[T.int h,T.int t,T.int (-x),T.int 0,T.cell C.length]))=C++[(Kd.o "Pipe" pnm,[T.int t,T.int h,T.int x,T.int r,T.cell (C.length+1)]),(Kd.o "Pipe" pnm,[T.int h,T.int t,T.int (-x),T.int 0,T.cell C.length])]:=by
  rw[b8 _ _ (by lia),show C.length+1 - C.length=1 by lia];rfl
 rw[show(pv ("back":Str) (T.cell C.length) pnm [T.int h,T.int t,T.int (-x),T.int 0,T.non])=[T.int h,T.int t,T.int (-x),T.int 0,T.cell C.length]from rfl,show pn ("back":Str) pnm=pnm from rfl,f4];simp only[aI4];have g1:(C++[(Kd.o "Pipe" pnm,[T.int t,T.int h,T.int x,T.int r,T.cell (C.length+1)]),(Kd.o "Pipe" pnm,[T.int h,T.int t,T.int (-x),T.int 0,T.cell C.length])])[c]?=some (.o "Net" nnm,[.cell d,pl]):=by rw[aY hc];exact e1
 have g2:lc (C++[(Kd.o "Pipe" pnm,[T.int t,T.int h,T.int x,T.int r,T.cell (C.length+1)]),(Kd.o "Pipe" pnm,[T.int h,T.int t,T.int (-x),T.int 0,T.cell C.length])]) d=some ps:=by rw[gL,aY hd];exact e2
 refine⟨_,lD g1 rfl,d,rfl,by rw[g2];rfl,ps,g2,hl,?_⟩
 rw[aPm _ _ hd]
 exact q
end Lib
namespace Lib
open PySem L2 TL NF
variable{c:Nat}{nd:List (List Int)}
noncomputable def pc(c:Nat)(o:Nat×Bool):Nat:=c+2+2*o.1+if o.2 then 0 else 1
theorem aNB{k:Nat}:pc c (k,true)=c+2+2*k:=rfl
theorem aMu{k:Nat}:pc c (k,false)=c+2+2*k+1:=rfl
def pcell(N:Nt)(f:Nat->Int)(c:Nat)(o:Nat×Bool):Cl:=(.o "Pipe" pnm,[.int (rt N o),.int (rh N o),.int (rd N o),.int (rr N f o),.cell (pc c (o.1,!o.2))])
structure Pre(N:Nt)(k:Nat)(C0:Sto)(pl:Int)(C:Sto):Prop where
 pre:∀i,i<C0.length->C[i]?=C0[i]?
 len:C.length=C0.length+2+2*k
 net:C[C0.length]?=some (.o "Net" nnm,[.cell (C0.length+1),.int pl])
 lst:C[C0.length+1]?=some (.l,(bK k).map fun j=>.cell (pc C0.length (j,true)))
 pip:∀o:Nat×Bool,o.1<k->C[pc C0.length o]?=some (pcell N (fun _=>0) C0.length o)
theorem Pre.lay{N:Nt}{k:Nat}{C0 C:Sto}{pl:Int}(P:Pre N k C0 pl C)(hk:k<90000){t h d r:Int}(ht:t=N.t k)(hh:h=N.h k)(hd:d=N.d k)(hr:r=N.c k){Q:T->Sto->Prop}(q:∀C',Pre N (k+1) C0 pl C'->Q .non C'):
 wpO (jP [.cell C0.length,.int t,.int h,.int d,.int r] C) Q:=by
 subst ht hh hd hr
 refine aMh P.net P.lst (by simp[lim];lia) (q _ ?_)
 have hl:=P.len;have hl1:C0.length+1<C.length:=by lia
 have old:∀i,i<C.length->i≠C0.length+1->(C.set (C0.length+1) (Kd.l,(bK k).map (fun j=>T.cell (pc C0.length (j,true)))++[T.cell C.length])++
  [(Kd.o "Pipe" pnm,[T.int (N.t k),T.int (N.h k),T.int (N.d k),T.int (N.c k),T.cell (C.length+1)]),(Kd.o "Pipe" pnm,[T.int (N.h k),T.int (N.t k),T.int (-N.d k),T.int 0,T.cell C.length])])[i]?=C[i]?:=fun i hi hn=>by
  rw[aY (by simpa using hi),aS (Ne.symm hn)]
 refine⟨fun i hi=>?_,by simp;lia,?_,?_,fun o ho=>?_⟩
 ·rw[old i (by lia) (by lia)];exact P.pre i hi
 ·rw[old _ (by lia) (by lia)];exact P.net
 ·rw[aY (by simpa using hl1),bO hl1,aPP,bS,hl];rfl
 ·by_cases hok:o.1<k
  ·rw[old _ (by unfold pc;split<;>lia) (by unfold pc;lia)]
   exact P.pip o hok
  ·have:o.1=k:=by lia
   obtain⟨j,b⟩:=o;cases this;cases b with
   |true=>
    rw[aNB,bH (by simp;lia)];simp only[cL,hl,dB,b5];unfold pcell rt rh rd rr;simp[aMu]
   |false=>
    rw[aMu,bH (by simp;lia)];simp only[cL,hl];rw[show C0.length+2+2*j+1 - (C0.length+2+2*j)=1 by lia];unfold pcell rt rh rd rr;simp[aNB]
noncomputable def fZ(ws:List (Int×Int×Int)):Wk:=⟨fun i=>((ws[i]?).getD (0,0,0)).1,fun i=>((ws[i]?).getD (0,0,0)).2.1,fun i=>((ws[i]?).getD (0,0,0)).2.2⟩
noncomputable def jO:Nat->List (List Int)->List (Nat×Nat)
 |_,[]=>[]
 |s,l::r=>(l.map fun a=>(a.toNat,s))++jO (s+1) r
theorem aAZ:∀{nd:List (List Int)}{s b j:Nat}{l:List Int}{a:Int},nd[b]?=some l->l[j]?=some a->(jO s nd)[(jO s (nd.take b)).length+j]?=some (a.toNat,s+b)
 | [],s,b,j,l,a,h,_=>by simp at h
 |x::nd,s,0,j,l,a,h,h2=>by
  simp at h;subst h;show((x.map fun a=>(a.toNat,s))++jO (s+1) nd)[0+j]?=_;rw[dU,aY (by simpa using(aP.mp h2).1),bJ,h2];rfl
 |x::nd,s,b+1,j,l,a,h,h2=>by
  have ih:=aAZ (s:=s+1) (b:=b) (nd:=nd) (by simpa using h) h2;show((x.map fun a=>(a.toNat,s))++jO (s+1) nd)[((x.map fun a=>(a.toNat,s))++jO (s+1) (nd.take b)).length+j]?=_;rw[bC,aO2,bH (by lia),Nat.add_sub_cancel_left,ih];congr 2;lia
theorem aFg:∀{s b:Nat}{l:List Int},nd[b]?=some l->(jO s (nd.take (b+1))).length=(jO s (nd.take b)).length+l.length:=by
 induction nd with
 |nil=>intro s b l h;simp at h
 |cons x nd ih=>
  intro s b l h;cases b with
  |zero=>simp at h;subst h;simp[jO]
  |succ b=>
   have:=ih (s:=s+1) (b:=b) (by simpa using h);simp only[aPs,jO,bC,aR]at this|-
   lia
theorem aB8{z:Nat}(h:∀l∈nd,l.length<=z):∀{s:Nat},(jO s nd).length<=nd.length*z:=by
 induction nd with
 |nil=>intro s;simp[jO]
 |cons x nd ih=>
  intro s;have h1:=h x bF;have h2:=ih (fun l hl=>h l (aZ _ hl)) (s:=s+1);simp only[jO,bC,aR,aN,Nat.add_mul,Nat.one_mul]
  lia
theorem aHk{e:Nat×Nat}:∀{s:Nat},e∈jO s nd->∃b l a,nd[b]?=some l/\a∈l/\e=(a.toNat,s+b):=by
 induction nd with
 |nil=>intro s h;simp[jO]at h
 |cons x nd ih=>
  intro s h;rcases bM.mp (show e∈(x.map fun a=>(a.toNat,s))++jO (s+1) nd from h)with h|h
  ·obtain⟨a,ha,rfl⟩:=bL.mp h
   exact⟨0,x,a,rfl,ha,rfl⟩
  ·obtain⟨b,l,a,h1,h2,h3⟩:=ih h
   exact⟨b+1,l,a,by simpa using h1,h2,by rw[h3];congr 1;lia⟩
theorem aKG{b:Nat}{l:List Int}{a:Int}(h:nd[b]?=some l)(ha:a∈l):(a.toNat,b)∈jO 0 nd:=by
 obtain⟨j,hj⟩:=bN.mp ha;have:=aAZ (s:=0) h hj;rw[dU]at this
 exact bB this
end Lib
namespace Lib
open PySem L2 TL NF
variable{i:Nat}{w:Wk}{es:List (Nat×Nat)}{P:Int}
theorem w5:iF [.int i]=some (.int (2*i+2)):=by
 apply iV;unfold rA;walk_at "b";simp_arith[if_true]
 refine⟨gS (by lia) (by lia),?_⟩
 rfl
theorem zL:iP [.int i]=some (.int (2*i+3)):=by
 apply iV;unfold r9;walk_at "b";simp_arith[if_true]
 refine⟨gS (by lia) (by lia),?_⟩
 rfl
theorem aDL:qW [.int (2*i+2)]=some (.int i):=by
 apply iV;unfold aAi;walk_at "b";simp_arith[if_true]
 refine⟨by decide,?_⟩
 show some (T.int ((2*(i:Int)+2)/2 - 1))=_;congr 2;lia
theorem aJR{n:Nat}(hi:i<n):(net w n es P).t (4*i)=0/\(net w n es P).h (4*i)=2*i+2/\(net w n es P).d (4*i)=0/\(net w n es P).c (4*i)=P:=by
 have h4:4*i<4*n:=by lia
 have hm:4*i%4=0:=by lia
 have hd:4*i/4=i:=by lia
 refine⟨?_,?_,?_,?_⟩<;>simp[net,h4,hm,hd]
theorem aKe{n:Nat}(hi:i<n):(net w n es P).t (4*i+1)=2*i+2/\(net w n es P).h (4*i+1)=2*i+3/\(net w n es P).d (4*i+1)=w.u i/\(net w n es P).c (4*i+1)=w.p i:=by
 have h4:4*i+1<4*n:=by lia
 have hm:(4*i+1)%4=1:=by lia
 have hd:(4*i+1)/4=i:=by lia
 refine⟨?_,?_,?_,?_⟩<;>simp[net,h4,hm,hd]
theorem aJ8{n:Nat}(hi:i<n):(net w n es P).t (4*i+2)=2*i+2/\(net w n es P).h (4*i+2)=2*i+3/\(net w n es P).d (4*i+2)=w.l i/\(net w n es P).c (4*i+2)=P:=by
 have h4:4*i+2<4*n:=by lia
 have hm:(4*i+2)%4=2:=by lia
 have hd:(4*i+2)/4=i:=by lia
 refine⟨?_,?_,?_,?_⟩<;>simp[net,h4,hm,hd]
theorem aKT{n:Nat}(hi:i<n):(net w n es P).t (4*i+3)=2*i+3/\(net w n es P).h (4*i+3)=1/\(net w n es P).d (4*i+3)=0/\(net w n es P).c (4*i+3)=P:=by
 have h4:4*i+3<4*n:=by lia
 have hm:(4*i+3)%4=3:=by lia
 have hd:(4*i+3)/4=i:=by lia
 refine⟨?_,?_,?_,?_⟩<;>simp[net,h4,hm,hd]
theorem aJS{n:Nat}{j a b:Nat}(hj:es[j]?=some (a,b)):(net w n es P).t (4*n+j)=2*a+3/\(net w n es P).h (4*n+j)=2*b+2/\(net w n es P).d (4*n+j)=0/\(net w n es P).c (4*n+j)=P:=by
 have h4:¬4*n+j<4*n:=by lia
 have hs:4*n+j - 4*n=j:=by lia
 refine⟨?_,?_,?_,?_⟩<;>simp[net,h4,hs,hj]
noncomputable def plenty(ws:List (Int×Int×Int))(bonus:Int):Int:=(ws.map (·.2.2)).sum+bonus+1
def iZ(ws:List (Int×Int×Int))(nd:List (List Int))(bonus:Int):Nt:=net (fZ ws) ws.length (jO 0 nd) (plenty ws bonus)
theorem aHe{C:Sto}{c:Nat}{t h d r:Int}{τ:TSt}{QS:TL.Fl->TSt->Sto->Prop}{ft fh fd fr:FE}{pl:T}{e:Nat}(h0:τ[0]?=some (some (.cell c)))(h1:C[c]?=some (.o "Net" nnm,[.cell e,pl]))
 (ht:ft τ C=some (.int t,C))(hh:fh τ C=some (.int h,C))(hd:fd τ C=some (.int d,C))(hr:fr τ C=some (.int r,C))(q:wpO (jP [.cell c,.int t,.int h,.int d,.int r] C) fun _ C'=>QS .nx τ C'):
 wpS (m6 (lH "Net" "lay" 5 jP (fA 0) (fB ft (fB fh (fB fd (fB fr fJ)))))) τ C QS:=by
 refine pR.mpr (mJ ?_)
 refine fD.mpr ⟨_,h0,nH h1 rfl,?_⟩
 refine fG.mpr ⟨_,_,ht,fG.mpr ⟨_,_,hh,fG.mpr ⟨_,_,hd,fG.mpr ⟨_,_,hr,fM.mpr ⟨rfl,q⟩⟩⟩⟩⟩
theorem m8{τ:TSt}{C:Sto}{k:Nat}(h:τ[k]?=some (some (.int i))):f8 1 iF (fB (fA k) fJ) τ C=some (.int (2*i+2),C):=by
 have:wpE (f8 1 iF (fB (fA k) fJ)) τ C fun t C'=>t=.int (2*i+2)/\C'=C:=by
  refine gF.mpr (fG.mpr (fD.mpr ⟨_,h,fM.mpr ?_⟩))
  exact(gA w5 rfl rfl).mpr ⟨rfl,rfl⟩
 obtain⟨t,C',e,rfl,rfl⟩:=this
 exact e
theorem n5{τ:TSt}{C:Sto}{k:Nat}(h:τ[k]?=some (some (.int i))):f8 1 iP (fB (fA k) fJ) τ C=some (.int (2*i+3),C):=by
 have:wpE (f8 1 iP (fB (fA k) fJ)) τ C fun t C'=>t=.int (2*i+3)/\C'=C:=by
  refine gF.mpr (fG.mpr (fD.mpr ⟨_,h,fM.mpr ?_⟩))
  exact(gA zL rfl rfl).mpr ⟨rfl,rfl⟩
 obtain⟨t,C',e,rfl,rfl⟩:=this
 exact e
theorem y3{τ:TSt}{C:Sto}{k:Nat}{t:T}(h:τ[k]?=some (some t)):fA k τ C=some (t,C):=by unfold fA;rw[h]
theorem aEx{τ:TSt}{C:Sto}{k:Nat}{w:Int×Int×Int}(h:τ[k]?=some (some (w3 w))):fIx (fA k) (fC (.int 0)) τ C=some (.int w.1,C)/\fIx (fA k) (fC (.int 1)) τ C=some (.int w.2.1,C)/\fIx (fA k) (fC (.int 2)) τ C=some (.int w.2.2,C):=by
 refine⟨?_,?_,?_⟩<;>(show(fA k τ C).bind _=_;rw[y3 h];rfl)
end Lib
namespace Lib
open PySem L2 TL NF
variable{C0:Sto}{pl bonus:Int}{QS:TL.Fl->TSt->Sto->Prop}{ws:List (Int×Int×Int)}{nd:List (List Int)}
theorem Pre.step{N:Nt}{k:Nat}{C:Sto}(P:Pre N k C0 pl C)(hk:k<90000){t h d r:Int}{τ:TSt}{ft fh fd fr:FE}(h0:τ[0]?=some (some (.cell C0.length)))
 (ht:ft τ C=some (.int t,C))(hh:fh τ C=some (.int h,C))(hd:fd τ C=some (.int d,C))(hr:fr τ C=some (.int r,C))(e:t=N.t k/\h=N.h k/\d=N.d k/\r=N.c k)(q:∀C',Pre N (k+1) C0 pl C'->QS .nx τ C'):
 wpS (m6 (lH "Net" "lay" 5 jP (fA 0) (fB ft (fB fh (fB fd (fB fr fJ)))))) τ C QS:=
 aHe h0 P.net ht hh hd hr (P.lay hk e.1 e.2.1 e.2.2.1 e.2.2.2 fun C' h=>q C' h)
theorem aGS{C:Sto}{i:Nat}{w:Int×Int×Int}{τ:TSt}(hw:ws[i]?=some w)(hl:ws.length<=8)(P:Pre (iZ ws nd bonus) (4*i) C0 pl C)
 (h0:τ[0]?=some (some (.cell C0.length)))(h4:τ[4]?=some (some (.int (plenty ws bonus))))(h5:τ[5]?=some (some (.int i)))(h6:τ[6]?=some (some (w3 w)))(q:∀C',Pre (iZ ws nd bonus) (4*(i+1)) C0 pl C'->QS .nx τ C'):wpS nE τ C QS:=by
 have hi:i<ws.length:=(aP.mp hw).1;have eu:(fZ ws).u i=w.1:=by simp[fZ,hw]
 have el:(fZ ws).l i=w.2.1:=by simp[fZ,hw]
 have ep:(fZ ws).p i=w.2.2:=by simp[fZ,hw]
 unfold nE;obtain⟨a1,a2,a3,a4⟩:=aJR (w:=fZ ws) (es:=jO 0 nd) (P:=plenty ws bonus) hi
 refine fN.mpr (P.step (t:=0) (h:=2*i+2) (d:=0) (r:=plenty ws bonus) (by lia) h0 rfl (m8 h5) rfl (y3 h4) ⟨by rw[show(iZ ws nd bonus).t (4*i)=0 from a1];rfl,by rw[show(iZ ws nd bonus).h (4*i)=_ from a2];simp,by rw[show(iZ ws nd bonus).d (4*i)=_ from a3],by rw[show(iZ ws nd bonus).c (4*i)=_ from a4]⟩ fun C1 P1=>?_)
 obtain⟨a1,a2,a3,a4⟩:=aKe (w:=fZ ws) (es:=jO 0 nd) (P:=plenty ws bonus) hi
 refine f7.mpr (fN.mpr (P1.step (t:=2*i+2) (h:=2*i+3) (d:=w.1) (r:=w.2.2) (by lia) h0 (m8 h5) (n5 h5) (aEx h6).1 (aEx h6).2.2 ⟨by rw[show(iZ ws nd bonus).t (4*i+1)=_ from a1];simp,by rw[show(iZ ws nd bonus).h (4*i+1)=_ from a2];simp,by rw[show(iZ ws nd bonus).d (4*i+1)=_ from a3,eu],by rw[show(iZ ws nd bonus).c (4*i+1)=_ from a4,ep]⟩ fun C2 P2=>?_))
 obtain⟨a1,a2,a3,a4⟩:=aJ8 (w:=fZ ws) (es:=jO 0 nd) (P:=plenty ws bonus) hi
 refine f7.mpr (fN.mpr (P2.step (t:=2*i+2) (h:=2*i+3) (d:=w.2.1) (r:=plenty ws bonus) (by lia) h0 (m8 h5) (n5 h5) (aEx h6).2.1 (y3 h4) ⟨by rw[show(iZ ws nd bonus).t (4*i+1+1)=_ from a1];simp,by rw[show(iZ ws nd bonus).h (4*i+1+1)=_ from a2];simp,by rw[show(iZ ws nd bonus).d (4*i+1+1)=_ from a3,el],by rw[show(iZ ws nd bonus).c (4*i+1+1)=_ from a4]⟩ fun C3 P3=>?_))
 obtain⟨a1,a2,a3,a4⟩:=aKT (w:=fZ ws) (es:=jO 0 nd) (P:=plenty ws bonus) hi
 refine f7.mpr (P3.step (t:=2*i+3) (h:=1) (d:=0) (r:=plenty ws bonus) (by lia) h0 (n5 h5) rfl rfl (y3 h4) ⟨by rw[show(iZ ws nd bonus).t (4*i+1+1+1)=_ from a1];simp,by rw[show(iZ ws nd bonus).h (4*i+1+1+1)=_ from a2];rfl,by rw[show(iZ ws nd bonus).d (4*i+1+1+1)=_ from a3],by rw[show(iZ ws nd bonus).c (4*i+1+1+1)=_ from a4]⟩ fun C4 P4=>q C4 ?_)
 rw[show 4*(i+1)=4*i+1+1+1+1 by lia];exact P4
theorem aFo{C:Sto}{b:Nat}{l:List Int}{τ:TSt}(hb:nd[b]?=some l)(hnn:∀a∈l,0<=a)(hsz:4*ws.length+(jO 0 nd).length<90000)(P:Pre (iZ ws nd bonus) (4*ws.length+(jO 0 (nd.take b)).length) C0 pl C)
 (hτ:τ.length=10)(h0:τ[0]?=some (some (.cell C0.length)))(h4:τ[4]?=some (some (.int (plenty ws bonus))))(h7:τ[7]?=some (some (.int b)))(h8:τ[8]?=some (some (iT l)))
 (q:∀τ' C',(∀i,i<7->τ'[i]?=τ[i]?)->τ'.length=10->Pre (iZ ws nd bonus) (4*ws.length+(jO 0 (nd.take (b+1))).length) C0 pl C'->QS .nx τ' C'):wpS nS τ C QS:=by
 unfold nS
 refine nF.mpr (fD.mpr ⟨_,h8,l.map T.int,rfl,?_⟩)
 refine jW (en:=T.int) (xs:=l) (fun j τ' C'=>(∀i,i<9->τ'[i]?=τ[i]?)/\τ'.length=10/\Pre (iZ ws nd bonus) (4*ws.length+(jO 0 (nd.take b)).length+j) C0 pl C') ⟨fun _ _=>rfl,hτ,P⟩ ?_ ?_
 ·rintro j a τ' C' hj ⟨e1,e2,P'⟩;have he:=aAZ (s:=0) hb hj;rw[dU]at he;have hlt:(jO 0 (nd.take b)).length+j<(jO 0 nd).length:=(aP.mp he).1;have ha:0<=a:=hnn a (bB hj);obtain⟨a1,a2,a3,a4⟩:=aJS (w:=fZ ws) (n:=ws.length) (P:=plenty ws bonus) he
  refine gD.mpr ?_
  have g0:(τ'.set 9 (some (T.int a)))[0]?=some (some (.cell C0.length)):=by rw[aS (by decide),e1 0 (by decide)];exact h0
  have g4:(τ'.set 9 (some (T.int a)))[4]?=some (some (.int (plenty ws bonus))):=by rw[aS (by decide),e1 4 (by decide)];exact h4
  have g7:(τ'.set 9 (some (T.int a)))[7]?=some (some (.int b)):=by rw[aS (by decide),e1 7 (by decide)];exact h7
  have g9:(τ'.set 9 (some (T.int a)))[9]?=some (some (.int (a.toNat:Int))):=by rw[bO (by rw[e2];decide),b4 ha]
  unfold u8
  refine P'.step (t:=2*a.toNat+3) (h:=2*b+2) (d:=0) (r:=plenty ws bonus) (by lia) g0 (n5 g9) (m8 g7) rfl (y3 g4) ?_ fun C2 P2=>⟨trivial,fun i hi=>?_,by simpa using e2,by rw[aO2]at P2;exact P2⟩
  ·rw[aO2]
   exact⟨by rw[show(iZ ws nd bonus).t _=_ from a1];simp,by rw[show(iZ ws nd bonus).h _=_ from a2];simp,by rw[show(iZ ws nd bonus).d _=_ from a3],by rw[show(iZ ws nd bonus).c _=_ from a4]⟩
  ·rw[aS (by lia)];exact e1 i hi
 ·rintro τ' C' ⟨e1,e2,P'⟩
  refine q τ' C' (fun i hi=>e1 i (by lia)) e2 ?_
  rw[aFg hb,<-aO2];exact P'
end Lib
namespace Lib
open PySem L2 TL NF
theorem aDG{ws:List (Int×Int×Int)}{ps:List (Int×Int)}{nd:List (List Int)}{bonus:Int}{C0:Sto}(hl:ws.length<=8)(hp:ps.length<=1000)(hw:InW ws.length ps)(hN:gY [.int ws.length,.lst (ps.map pT)]=some (.lst (nd.map iT)))(hnd:Nd ps ws.length nd){Q:T->Sto->Prop}
 (q:∀C',Pre (iZ ws nd bonus) (iZ ws nd bonus).m C0 (2*ws.length+2) C'->Q .non C'):wpO (oI [.cell C0.length,.lst (ws.map w3),.lst (ps.map pT),.int bonus] (C0++[(.o "Net" [],[])])) Q:=by
 have hsz:4*ws.length+(jO 0 nd).length<90000:=by
  have:=aB8 (nd:=nd) (z:=1000) (fun l hl=>?_) (s:=0)
  ·rw[hnd.1]at this;have h2:ws.length*1000<=8*1000:=aPo _ hl
   lia
  ·obtain⟨b,hb⟩:=bN.mp hl
   exact cC (hnd.2 b l hb).1 hp
 refine i6 ?_
 unfold aAz;walk_at "b"
 refine fN.mpr (mQ ?_)
 try simp_arith[if_true]
 refine⟨by decide,?_⟩
 have f1:(C0++[(Kd.o "Net" [],[])]++[(Kd.l,[])])[C0.length]?=some (Kd.o "Net" [],[]):=by simp
 refine⟨_,lS f1 (by decide) rfl rfl,?_⟩
 have f2:(C0++[(Kd.o "Net" [],[])]++[(Kd.l,[])]).set C0.length (Kd.o "Net" ["pipes"],[T.cell (C0.length+1)])=C0++[(Kd.o "Net" ["pipes"],[T.cell (C0.length+1)]),(Kd.l,[])]:=by
  rw[cJ,b8 _ _ (bI _),dB];rfl
 have f0:(C0++[(Kd.o "Net" [],([]:List T))]).length=C0.length+1:=by simp
 rw[f0];rw[show pn ("pipes":Str) []=[("pipes":Str)]from rfl,show TL.pv ("pipes":Str) (T.cell (C0.length+1)) [] []=[T.cell (C0.length+1)]from rfl,f2]
 refine mQ ?_
 try simp_arith[if_true]
 refine⟨gS (by lia) (by lia),?_⟩
 have f3:(C0++[(Kd.o "Net" ["pipes"],[T.cell (C0.length+1)]),(Kd.l,[])])[C0.length]?=some (Kd.o "Net" ["pipes"],[T.cell (C0.length+1)]):=by simp
 refine⟨_,lS f3 (by decide) rfl rfl,?_⟩
 have f4:∀x:T,(C0++[(Kd.o "Net" ["pipes"],[T.cell (C0.length+1)]),(Kd.l,[])]).set C0.length (Kd.o "Net" (pn ("places":Str) ["pipes"]),TL.pv ("places":Str) x ["pipes"] [T.cell (C0.length+1)])=C0++[(Kd.o "Net" nnm,[T.cell (C0.length+1),x]),(Kd.l,[])]:=fun x=>by
  rw[b8 _ _ (bI _),dB];rfl
 rw[f4];try simp_arith[if_true]
 rw[aR]
 refine⟨by simp[lim];lia,?_⟩
 refine iB (xs:=ws) (en:=w3) (fun w=>T.int w.2.2) (fun w _=>?_) ?_
 ·try simp_arith[if_true]
  exact⟨_,rfl,_,rfl,_,rfl,rfl⟩
 refine⟨_,oJ (f:=fun w:Int×Int×Int=>w.2.2),?_⟩
 have P0:Pre (iZ ws nd bonus) (4*0) C0 (2*ws.length+2) (C0++[(Kd.o "Net" nnm,[T.cell (C0.length+1),T.int (2*ws.length+2)]),(Kd.l,[])]):=by
  refine⟨fun i hi=>aY hi,by simp,by simp,?_,fun o ho=>by lia⟩
  rw[bH (by lia),show C0.length+1 - C0.length=1 by lia];rfl
 refine aCm.mpr ?_
 try simp_arith[if_true]
 rw[xY]
 refine jW (xs:=ws.zipIdx) (fun i τ C=>τ.length=10/\τ[0]?=some (some (.cell C0.length))/\τ[1]?=some (some (.lst (ws.map w3)))/\τ[2]?=some (some (.lst (ps.map pT)))/\τ[4]?=some (some (.int (plenty ws bonus)))/\Pre (iZ ws nd bonus) (4*i) C0 (2*ws.length+2) C) ⟨rfl,rfl,rfl,rfl,rfl,P0⟩ ?_ ?_
 ·rintro i ⟨w,k⟩ τ C hi ⟨t1,t2,t3,t4,t5,P⟩;rw[dS]at hi;obtain⟨w',hw',e⟩:=aL.mp hi;cases e;rw[dU]
  refine xE.mpr ⟨_,rfl,rfl,?_⟩
  show wpS nE ((τ.set 5 (some (T.int i))).set 6 (some (w3 w))) C _
  refine aGS hw' hl P ?_ ?_ ?_ ?_ fun C' P'=>⟨?_,?_,?_,?_,?_,?_,P'⟩
  ·rw[aS (by decide),aS (by decide)];exact t2
  ·rw[aS (by decide),aS (by decide)];exact t5
  ·rw[aS (by decide),bO (by rw[t1];decide)]
  ·rw[bO (by rw[cL,t1];decide)]
  ·trivial
  ·simpa using t1
  ·rw[aS (by decide),aS (by decide)];exact t2
  ·rw[aS (by decide),aS (by decide)];exact t3
  ·rw[aS (by decide),aS (by decide)];exact t4
  ·rw[aS (by decide),aS (by decide)];exact t5
 ·rintro τ C ⟨t1,t2,t3,t4,t5,P⟩;rw[aPz]at P
  refine f7.mpr (aCm.mpr ?_)
  refine gF.mpr (fG.mpr ?_)
  refine gF.mpr (fG.mpr (fD.mpr ⟨_,t3,fM.mpr ?_⟩))
  refine lT.mpr ⟨_,rfl,fG.mpr (fD.mpr ⟨_,t4,fM.mpr ?_⟩)⟩
  rw[aR]
  refine(gA hN rfl (by walk_at "c";rw[kS];rfl)).mpr ⟨_,rfl,?_⟩
  rw[xY]
  refine jW (xs:=nd.zipIdx) (fun b τ C=>τ.length=10/\τ[0]?=some (some (.cell C0.length))/\τ[4]?=some (some (.int (plenty ws bonus)))/\Pre (iZ ws nd bonus) (4*ws.length+(jO 0 (nd.take b)).length) C0 (2*ws.length+2) C) ⟨t1,t2,t5,P⟩ ?_ ?_
  ·rintro b ⟨l,k⟩ τ C hi ⟨t1,t2,t5,P⟩;rw[dS]at hi;obtain⟨l',hl',e⟩:=aL.mp hi;cases e;rw[dU]
   refine xE.mpr ⟨_,rfl,rfl,?_⟩
   show wpS nS ((τ.set 7 (some (T.int b))).set 8 (some (iT l))) C _
   refine aFo hl' (fun a ha=>?_) hsz P (by simpa using t1) ?_ ?_ ?_ ?_ fun τ' C' e1 e2 P'=>⟨trivial,e2,?_,?_,P'⟩
   ·exact(hw _ (((hnd.2 b l hl').2 a).mp ha)).1.1
   ·rw[aS (by decide),aS (by decide)];exact t2
   ·rw[aS (by decide),aS (by decide)];exact t5
   ·rw[aS (by decide),bO (by rw[t1];decide)]
   ·rw[bO (by rw[cL,t1];decide)]
   ·rw[e1 0 (by decide),aS (by decide),aS (by decide)];exact t2
   ·rw[e1 4 (by decide),aS (by decide),aS (by decide)];exact t5
  ·rintro τ C ⟨t1,t2,t5,P⟩;rw[aPz,dH]at P
   exact q C P
end Lib
namespace Lib
open PySem L2 TL NF
variable{N:Nt}{pl:Int}{c:Nat}{C':Sto}{o:Nat×Bool}{Q:T->Sto->Prop}
structure iM(N:Nt)(f:Nat->Int)(c:Nat)(pl:Int)(C:Sto):Prop where
 net:C[c]?=some (.o "Net" nnm,[.cell (c+1),.int pl])
 lst:C[c+1]?=some (.l,(bK N.m).map fun j=>.cell (pc c (j,true)))
 pip:∀o:Nat×Bool,o.1<N.m->C[pc c o]?=some (pcell N f c o)
theorem Pre.at{C0 C:Sto}(P:Pre N N.m C0 pl C):iM N (fun _=>0) C0.length pl C:=⟨P.net,P.lst,P.pip⟩
theorem iM.mono{f:Nat->Int}{C:Sto}(A:iM N f c pl C)(h:∀i,c<=i->i<c+2+2*N.m->C'[i]?=C[i]?):iM N f c pl C':=
 ⟨by rw[h c (by lia) (by lia)];exact A.net,by rw[h (c+1) (by lia) (by lia)];exact A.lst,fun o ho=>by rw[h _ (by unfold pc;lia) (by unfold pc;split<;>lia)];exact A.pip o ho⟩
theorem iM.app{f:Nat->Int}{C G:Sto}(A:iM N f c pl C)(hc:c+2+2*N.m<=C.length):iM N f c pl (C++G):=A.mono fun i _ h=>aY (by lia)
theorem iM.len{f:Nat->Int}{C:Sto}(A:iM N f c pl C):c+2+2*N.m<=C.length:=by
 by_cases h:N.m=0
 ·have:=kD A.lst;lia
 ·have:=kD (A.pip (N.m - 1,false) (by show N.m - 1<N.m;lia));rw[aMu]at this;lia
theorem iM.fld{f:Nat->Int}{C:Sto}(A:iM N f c pl C)(ho:o.1<N.m):oG "Pipe" "tail" C (.cell (pc c o))=some (.int (rt N o))/\oG "Pipe" "head" C (.cell (pc c o))=some (.int (rh N o))/\
 oG "Pipe" "hours" C (.cell (pc c o))=some (.int (rd N o))/\oG "Pipe" "room" C (.cell (pc c o))=some (.int (rr N f o))/\oG "Pipe" "back" C (.cell (pc c o))=some (.cell (pc c (o.1,!o.2))):=
 ⟨lD (A.pip o ho) rfl,lD (A.pip o ho) rfl,lD (A.pip o ho) rfl,lD (A.pip o ho) rfl,lD (A.pip o ho) rfl⟩
noncomputable def both(N:Nt):List (Nat×Bool):=(bK N.m).map (fun k=>(k,true))++(bK N.m).map fun k=>(k,false)
def opn(N:Nt)(f:Nat->Int):List (Nat×Bool):=(both N).filter fun o=>decide (0<rr N f o)
theorem aEY:o∈both N↔o.1<N.m:=by
 obtain⟨k,b⟩:=o;unfold both;cases b<;>simp
theorem oX{f:Nat->Int}:o∈opn N f↔Open N f o:=by
 unfold opn Open;rw[c7,aEY,decide_eq_true_iff]
theorem fU{f:FE}{τ:TSt}{C:Sto}{t:T}(e:f τ C=some (t,C'))(q:Q t C'):wpE f τ C Q:=⟨t,C',e,q⟩
theorem jM{cls:String}{f:Str}{τ:TSt}{C:Sto}{k:Nat}{t u:T}(h:τ[k]?=some (some t))(e:oG cls f C t=some u):lL cls f (fA k) τ C=some (u,C):=by
 have:wpE (lL cls f (fA k)) τ C fun x C'=>x=u/\C'=C:=aBk.mpr (fD.mpr ⟨_,h,_,e,rfl,rfl⟩)
 obtain⟨_,_,e',rfl,rfl⟩:=this
 exact e'
theorem rH{f:Nat->Int}{C:Sto}(A:iM N f c pl C)(hm:N.m<40000)(q:Q (.lst ((opn N f).map fun o=>.cell (pc c o))) C):wpO (jJ [.cell c] C) Q:=by
 have hf:oG "Net" "pipes" C (.cell c)=some (.cell (c+1)):=lD A.net rfl;have hl:lc C (c+1)=some ((bK N.m).map fun j=>.cell (pc c (j,true))):=gL.mpr A.lst
 refine i6 ?_
 unfold n4;walk_at "b"
 refine fN.mpr (gB.mpr (gC.mpr (tN.mpr ?_)))
 refine fU (jM rfl hf) (gC.mpr (j8.mpr (fU (jM rfl hf) ⟨_,hl,by simp[lim];lia,?_⟩)))
 refine iB (xs:=bK N.m) (en:=fun j=>T.cell (pc c (j,true))) (fun j=>T.cell (pc c (j,false))) (fun j hj=>?_) ?_
 ·refine gD.mpr (fU (jM (t:=.cell (pc c (j,true))) rfl (A.fld (o:=(j,true)) (dA.mp hj)).2.2.2.2) ⟨rfl,rfl⟩)
 refine vW.mpr ⟨_,hl,_,rfl,by simp[lim];lia,?_⟩
 refine gD.mpr (f7.mpr (iH.mpr (gC.mpr (j8.mpr (fD.mpr ⟨_,rfl,_,rfl,by simp[lim];lia,?_⟩)))))
 have eb:((bK N.m).map (fun j=>T.cell (pc c (j,true)))++(bK N.m).map fun j=>T.cell (pc c (j,false)))=(both N).map fun o=>T.cell (pc c o):=by
  unfold both;rw[bS,cD,cD];rfl
 rw[eb]
 refine sU (xs:=both N) (en:=fun o=>T.cell (pc c o)) (fun o=>decide (0<rr N f o)) (fun o=>T.cell (pc c o)) (fun o ho=>?_) q
 have hr:=(A.fld (aEY.mp ho)).2.2.2.1
 refine gD.mpr (gP.mpr (fP.mpr (fU (jM (t:=.cell (pc c o)) rfl hr) (iR.mpr (jH.mpr ⟨_,rfl,rfl,?_,fun _=>fD.mpr ⟨_,rfl,rfl,rfl⟩⟩)))))
 rfl
end Lib
namespace TL
open PySem L2
theorem wS{τ:TSt}{C:Sto}{c:FB}{F:FS}{Q:Fl->TSt->Sto->Prop}(J:Nat->TSt->Sto->Prop){n m:Nat}(hm:m<n)(h0:J m τ C)
 (hs:∀m τ C,J m τ C->wpB c τ C fun b C1=>if b=true then wpS F τ C1 (fun l τ2 C2=>match l with
  | .nx=>∃m',m'<m/\J m' τ2 C2
  | .ct=>∃m',m'<m/\J m' τ2 C2
  | .bk=>Q .nx τ2 C2
  | .rt v=>Q (.rt v) τ2 C2
  | .ex v=>Q (.ex v) τ2 C2)else Q .nx τ C1):wpS (lU c F n) τ C Q:=by
 induction n generalizing m τ C with
 |zero=>lia
 |succ d ih=>
  obtain⟨b,C1,e1,h⟩:=hs m τ C h0;cases b with
  |false=>
   rw[if_neg (by simp)]at h
   exact⟨.nx,τ,C1,by unfold lU;rw[e1];rfl,h⟩
  |true=>
   rw[if_pos rfl]at h;obtain⟨l,τ2,C2,e2,h⟩:=h;cases l with
   |nx=>
    obtain⟨m',h1,h2⟩:=h;obtain⟨l,τ',C',e,q⟩:=ih (m:=m') (by lia) h2
    exact⟨l,τ',C',by unfold lU;rw[e1,aU,if_pos rfl,e2,aU];exact e,q⟩
   |ct=>
    obtain⟨m',h1,h2⟩:=h;obtain⟨l,τ',C',e,q⟩:=ih (m:=m') (by lia) h2
    exact⟨l,τ',C',by unfold lU;rw[e1,aU,if_pos rfl,e2,aU];exact e,q⟩
   |bk=>exact⟨.nx,τ2,C2,by unfold lU;rw[e1,aU,if_pos rfl,e2];rfl,h⟩
   |rt v=>exact⟨.rt v,τ2,C2,by unfold lU;rw[e1,aU,if_pos rfl,e2];rfl,h⟩
   |ex v=>exact⟨.ex v,τ2,C2,by unfold lU;rw[e1,aU,if_pos rfl,e2];rfl,h⟩
end TL
namespace Lib
open PySem L2 TL NF
variable{N:Nt}{c mq:Nat}{pl:Int}
noncomputable def j6(n:Nat)(x:Nat->Int):List T:=(bK n).map fun v=>T.int (x v)
theorem sK{n:Nat}{x:Nat->Int}:(j6 n x).length=n:=by simp[j6]
theorem sN{n:Nat}{x:Nat->Int}{v:Nat}(h:v<n):(j6 n x)[v]?=some (.int (x v)):=by simp[j6,h]
theorem v7{n:Nat}{x:Nat->Int}{v:Nat}(h:v<n):atI (j6 n x) (v:Int)=some (.int (x v)):=aER (sN h)
theorem aEP{n:Nat}{x:Nat->Int}{v:Nat}(h:v<n):ixN (j6 n x).length (v:Int)=some v:=by
 unfold ixN;rw[sK];simp[h]
theorem aCQ{n:Nat}{x:Nat->Int}{v:Nat}{y:Int}:(j6 n x).set v (.int y)=j6 n (up x v y):=by
 apply List.ext_getElem?;intro i;by_cases hi:i<n
 ·by_cases hv:v=i
  ·subst hv;rw[bO (by rw[sK];exact hi),sN hi,aAu]
  ·rw[aS hv,sN hi,sN hi,x8 (Ne.symm hv)]
 ·rw[dE (by rw[cL,sK];lia),dE (by rw[sK];lia)]
theorem iM.mom{f:Nat->Int}{C:Sto}(A:iM N f c pl C)(h:mq<c\/c+2+2*N.m<=mq)(y:Cl):iM N f c pl (C.set mq y):=A.mono fun i h1 h2=>aS (by lia)
theorem uK{f:FE}{τ:TSt}{C:Sto}{t:T}(h:wpE f τ C fun t' C'=>t'=t/\C'=C):f τ C=some (t,C):=by
 obtain⟨_,_,e,rfl,rfl⟩:=h
 exact e
theorem aAC{τ:TSt}{C:Sto}{a k n v:Nat}{x:Nat->Int}{p:T}{fl:Str}(h0:τ[a]?=some (some (.cell mq)))(h3:τ[k]?=some (some p))(hl:lc C mq=some (j6 n x))(hf:oG "Pipe" fl C p=some (.int v))(hv:v<n):
 fIx (fA a) (lL "Pipe" fl (fA k)) τ C=some (.int (x v),C):=
 uK (fP.mpr (fD.mpr ⟨_,h0,fU (jM h3 hf) (kY.mpr ⟨_,hl,_,v7 hv,rfl,rfl⟩)⟩))
theorem aH4{f:Nat->Int}{n:Nat}{C:Sto}{x:Nat->Int}{os:List (Nat×Bool)}(A:iM N f c pl C)(hi:In N n)(hmo:mq<c\/c+2+2*N.m<=mq)(e:C[mq]?=some (.l,j6 n x))(ho:∀o∈os,Open N f o){Q:T->Sto->Prop}
 (q:∀r x',(∀s0,Ris N n f s0 x->Ris N n f s0 x')->(r=false->x'=x/\∀o∈os,x (rt N o)+rd N o<=x (rh N o))->(r=true->sm n x<sm n x')->Q (.bl r) (C.set mq (.l,j6 n x'))):
 wpO (lC [.cell mq,.lst (os.map fun o=>.cell (pc c o))] C) Q:=by
 have hlt:=kD e
 refine i6 ?_
 unfold pG;walk_at "b";simp_arith[if_true]
 refine jW (xs:=os) (en:=fun o=>T.cell (pc c o)) (fun j τ C'=>∃x' r a b,τ=[some (.cell mq),some (.lst (os.map fun o=>.cell (pc c o))),some (.bl r),a,b]/\C'=C.set mq (.l,j6 n x')/\(∀s0,Ris N n f s0 x->Ris N n f s0 x')/\
  (r=false->x'=x/\∀o∈os.take j,x (rt N o)+rd N o<=x (rh N o))/\(r=true->sm n x<sm n x')/\sm n x<=sm n x') ?_ ?_ ?_
 ·refine⟨x,false,_,_,rfl,?_,fun s0 h=>h,fun _=>⟨rfl,by simp⟩,(fun h=>by cases h),bV _⟩
  obtain⟨h1,h2⟩:=aP.mp e;rw[<-h2,eO]
 ·rintro j o τ C' hj ⟨x',r,a,b,rfl,rfl,h1,h2,h3,h4⟩;have hoo:=ho o (bB hj);have hk:rt N o<n/\rh N o<n:=by
   obtain⟨k,d⟩:=o;have:=hi k hoo.1;unfold rt rh;cases d<;>simp<;>lia
  have A':=A.mom hmo (.l,j6 n x');obtain⟨f1,f2,f3,f4,f5⟩:=A'.fld hoo.1;have hlc:lc (C.set mq (.l,j6 n x')) mq=some (j6 n x'):=gL.mpr (mM hlt);have tk:∀P:Nat×Bool->Prop,(∀o∈os.take j,P o)->P o->∀o∈os.take (j+1),P o:=fun P ha hb z hz=>by
   rw[aOv,hj]at hz;rcases bM.mp hz with hz|hz
   ·exact ha z hz
   ·have:z=o:=by simpa using hz
    rw[this];exact hb
  unfold nM
  refine gD.mpr (fN.mpr (gB.mpr (fP.mpr ?_)))
  refine fU (aAC (k:=3) (p:=.cell (pc c o)) rfl rfl hlc f1 hk.1) ?_
  refine fU (jM rfl f3) (jH.mpr (gD.mpr (f7.mpr (iY.mpr (gP.mpr (fP.mpr ?_))))))
  refine fD.mpr ⟨_,rfl,?_⟩
  refine fU (aAC (k:=3) (p:=.cell (pc c o)) rfl rfl hlc f2 hk.2) (jH.mpr ⟨_,rfl,?_⟩)
  by_cases hr:x' (rh N o)<x' (rt N o)+rd N o
  ·rw[if_pos (decide_eq_true hr)]
   refine fN.mpr (wN.mpr (fD.mpr ⟨_,rfl,fD.mpr ⟨_,rfl,fU (jM rfl f2) ⟨_,_,rfl,rfl,_,hlc,_,aEP hk.2,?_⟩⟩⟩))
   refine f7.mpr (gB.mpr (iR.mpr (gD.mpr ⟨trivial,_,true,_,_,rfl,?_,fun s0 h=>(h1 s0 h).raise hoo hk.1 hr,(fun z=>by cases z),fun _=>?_,?_⟩)))
   ·rw[aCQ,eE]
   ·have:=aAk (N:=N) (x:=x') (o:=o) hk.2 hr;lia
   ·have:=aAk (N:=N) (x:=x') (o:=o) hk.2 hr;lia
  ·rw[if_neg (by rw[decide_eq_false hr];simp)]
   refine gM.mpr ⟨trivial,x',r,_,_,rfl,rfl,h1,fun z=>⟨(h2 z).1,tk _ (h2 z).2 ?_⟩,h3,h4⟩
   have:=(h2 z).1;subst this
   lia
 ·rintro τ C' ⟨x',r,a,b,rfl,rfl,h1,h2,h3,h4⟩;rw[dH]at h2;simp_arith[if_true]
  exact q r x' h1 h2 h3
end Lib
namespace Lib
open PySem L2 TL NF
noncomputable def st1(e:Int)(v:Nat):Int:=if v=1 then e else 0
theorem x6{N:Nt}{f:Nat->Int}{c n:Nat}{C:Sto}{e:Int}(A:iM N f c n C)(hm:N.m<40000)(hi:In N n)(hn:1<n)(hn2:n<50000){y:Nat->Int}(hy:∀v,v<n->st1 e v<=y v)(hp:Pot N f y)(hb:sm n y - sm n (st1 e)<10^199){Q:T->Sto->Prop}
 (q:∀p,Least N n f (st1 e) p->Q (.cell C.length) (C++[(.l,j6 n p)])):wpO (iN [.cell c,.int e] C) Q:=by
 have hlen:=A.len;have hf:oG "Net" "places" C (.cell c)=some (.int n):=lD A.net rfl
 refine i6 ?_
 unfold rG;walk_at "b"
 refine fN.mpr (gB.mpr (j7.mpr (oZ.mpr (fU (jM rfl hf) ⟨_,rfl,⟨by lia,by lia⟩,?_⟩))))
 rw[pX,cE]
 refine iB (xs:=bK n) (fun _=>T.int 0) (fun j _=>gD.mpr (iR.mpr ⟨rfl,rfl⟩)) ?_
 have e0:(bK n).map (fun _=>T.int 0)=j6 n fun _=>0:=rfl
 rw[e0];have hl0:lc (C++[(Kd.l,j6 n fun _=>0)]) C.length=some (j6 n fun _=>0):=gL.mpr (by simp)
 refine gD.mpr (f7.mpr (fN.mpr (wN.mpr (fD.mpr ⟨_,rfl,fD.mpr ⟨_,rfl,iR.mpr ⟨_,_,rfl,rfl,_,hl0,_,aEP (v:=1) hn,?_⟩⟩⟩))))
 have e1:(C++[(Kd.l,j6 n fun _=>0)]).set C.length (Kd.l,(j6 n fun _=>0).set 1 (.int e))=C++[(Kd.l,j6 n (st1 e))]:=by
  rw[b8 _ _ (bI _),dB,aCQ];rfl
 rw[e1];have A1:iM N f c n (C++[(Kd.l,j6 n (st1 e))]):=A.app hlen
 refine f7.mpr (fN.mpr (gB.mpr (mJ (fD.mpr ⟨_,rfl,nH A1.net rfl,fM.mpr ⟨rfl,rH A1 hm ?_⟩⟩))))
 refine gD.mpr (f7.mpr (fN.mpr ?_))
 refine wS (fun m τ C'=>∃x,τ=[some (.cell c),some (.int e),some (.cell C.length),some (.lst ((opn N f).map fun o=>.cell (pc c o)))]/\C'=C++[(Kd.l,j6 n x)]/\Ris N n f (st1 e) x/\sm n y - sm n x<=(m:Int)) (m:=(sm n y - sm n (st1 e)).toNat) (by
  have:(sm n y - sm n (st1 e)).toNat<10^199:=by lia
  exact bP this (aOD (by decide) (by decide))) ⟨st1 e,rfl,rfl,Ris.start,by lia⟩ ?_
 rintro m τ C' ⟨x,rfl,rfl,hR,hms⟩;have A2:iM N f c n (C++[(Kd.l,j6 n x)]):=A.app hlen
 refine jY.mpr (jI.mpr (fG.mpr (fD.mpr ⟨_,rfl,fG.mpr (fD.mpr ⟨_,rfl,fM.mpr ⟨rfl,?_⟩⟩)⟩)))
 refine aH4 (x:=x) A2 hi (.inr hlen) (by simp) (fun o ho=>oX.mp ho) fun r x' h1 h2 h3=>⟨r,rfl,?_⟩
 have e2:(C++[(Kd.l,j6 n x)]).set C.length (Kd.l,j6 n x')=C++[(Kd.l,j6 n x')]:=by
  rw[b8 _ _ (bI _),dB];rfl
 rw[e2];cases r with
 |true=>
  rw[if_pos rfl];have s1:=h3 rfl;have s2:=(h1 _ hR).sum_le hy hp
  refine gM.mpr ⟨(sm n y - sm n x').toNat,by lia,x',rfl,rfl,h1 _ hR,by lia⟩
 |false=>
  rw[if_neg (by simp)];obtain⟨rfl,h5⟩:=h2 rfl
  exact f7.mpr (iH.mpr (fD.mpr ⟨_,rfl,q _ (hR.done fun o ho=>h5 o (oX.mpr ho))⟩))
end Lib
namespace Lib
open PySem L2 TL NF
section
variable {α β κ:Type}[DecidableEq α][DecidableEq κ]{kf:α->κ}{vf:β->T}
variable{p:α×β}{rs:List (α×β)}{b:β}
noncomputable def lk(rs:List (α×β))(a:α):Option β:=(rs.find? fun p=>decide (p.1=a)).map (·.2)
noncomputable def mL(rs:List (α×β))(a:α)(b:β):List (α×β):=if a∈rs.map (·.1)then rs.map (fun p=>if p.1=a then(p.1,b)else p)else rs++[(a,b)]
theorem aLO{a:α}:lk ([]:List (α×β)) a=none:=rfl
theorem mT{a:α}:lk (p::rs) a=if p.1=a then some p.2 else lk rs a:=by
 unfold lk;rw[c8];by_cases h:p.1=a
 ·rw[if_pos h,decide_eq_true h];rfl
 ·rw[if_neg h,decide_eq_false h]
theorem aAE{a:α}{b:β}:∀{rs:List (α×β)},lk rs a=some b->(a,b)∈rs
 | [],h=>by cases h
 |p::rs,h=>by
  rw[mT]at h;split at h
  ·rename_i e;cases h;subst e;exact bF
  ·exact aZ _ (aAE h)
theorem oY{a:α}:∀{rs:List (α×β)},(lk rs a).isSome=true↔a∈rs.map (·.1)
 | []=>by simp[aLO]
 |p::rs=>by
  rw[mT,aM,bE];by_cases h:p.1=a
  ·rw[if_pos h];simp[h]
  ·rw[if_neg h,oY];constructor
   ·exact .inr
   ·rintro(z|z)
    ·exact absurd z.symm h
    ·exact z
theorem aDB(inj:∀a b,kf a=kf b->a=b){a:α}:∀{rs:List (α×β)},vl ((rs.map fun p=>kf p.1).zip (rs.map fun p=>vf p.2)) (kf a)=(lk rs a).map vf
 | []=>rfl
 |p::rs=>by
  rw[aM,aM,cB,mT];unfold vl;rw[c8];by_cases h:p.1=a
  ·rw[if_pos h,show decide ((kf p.1,vf p.2).1=kf a)=true from decide_eq_true (by rw[h])];rfl
  ·rw[if_neg h,show decide ((kf p.1,vf p.2).1=kf a)=false from decide_eq_false (fun z=>h (inj _ _ z))]
   exact aDB inj
theorem aA2(inj:∀a b,kf a=kf b->a=b){a:α}:kf a∈(rs.map fun p=>kf p.1)↔a∈rs.map (·.1):=by
 constructor
 ·intro h;obtain⟨p,hp,e⟩:=bL.mp h
  exact bL.mpr ⟨p,hp,inj _ _ e⟩
 ·intro h;obtain⟨p,hp,e⟩:=bL.mp h
  exact bL.mpr ⟨p,hp,by rw[e]⟩
theorem aBp(inj:∀a b,kf a=kf b->a=b){a:α}:pkK (kf a) (rs.map fun p=>kf p.1)=((mL rs a b).map fun p=>kf p.1)/\pvK (kf a) (vf b) (rs.map fun p=>kf p.1) (rs.map fun p=>vf p.2)=(mL rs a b).map fun p=>vf p.2:=by
 unfold pkK pvK mL;by_cases h:a∈rs.map (·.1)
 ·rw[if_pos ((aA2 inj).mpr h),if_pos ((aA2 inj).mpr h),if_pos h];have hz:∀rs:List (α×β),(rs.map fun p=>kf p.1).zip (rs.map fun p=>vf p.2)=rs.map fun p=>(kf p.1,vf p.2):=fun rs=>by rw[List.zip_map']
  constructor
  ·rw[cD];apply cS;intro p _;simp only[dO];split<;>rfl
  ·rw[hz,cD,cD];apply cS;intro p _;simp only[dO];by_cases e:p.1=a
   ·rw[if_pos e,if_pos (by rw[e])]
   ·rw[if_neg e,if_neg (fun z=>e (inj _ _ z))]
 ·rw[if_neg (fun z=>h ((aA2 inj).mp z)),if_neg (fun z=>h ((aA2 inj).mp z)),if_neg h,bS,bS]
  exact⟨rfl,rfl⟩
theorem aAq{a:α}:(mL rs a b).map (·.1)=if a∈rs.map (·.1)then rs.map (·.1)else rs.map (·.1)++[a]:=by
 unfold mL;split
 ·rw[cD];apply cS;intro p _;simp only[dO];split<;>rfl
 ·rw[bS];rfl
theorem aKV{a:α}(h:(rs.map (·.1)).Nodup):((mL rs a b).map (·.1)).Nodup:=by
 rw[aAq];split
 ·exact h
 ·rename_i hn
  refine dR.mpr ⟨h,by simp,fun x hx y hy=>?_⟩
  rw[bR.mp hy];rintro rfl;exact hn hx
theorem aG3{a:α}(h:p∈mL rs a b):p=(a,b)\/p∈rs:=by
 unfold mL at h;split at h
 ·obtain⟨q,hq,e⟩:=bL.mp h;split at e
  ·rename_i z;rw[<-e,z];exact .inl rfl
  ·rw[<-e];exact .inr hq
 ·rcases bM.mp h with h|h
  ·exact .inr h
  ·exact .inl (bR.mp h)
theorem y9{a x:α}:x∈(mL rs a b).map (·.1)↔x=a\/x∈rs.map (·.1):=by
 rw[aAq];split
 ·rename_i h;constructor
  ·exact .inr
  ·rintro(z|z)
   ·rw[z];exact h
   ·exact z
 ·rw[bM,bR,or_comm]
end
variable{c d:Nat}{rs:List (Nat×List (Nat×Bool))}
theorem aEG{α β:Type}[DecidableEq α]{kf:α->Key}{vf:β->T}(inj:∀a b,kf a=kf b->a=b):∀{fs rs:List (α×β)},(fs.map (·.1)).Nodup->(∀a∈fs.map (·.1),a∉rs.map (·.1))->
 mrgK (fs.map fun p=>kf p.1) (fs.map fun p=>vf p.2) ((rs.map fun p=>kf p.1),(rs.map fun p=>vf p.2))=(((rs++fs).map fun p=>kf p.1),((rs++fs).map fun p=>vf p.2))
 | [],rs,_,_=>by simp[mrgK]
 |p::fs,rs,hn,hd=>by
  rw[aM,bW]at hn;rw[aM,aM];unfold mrgK;dsimp only;obtain⟨e1,e2⟩:=aBp (vf:=vf) inj (a:=p.1) (b:=p.2) (rs:=rs);have hp:p.1∉rs.map (·.1):=hd _ (by simp);rw[e1,e2];have e3:mL rs p.1 p.2=rs++[p]:=by unfold mL;rw[if_neg hp]
  rw[e3,aEG inj hn.2 (fun a ha=>?_),cJ]
  ·rfl
  ·rw[bS,bM,aM,bD,bR];rintro(z|z)
   ·exact hd a (by rw[aM];exact aZ _ ha) z
   ·rw[z]at ha;exact hn.1 ha
noncomputable def kyN(v:Nat):Key:=.inl (v:Int)
theorem sB(a b:Nat)(h:kyN a=kyN b):a=b:=by
 have:(a:Int)=b:=Sum.inl.inj h
 lia
def rtT(c:Nat)(r:List (Nat×Bool)):T:=.lst (r.map fun o=>.cell (pc c o))
def mP(c:Nat)(rs:List (Nat×List (Nat×Bool))):Cl:=(.dk (rs.map fun p=>kyN p.1),rs.map fun p=>rtT c p.2)
theorem vY{C:Sto}{v:Nat}(e:C[d]?=some (mP c rs)):dval C (.cell d) (.int v)=some ((lk rs v).map (rtT c)):=by
 unfold dval;rw[uP e];show some (vl _ (kyN v))=_;rw[aDB sB]
theorem aJo{C:Sto}{v:Nat}{r:List (Nat×Bool)}(e:C[d]?=some (mP c rs))(hl:rs.length<lim):dput C (.cell d) (.int v) (rtT c r)=some (C.set d (mP c (mL rs v r))):=by
 unfold dput;rw[uP e];show(if _ then some (C.set d (.dk (pkK (kyN v) _),pvK (kyN v) _ _ _))else none)=_;rw[if_pos (by simpa using hl)];obtain⟨e1,e2⟩:=aBp (vf:=rtT c) sB (a:=v) (b:=r) (rs:=rs);rw[e1,e2];rfl
end Lib
namespace Lib
open PySem L2 TL NF
theorem aGV{α β:Type}[DecidableEq α]{rs:List (α×β)}{a:α}{b:β}:(mL rs a b).length<=rs.length+1:=by
 unfold mL;split
 ·simp
 ·simp
theorem wQ{N:Nt}{f:Nat->Int}{c d:Nat}{pl:Int}{C:Sto}{rs:List (Nat×List (Nat×Bool))}{ts:List (Nat×Bool)}(A:iM N f c pl C)(e:C[d]?=some (mP c rs))(ht:∀o∈ts,o.1<N.m)(hl:ts.length<90000)(hr:∀p∈rs,p.2.length<=1000){Q:T->Sto->Prop}
 (q:∀fs:List (Nat×List (Nat×Bool)),(fs.map (·.1)).Nodup->(∀a∈fs.map (·.1),a∉rs.map (·.1))->(∀p∈fs,∃o∈ts,∃r0,(rt N o,r0)∈rs/\p=(rh N o,r0++[o]))->(∀o∈ts,rt N o∈rs.map (·.1)->rh N o∉rs.map (·.1)->rh N o∈fs.map (·.1))->Q (.cell C.length) (C++[mP c fs])):
 wpO (mH [.cell d,.lst (ts.map fun o=>.cell (pc c o))] C) Q:=by
 have hlen:=A.len;have hd:=kD e
 refine i6 ?_
 unfold q9;walk_at "b"
 refine fN.mpr (gB.mpr (aBQ.mpr (gD.mpr (f7.mpr (fN.mpr (nF.mpr (fD.mpr ⟨_,rfl,_,rfl,?_⟩)))))))
 refine jW (xs:=ts) (en:=fun o=>T.cell (pc c o)) (fun j τ C'=>∃fs a,τ=[some (.cell d),some (.lst (ts.map fun o=>.cell (pc c o))),some (.cell C.length),a]/\C'=C++[mP c fs]/\fs.length<=j/\(fs.map (·.1)).Nodup/\(∀a∈fs.map (·.1),a∉rs.map (·.1))/\
  (∀p∈fs,∃o∈ts,∃r0,(rt N o,r0)∈rs/\p=(rh N o,r0++[o]))/\∀o∈ts.take j,rt N o∈rs.map (·.1)->rh N o∉rs.map (·.1)->rh N o∈fs.map (·.1)) ?_ ?_ ?_
 ·exact⟨[],_,rfl,rfl,bI _,by simp,by simp,by simp,by simp⟩
 ·rintro j o τ C' hj ⟨fs,a,rfl,rfl,h1,h2,h3,h4,h5⟩;have hot:=bB hj;have hjl:j<ts.length:=(aP.mp hj).1;have A':iM N f c pl (C++[mP c fs]):=A.app hlen;obtain⟨f1,f2,f3,f4,f5⟩:=A'.fld (ht o hot);have e':(C++[mP c fs])[d]?=some (mP c rs):=by rw[aY hd];exact e
  have eF:(C++[mP c fs])[C.length]?=some (mP c fs):=by simp
  have v1:=vY (v:=rt N o) e';have v2:=vY (v:=rh N o) e';have tk:∀P:Nat×Bool->Prop,(∀o∈ts.take j,P o)->P o->∀o∈ts.take (j+1),P o:=fun P ha hb z hz=>by
   rw[aOv,hj]at hz;rcases bM.mp hz with hz|hz
   ·exact ha z hz
   ·have:z=o:=by simpa using hz
    rw[this];exact hb
  unfold pE
  refine gD.mpr (iY.mpr (sV.mpr (gP.mpr (fP.mpr ?_))))
  refine fU (jM (t:=.cell (pc c o)) rfl f1) (fD.mpr ⟨_,rfl,aAL.mpr ⟨_,v1,_,rfl,?_⟩⟩)
  cases l1:lk rs (rt N o)with
  |none=>
   rw[if_neg (by simp),if_neg (by simp)]
   refine gM.mpr ⟨trivial,fs,_,rfl,rfl,by lia,h2,h3,h4,tk _ h5 fun z=>?_⟩
   have:=oY.mpr z;rw[l1]at this;cases this
  |some r0=>
   rw[if_pos (by simp)]
   refine gP.mpr (fP.mpr ?_)
   refine fU (jM (t:=.cell (pc c o)) rfl f2) (fD.mpr ⟨_,rfl,aAL.mpr ⟨_,v2,_,rfl,?_⟩⟩)
   cases l2:lk rs (rh N o)with
   |some r1=>
    rw[if_neg (by simp)]
    refine gM.mpr ⟨trivial,fs,_,rfl,rfl,by lia,h2,h3,h4,tk _ h5 fun _ z=>?_⟩
    exact absurd (oY.mp (by rw[l2];rfl)) z
   |none=>
    rw[if_pos (by simp)];have hn:rh N o∉rs.map (·.1):=fun z=>by
     have:=oY.mpr z;rw[l2]at this;cases this
    have hrl:r0.length<=1000:=hr _ (aAE l1)
    refine aCl (gC.mpr (tN.mpr (fP.mpr (fD.mpr ⟨_,rfl,?_⟩))))
    refine fU (jM (t:=.cell (pc c o)) rfl f1) (sJ.mpr ⟨rtT c r0,by rw[v1,l1];rfl,?_⟩)
    refine gC.mpr (iQ.mpr (fG.mpr (fD.mpr ⟨_,rfl,fM.mpr ⟨by simp[lim],?_⟩⟩)))
    refine vW.mpr ⟨_,rfl,_,rfl,by simp[lim];lia,fD.mpr ⟨_,rfl,?_⟩⟩
    refine fU (jM (t:=.cell (pc c o)) rfl f2) ?_
    have er:(.lst ((r0.map fun o=>T.cell (pc c o))++[T.cell (pc c o)]):T)=rtT c (r0++[o]):=by unfold rtT;rw[bS];rfl
    refine⟨_,by rw[er];exact aJo eF (by simp[lim];lia),trivial,mL fs (rh N o) (r0++[o]),_,rfl,?_,?_,aKV h2,?_,?_,?_⟩
    ·rw[b8 _ _ (bI _),dB];rfl
    ·exact cC aGV (by lia)
    ·intro a ha;rcases y9.mp ha with rfl|ha
     ·exact hn
     ·exact h3 a ha
    ·intro p hp;rcases aG3 hp with rfl|hp
     ·exact⟨o,hot,r0,aAE l1,rfl⟩
     ·exact h4 p hp
    ·exact tk _ (fun z hz z1 z2=>y9.mpr (.inr (h5 z hz z1 z2))) fun _ _=>y9.mpr (.inl rfl)
 ·rintro τ C' ⟨fs,a,rfl,rfl,h1,h2,h3,h4,h5⟩;rw[dH]at h5
  exact f7.mpr (iH.mpr (fD.mpr ⟨_,rfl,q fs h2 h3 h4 h5⟩))
end Lib
namespace Lib
open PySem L2 TL NF
variable{Q:T->Sto->Prop}{N:Nt}{p:Nat->Int}
theorem aFm{τ:TSt}{C:Sto}{fo fv:FE}{c1:Nat}(h:wpE fo τ C fun td C1=>td=.cell c1/\isDc C1 td=true/\wpE fv τ C1 fun te C2=>∃c2 ks ks' ts ts',te=.cell c2/\C2[c1]?=some (.dk ks,ts)/\C2[c2]?=some (.dk ks',ts')/\c1≠c2/\ks.length+ks'.length<=lim/\
 Q .non (C2.set c1 (.dk (mrgK ks' ts' (ks,ts)).1,(mrgK ks' ts' (ks,ts)).2))):wpE (y6 fo fv) τ C Q:=by
 obtain⟨td,C1,e1,rfl,hd,te,C2,e2,c2,ks,ks',ts,ts',rfl,e3,e4,hn,hl,q⟩:=h
 exact aIN ⟨_,C1,e1,rfl,hd,_,C2,e2,rfl,e3,e4,hn,hl,q⟩
theorem mI:∀(n:Nat)(l:List Nat),l.Nodup->(∀a∈l,a<n)->l.length<=n
 |0,l,_,h=>by
  cases l with
  |nil=>exact bI _
  |cons a l=>exact absurd (h a bF) (by lia)
 |n+1,l,hn,h=>by
  have h1:=mI n (l.erase n) (hn.erase n) fun a ha=>by
   have hm:=(List.Nodup.mem_erase_iff hn).mp ha;have:=h a hm.2;have:=hm.1
   lia
  by_cases hm:n∈l
  ·rw[aOn hm]at h1;lia
  ·rw[List.erase_of_not_mem hm]at h1;lia
structure Rts(N:Nt)(n:Nat)(f p:Nat->Int)(rs:List (Nat×List (Nat×Bool))):Prop where
 nd:(rs.map (·.1)).Nodup
 lt:∀a∈rs.map (·.1),a<n
 z:0∈rs.map (·.1)
 rte:∀x∈rs,Rte N f p x.2 x.1/\(∀v∈x.2.map (rh N),v∈rs.map (·.1))
theorem Rts.len{n:Nat}{f:Nat->Int}{rs:List (Nat×List (Nat×Bool))}(R:Rts N n f p rs){x:Nat×List (Nat×Bool)}(hx:x∈rs):x.2.length<=n:=by
 obtain⟨h1,h2⟩:=R.rte x hx;have:=mI n _ (bW.mp h1.nd).2 fun a ha=>R.lt a (h2 a ha)
 simpa using this
theorem xW{f:Nat->Int}{c n mq:Nat}{pl:Int}{C:Sto}(A:iM N f c pl C)(hm:N.m<40000)(hi:In N n)(hn:n<40)(hn0:0<n)(hmo:C[mq]?=some (.l,j6 n p))
 (reach:∀R:Nat->Prop,R 0->(∀o,Open N f o->R (rt N o)->p (rt N o)+rd N o=p (rh N o)->R (rh N o))->R 1)(q:∀r G,Rte N f p r 1->Q (rtT c r) (C++G)):
 wpO (mE [.lst ((opn N f).map fun o=>.cell (pc c o)),.cell mq] C) Q:=by
 have hlen:=A.len;have hlc:lc C mq=some (j6 n p):=gL.mpr hmo;have hin:∀o:Nat×Bool,o.1<N.m->rt N o<n/\rh N o<n:=fun o ho=>by
  obtain⟨k,d⟩:=o;have:=hi k ho;unfold rt rh;cases d<;>simp<;>lia
 have hol:(opn N f).length<90000:=by
  have:(opn N f).length<=(both N).length:=aOx _ _;have h2:(both N).length=N.m+N.m:=by simp[both]
  lia
 refine i6 ?_
 unfold rK;walk_at "b"
 refine fN.mpr (gB.mpr (gC.mpr (j8.mpr (fD.mpr ⟨_,rfl,_,rfl,by simp[lim];lia,?_⟩))))
 refine sU (xs:=opn N f) (en:=fun o=>T.cell (pc c o)) (fun o=>decide (p (rt N o)+rd N o=p (rh N o))) (fun o=>T.cell (pc c o)) (fun o ho=>?_) ?_
 ·have hoo:=oX.mp ho;obtain⟨f1,f2,f3,f4,f5⟩:=A.fld hoo.1;obtain⟨k1,k2⟩:=hin o hoo.1
  refine gD.mpr (gP.mpr (fP.mpr (fP.mpr ?_)))
  refine fU (aAC (a:=1) (k:=0) (p:=.cell (pc c o)) rfl rfl hlc f1 k1) ?_
  refine fU (jM rfl f3) (jH.mpr ?_)
  refine fU (aAC (a:=1) (k:=0) (p:=.cell (pc c o)) rfl rfl hlc f2 k2) ?_
  refine aAX.mpr ⟨_,rfl,rfl,rfl,fun _=>fD.mpr ⟨_,rfl,rfl,rfl⟩⟩
 refine gD.mpr (f7.mpr (fN.mpr (gB.mpr (aFr (k:=kyN 0) (x:=rtT c []) ?_))))
 refine iR.mpr ⟨rfl,gC.mpr (iQ.mpr (fM.mpr ⟨by decide,rfl,by simp,?_⟩))⟩
 have e0:(C++[(Kd.dk [],[])]).set C.length (Kd.dk [kyN 0],[rtT c []])=C++[mP c [(0,[])]]:=by
  rw[b8 _ _ (bI _),dB];rfl
 rw[e0]
 refine gD.mpr (f7.mpr (fN.mpr ?_))
 refine wS (fun m τ C'=>∃rs G,τ=[some (.lst ((opn N f).map fun o=>.cell (pc c o))),some (.cell mq),some (.lst (((opn N f).filter fun o=>decide (p (rt N o)+rd N o=p (rh N o))).map fun o=>.cell (pc c o))),some (.cell C.length)]/\C'=C++mP c rs::G/\Rts N n f p rs/\n - rs.length<=m) (m:=n) (by lia) ?_ ?_
 ·refine⟨[(0,[])],[],rfl,rfl,⟨by simp,by simpa using hn0,by simp,fun x hx=>?_⟩,by lia⟩
  have:x=(0,[]):=by simpa using hx
  subst this
  exact⟨Rte.nil,by simp⟩
 rintro m τ C' ⟨rs,G,rfl,rfl,R,hms⟩;have eD:(C++mP c rs::G)[C.length]?=some (mP c rs):=by simp
 have A':iM N f c pl (C++mP c rs::G):=A.app hlen
 refine gP.mpr (fP.mpr (iR.mpr (fD.mpr ⟨_,rfl,aAL.mpr ⟨_,vY (v:=1) eD,_,rfl,?_⟩⟩)))
 cases l1:lk rs 1 with
 |some r=>
  rw[if_neg (by simp)]
  refine f7.mpr (iH.mpr (fP.mpr (fD.mpr ⟨_,rfl,iR.mpr (sJ.mpr ⟨rtT c r,?_,?_⟩)⟩)))
  ·have:=vY (v:=1) eD;rw[l1]at this;exact this
  ·exact q r _ (R.rte _ (aAE l1)).1
 |none=>
  rw[if_pos (by simp)];unfold pA
  refine pR.mpr (aFm (c1:=C.length) (fD.mpr ⟨_,rfl,rfl,by unfold isDc;rw[uP eD];rfl,jI.mpr (fG.mpr (fD.mpr ⟨_,rfl,fG.mpr (fD.mpr ⟨_,rfl,fM.mpr ⟨rfl,?_⟩⟩)⟩))⟩))
  refine wQ A' eD (fun o ho=>(oX.mp ((c7.mp ho).1)).1) (aOr (aOx _ _) hol) (fun x hx=>cC (R.len hx) (by lia)) fun fs h1 h2 h3 h4=>?_
  have hlt:∀a∈fs.map (·.1),a<n:=fun a ha=>by
   obtain⟨x,hx,rfl⟩:=bL.mp ha;obtain⟨o,ho,r0,_,e⟩:=h3 x hx;rw[e];exact(hin o (oX.mp ((c7.mp ho).1)).1).2
  have R':Rts N n f p (rs++fs):=by
   refine⟨?_,fun a ha=>?_,?_,fun x hx=>?_⟩
   ·rw[bS]
    exact dR.mpr ⟨R.nd,h1,fun a ha b hb z=>h2 b hb (z ▸ ha)⟩
   ·rw[bS]at ha;rcases bM.mp ha with ha|ha
    ·exact R.lt a ha
    ·exact hlt a ha
   ·rw[bS];exact bM.mpr (.inl R.z)
   ·rcases bM.mp hx with hx|hx
    ·refine⟨(R.rte x hx).1,fun v hv=>?_⟩
     rw[bS];exact bM.mpr (.inl ((R.rte x hx).2 v hv))
    ·obtain⟨o,ho,r0,hr0,e⟩:=h3 x hx;have hoo:=oX.mp ((c7.mp ho).1);have htg:p (rt N o)+rd N o=p (rh N o):=of_decide_eq_true (c7.mp ho).2;have hnew:=h2 x.1 (cT hx);obtain⟨g1,g2⟩:=R.rte _ hr0;rw[e]at hnew|-
     refine⟨g1.snoc hoo rfl htg fun z=>?_,fun v hv=>?_⟩
     ·rcases bE.mp z with z|z
      ·exact hnew (by rw[z];exact R.z)
      ·exact hnew (g2 _ z)
     ·rw[bS]at hv;rw[bS];rcases bM.mp hv with hv|hv
      ·exact bM.mpr (.inl (g2 v hv))
      ·have:v=rh N o:=by simpa using hv
       rw[this]
       exact bM.mpr (.inr (bL.mpr ⟨x,hx,by rw[e]⟩))
  have hne:fs≠[]:=fun z=>by
   subst z;have:=reach (fun v=>v∈rs.map (·.1)) R.z fun o ho h5 h6=>by
    by_cases h7:rh N o∈rs.map (·.1)
    ·exact h7
    ·exact absurd (h4 o (c7.mpr ⟨oX.mpr ho,decide_eq_true h6⟩) h5 h7) (by simp)
   have h8:=oY.mpr this;rw[l1]at h8;cases h8
  have hfl:fs.length<=n:=by
   have:=mI n _ h1 hlt;simpa using this
  have hrl:(rs++fs).length<=n:=by
   have:=mI n _ R'.nd R'.lt;simpa using this
  have hrl2:rs.length<=n:=by rw[bC]at hrl;lia
  have hf1:0<fs.length:=dY.mpr hne
  refine⟨_,rs.map (fun x=>kyN x.1),fs.map (fun x=>kyN x.1),rs.map (fun x=>rtT c x.2),fs.map (fun x=>rtT c x.2),rfl,?_,?_,?_,?_,?_⟩
  ·exact(by simp:(C++mP c rs::G++[mP c fs])[C.length]?=some (mP c rs))
  ·exact(by simp:(C++mP c rs::G++[mP c fs])[(C++mP c rs::G).length]?=some (mP c fs))
  ·simp
  ·rw[aR,aR];simp[lim];lia
  ·rw[aEG sB h1 h2]
   refine⟨n - (rs++fs).length,?_,rs++fs,G++[mP c fs],rfl,?_,R',bI _⟩
   ·rw[bC]at hrl|-;lia
   ·rw[cJ,b8 _ _ (bI _),dB];rfl
end Lib
namespace Lib
open PySem L2 TL NF
variable{N:Nt}{r:List (Nat×Bool)}{o:Nat×Bool}{c:Nat}{pl:Int}
def rmin(N:Nt)(f:Nat->Int)(r:List (Nat×Bool)):Int:=uJ (r.map (rr N f))
theorem yN:∀{ns:List Int},ns≠[]->uJ ns∈ns/\∀a∈ns,uJ ns<=a:=by
 have key:∀(ns:List Int)(n:Int),(ns.foldl (fun a b=>if b<a then b else a) n=n\/ns.foldl (fun a b=>if b<a then b else a) n∈ns)/\ns.foldl (fun a b=>if b<a then b else a) n<=n/\∀a∈ns,ns.foldl (fun a b=>if b<a then b else a) n<=a:=by
  intro ns;induction ns with
  |nil=>intro n;exact⟨.inl rfl,bV _,fun a h=>nomatch h⟩
  |cons m ns ih=>
   intro n;rw[aOF];obtain⟨h1,h2,h3⟩:=ih (if m<n then m else n);by_cases hm:m<n
   ·rw[if_pos hm]at h1 h2 h3|-
    refine⟨?_,by lia,fun a ha=>?_⟩
    ·rcases h1 with h1|h1
     ·rw[h1];simp
     ·exact .inr (aZ _ h1)
    ·rcases bE.mp ha with rfl|ha
     ·exact h2
     ·exact h3 a ha
   ·rw[if_neg hm]at h1 h2 h3|-
    refine⟨?_,h2,fun a ha=>?_⟩
    ·rcases h1 with h1|h1
     ·exact .inl h1
     ·exact .inr (aZ _ h1)
    ·rcases bE.mp ha with rfl|ha
     ·lia
     ·exact h3 a ha
 intro ns hne;cases ns with
 |nil=>exact absurd rfl hne
 |cons n ns=>
  obtain⟨h1,h2,h3⟩:=key ns n
  refine⟨?_,fun a ha=>?_⟩
  ·rcases h1 with h1|h1
   ·show aPw (fun a b=>if b<a then b else a) n ns∈n::ns;rw[h1];simp
   ·exact aZ _ h1
  ·rcases bE.mp ha with rfl|ha
   ·exact h2
   ·exact h3 a ha
theorem aIQ{f:Nat->Int}(ho:o∈r):rmin N f r<=rr N f o:=
 (yN (ns:=r.map (rr N f)) (by rintro z;have:=aOL.mp z;subst this;cases ho)).2 _ (cT ho)
theorem aHP{f:Nat->Int}(hr:r≠[])(ho:∀o∈r,Open N f o):0<rmin N f r:=by
 obtain⟨h1,h2⟩:=yN (ns:=r.map (rr N f)) (by rintro z;exact hr (aOL.mp z));obtain⟨o,hoo,e⟩:=bL.mp h1;unfold rmin;rw[<-e];exact(ho o hoo).2
theorem aDm{f:Nat->Int}{C:Sto}(A:iM N f c pl C)(hr:r≠[])(ho:∀o∈r,o.1<N.m)(hl:r.length<1000){Q:T->Sto->Prop}(q:Q (.int (rmin N f r)) C):wpO (qV [rtT c r] C) Q:=by
 refine i6 ?_
 unfold aAa;walk_at "b"
 refine iH.mpr (gF.mpr (fG.mpr (gC.mpr (j8.mpr (fD.mpr ⟨_,rfl,_,rfl,by simp[lim];lia,?_⟩)))))
 refine iB (xs:=r) (en:=fun o=>T.cell (pc c o)) (fun o=>T.int (rr N f o)) (fun o hoo=>gD.mpr (fU (jM (t:=.cell (pc c o)) rfl (A.fld (ho o hoo)).2.2.2.1) ⟨rfl,rfl⟩)) ?_
 refine fM.mpr (nZ.mpr ⟨_,rfl,_,oJ (f:=rr N f),?_,q⟩)
 cases r with
 |nil=>exact absurd rfl hr
 |cons o r=>rfl
theorem iM.pour1{f:Nat->Int}{C:Sto}(A:iM N f c pl C)(ho:o.1<N.m)(x:Int):
 iM N (up f o.1 (f o.1+if o.2 then x else -x)) c pl ((C.set (pc c o) (.o "Pipe" pnm,[.int (rt N o),.int (rh N o),.int (rd N o),.int (rr N f o - x),.cell (pc c (o.1,!o.2))])).set (pc c (o.1,!o.2)) (.o "Pipe" pnm,[.int (rt N (o.1,!o.2)),.int (rh N (o.1,!o.2)),.int (rd N (o.1,!o.2)),.int (rr N f (o.1,!o.2)+x),.cell (pc c (o.1,!!o.2))])):=by
 have l1:=kD (A.pip o ho);have l2:=kD (A.pip (o.1,!o.2) ho);obtain⟨k,b⟩:=o;have hne:pc c (k,b)≠pc c (k,!b):=by unfold pc;cases b<;>simp
 have low:∀i,i<c+2->i≠pc c (k,b)/\i≠pc c (k,!b):=fun i hi=>by unfold pc;constructor<;>lia
 refine⟨?_,?_,fun o' ho'=>?_⟩
 ·rw[aS (Ne.symm (low c (by lia)).2),aS (Ne.symm (low c (by lia)).1)];exact A.net
 ·rw[aS (Ne.symm (low (c+1) (by lia)).2),aS (Ne.symm (low (c+1) (by lia)).1)];exact A.lst
 ·obtain⟨k',b'⟩:=o';by_cases hk:k'=k
  ·subst hk;by_cases hb:b'=b
   ·subst hb;rw[aS (Ne.symm hne),mM l1];unfold pcell rr;rw[aAu];cases b'<;>simp<;>lia
   ·have hb':b'= !b:=by cases b<;>cases b'<;>simp_all
    subst hb';rw[mM (by rw[cL];exact l2)];unfold pcell rr;rw[aAu];cases b<;>simp<;>lia
  ·have n1:pc c (k',b')≠pc c (k,b):=by unfold pc;dsimp only;split<;>split<;>lia
   have n2:pc c (k',b')≠pc c (k,!b):=by unfold pc;dsimp only;split<;>split<;>lia
   rw[aS (Ne.symm n2),aS (Ne.symm n1),A.pip (k',b') ho'];unfold pcell rr;rw[x8 hk]
theorem aJc{x:Int}:∀{r:List (Nat×Bool)}{f:Nat->Int}{C:Sto},iM N f c pl C->(∀o∈r,o.1<N.m)->∀{Q:T->Sto->Prop},(∀C',iM N (pr r x f) c pl C'->C'.length=C.length->(∀i,i<c\/c+2+2*N.m<=i->C'[i]?=C[i]?)->Q .non C')->wpO (aBi [rtT c r,.int x] C) Q:=by
 intro r f C A ho Q q
 refine i6 ?_
 unfold aIB;walk_at "b"
 refine nF.mpr (fD.mpr ⟨_,rfl,_,rfl,?_⟩)
 refine jW (xs:=r) (en:=fun o=>T.cell (pc c o)) (fun j τ C'=>∃a,τ=[some (rtT c r),some (.int x),a]/\iM N (pr (r.take j) x f) c pl C'/\C'.length=C.length/\∀i,i<c\/c+2+2*N.m<=i->C'[i]?=C[i]?) ⟨_,rfl,A,rfl,fun _ _=>rfl⟩ ?_ ?_
 ·rintro j o τ C' hj ⟨a,rfl,A',hl,hfr⟩;have hoo:=ho o (bB hj);obtain⟨f1,f2,f3,f4,f5⟩:=A'.fld hoo;have A2:=A'.pour1 hoo x;have l2:=kD (A'.pip (o.1,!o.2) hoo);have hne:pc c o≠pc c (o.1,!o.2):=by obtain⟨k,b⟩:=o;unfold pc;cases b<;>simp
  have hpr:∀(r:List (Nat×Bool))(f:Nat->Int),pr (r++[o]) x f=up (pr r x f) o.1 (pr r x f o.1+if o.2 then x else -x):=fun r=>by
   induction r with
   |nil=>intro f;rfl
   |cons e r ih=>intro f;show pr (r++[o]) x _=_;rw[ih];rfl
  unfold aCF
  refine gD.mpr (fN.mpr (w6 (i:=rr N (pr (r.take j) x f) o) (j:=x) (fD.mpr ⟨_,rfl,f4,fD.mpr ⟨_,rfl,rfl,_,lS (A'.pip o hoo) (by decide) rfl rfl,?_⟩⟩)))
  have g5:oG "Pipe" "back" (C'.set (pc c o) (.o "Pipe" pnm,[.int (rt N o),.int (rh N o),.int (rd N o),.int (rr N (pr (r.take j) x f) o - x),.cell (pc c (o.1,!o.2))])) (.cell (pc c o))=some (.cell (pc c (o.1,!o.2))):=lD (mM (kD (A'.pip o hoo))) rfl;have g6:(C'.set (pc c o) (.o "Pipe" pnm,[.int (rt N o),.int (rh N o),.int (rd N o),.int (rr N (pr (r.take j) x f) o - x),.cell (pc c (o.1,!o.2))]))[pc c (o.1,!o.2)]?=some (pcell N (pr (r.take j) x f) c (o.1,!o.2)):=by
   rw[aS hne];exact A'.pip (o.1,!o.2) hoo
  refine f7.mpr (w6 (i:=rr N (pr (r.take j) x f) (o.1,!o.2)) (j:=x) (fU (jM (t:=.cell (pc c o)) rfl g5) ⟨lD g6 rfl,fD.mpr ⟨_,rfl,rfl,_,lS g6 (by decide) rfl rfl,trivial,_,rfl,?_,?_,?_⟩⟩))
  ·rw[aOv,hj,eB,hpr]
   exact A2
  ·rw[cL,cL];exact hl
  ·intro i hi;rw[aS (by unfold pc;split<;>lia),aS (by unfold pc;split<;>lia)]
   exact hfr i hi
 ·rintro τ C' ⟨a,rfl,A',hl,hfr⟩;rw[dH]at A'
  exact q C' A' hl hfr
end Lib
namespace Lib
open PySem L2 TL NF
variable{w:Wk}{es:List (Nat×Nat)}{P:Int}{p:Nat->Int}{c:Nat}{Q:T->Sto->Prop}
structure Wel(w:Wk)(n:Nat)(es:List (Nat×Nat))(P:Int):Prop where
 n8:n<=8
 m:(net w n es P).m<40000
 ein:∀e∈es,e.1<n/\e.2<n
 rk:∃r:Nat->Int,(∀i,i<n->0<=r i/\r i<n)/\∀e∈es,r e.1<r e.2
 l0:∀i,i<n->0<=w.l i
 pP:sm n w.p<P
 big:sm n w.p<10^199
theorem Wel.open{n:Nat}(W:Wel w n es P){f:Nat->Int}{a:Int}(G:Good w n es P f a p)(ha:a<P):∀k,k<(net w n es P).m->isU n k=false->f k<(net w n es P).c k:=fun k hk hu=>by
 obtain⟨r,h1,h2⟩:=W.rk
 exact NF.plenty G.flo G.cap h1 h2 W.ein ha hk hu
theorem aGg:st1 0=fun _=>0:=by funext v;unfold st1;split<;>rfl
theorem aOg{n:Nat}:sm n (fun _=>0)=0:=oW fun _ _=>rfl
theorem moments0{n:Nat}(W:Wel w n es P){f:Nat->Int}{a:Int}{C:Sto}(A:iM (net w n es P) f c (2*n+2:Nat) C)(G:Good w n es P f a p)(hb:sm (2*n+2) p<10^199)
 (q:∀p',Least (net w n es P) (2*n+2) f (fun _=>0) p'->Good w n es P f a p'->(∀v,v<2*n+2->p' v<=p v)->Q (.cell C.length) (C++[(.l,j6 (2*n+2) p')])):wpO (iN [.cell c,.int 0] C) Q:=by
 refine x6 A W.m (x9 W.ein) (by lia) (by have:=W.n8;lia) (y:=p) (fun v hv=>by rw[aGg];exact G.ge v hv) G.pot (by rw[aGg,aOg];lia) fun p' L=>?_
 rw[aGg]at L;obtain⟨G',h⟩:=G.least L
 exact q p' L G' h
structure Filled(w:Wk)(n:Nat)(es:List (Nat×Nat))(P:Int)(e:Int)(f0:Nat->Int)(a0:Int)(p0 f p:Nat->Int)(a:Int):Prop where
 good:Good w n es P f a p
 least:Least (net w n es P) (2*n+2) f (fun _=>0) p
 le:∀v,v<2*n+2->p v<=p0 v
 ready:p 1<=e
 how:f=f0\/a0<a/\∃q,Good w n es P f a q/\e<q 1/\∀v,v<2*n+2->q v<=p0 v
theorem aKR{n:Nat}(W:Wel w n es P){E e:Int}{b:Nat->Int}(TM:Tim n es E b w.l)(hE:E<=e)(he0:0<=e){f0 p0:Nat->Int}{a0:Int}(G0:Good w n es P f0 a0 p0)(ha0:a0<=sm n w.p)(a00:0<=a0)(hb:sm (2*n+2) p0<10^199)
 {C:Sto}(A:iM (net w n es P) f0 c (2*n+2:Nat) C)
 (q:∀f p a C',Filled w n es P e f0 a0 p0 f p a->a<=sm n w.p->a0<=a->iM (net w n es P) f c (2*n+2:Nat) C'->C.length<=C'.length->(∀i,i<C.length->(i<c\/c+2+2*(net w n es P).m<=i)->C'[i]?=C[i]?)->Q .non C'):
 wpO (oO [.cell c,.int e] C) Q:=by
 have hlen:=A.len;have hn8:=W.n8
 refine i6 ?_
 unfold yK;walk_at "b"
 refine fN.mpr (gB.mpr (mJ (fD.mpr ⟨_,rfl,nH A.net rfl,fG.mpr (iR.mpr (fM.mpr ⟨rfl,moments0 W A G0 hb fun p1 L1 G1 h1=>?_⟩))⟩)))
 refine gD.mpr (f7.mpr ?_)
 refine wS (fun m τ C'=>∃f p a mq x,τ=[some (.cell c),some (.int e),some (.cell mq),x]/\C'[mq]?=some (.l,j6 (2*n+2) p)/\iM (net w n es P) f c (2*n+2:Nat) C'/\Good w n es P f a p/\Least (net w n es P) (2*n+2) f (fun _=>0) p/\(∀v,v<2*n+2->p v<=p0 v)/\
  a<=sm n w.p/\a0<=a/\(f=f0\/a0<a/\∃q,Good w n es P f a q/\e<q 1/\∀v,v<2*n+2->q v<=p0 v)/\C.length<=C'.length/\(∀i,i<C.length->(i<c\/c+2+2*(net w n es P).m<=i)->C'[i]?=C[i]?)/\sm n w.p+1 - a<=(m:Int)) (m:=(sm n w.p+1 - a0).toNat) ?_ ?_ ?_
 ·have h2:=W.big;have h3:(sm n w.p+1 - a0).toNat<=10^199:=by lia
  exact aOr h3 (Nat.pow_lt_pow_right (by decide) (by decide))
 ·refine⟨f0,p1,a0,C.length,_,rfl,by simp,A.app hlen,G1,L1,h1,ha0,bV _,.inl rfl,by simp,fun i hi _=>aY hi,by lia⟩
 rintro m τ C' ⟨f,p,a,mq,x,rfl,hmo,A',G,L,hle,ha,ha0',how,hCl,hfr,hms⟩;have hlc:lc C' mq=some (j6 (2*n+2) p):=gL.mpr hmo
 refine gP.mpr (fP.mpr (fP.mpr (fD.mpr ⟨_,rfl,iR.mpr (kY.mpr ⟨_,hlc,_,v7 (v:=1) (by lia),fD.mpr ⟨_,rfl,jH.mpr ⟨_,rfl,?_⟩⟩⟩)⟩)))
 by_cases hp:e<p 1
 ·rw[if_pos (decide_eq_true hp)];have hn0:0<n:=by
   rcases Nat.eq_zero_or_pos n with z|z
   ·exfalso;have hm0:(net w n es P).m=0:=by
     show 4*n+es.length=0;have:es=[]:=by
      cases es with
      |nil=>rfl
      |cons x r=>have:=(W.ein x bF).1;lia
     rw[this,z];rfl
    have:=L.le (fun _=>0) (fun _ _=>bV _) (fun k hk=>by lia) 1 (by lia)
    lia
   ·exact z
  have ho:=W.open G (eG ha W.pP);have hlen':=A'.len;unfold tM
  refine fN.mpr (gB.mpr (jI.mpr (fG.mpr (mJ (fD.mpr ⟨_,rfl,nH A'.net rfl,fM.mpr ⟨rfl,rH A' W.m ?_⟩⟩)))))
  refine fG.mpr (fD.mpr ⟨_,rfl,fM.mpr ⟨rfl,?_⟩⟩)
  refine xW A' W.m (x9 W.ein) (by lia) (by lia) hmo (fun R r0 hc=>G.route L ho W.ein W.l0 hn0 R r0 hc) fun r G2 hr=>?_
  have A2:iM (net w n es P) f c (2*n+2:Nat) (C'++G2):=A'.app hlen';have hne:r≠[]:=fun z=>by
   subst z;have:=hr.wk
   exact absurd (show(0:Nat)=1 from this) (by decide)
  have hrm:∀o∈r,o.1<(net w n es P).m:=fun o hoo=>(hr.op o hoo).1
  have hin:=x9 (w:=w) (P:=P) W.ein;have hrl:r.length<1000:=by
   have h5:=mI (2*n+2) _ (bW.mp hr.nd).2 fun v hv=>by
    obtain⟨⟨k,d⟩,hoo,rfl⟩:=bL.mp hv;have:=hin k (hr.op _ hoo).1;unfold rh;cases d<;>simp<;>lia
   rw[aR]at h5
   lia
  refine gD.mpr (f7.mpr (fN.mpr (pR.mpr (jI.mpr (fG.mpr (fD.mpr ⟨_,rfl,fG.mpr (jI.mpr (fG.mpr (fD.mpr ⟨_,rfl,fM.mpr ⟨rfl,aDm A2 hne hrm hrl (fM.mpr ⟨rfl,?_⟩)⟩⟩)))⟩))))))
  refine aJc A2 hrm fun C3 A3 hl3 hf3=>?_
  have hx:=aHP hne hr.op;have G3:Good w n es P (pr r (rmin (net w n es P) f r) f) (a+rmin (net w n es P) f r) p:=G.pour hr.wk hr.pipes hr.tg (by lia) fun o hoo=>aIQ hoo
  have hb3:=G3.bound TM (by lia);have hsp:sm (2*n+2) p<10^199:=eG (u4 hle) hb
  refine f7.mpr (gB.mpr (mJ (fD.mpr ⟨_,rfl,nH A3.net rfl,fG.mpr (iR.mpr (fM.mpr ⟨rfl,moments0 W A3 G3 hsp fun p4 L4 G4 h4=>?_⟩))⟩)))
  have hl5:C'.length<=C3.length:=by rw[hl3];simp
  refine gD.mpr ⟨(sm n w.p+1 - (a+rmin (net w n es P) f r)).toNat,by lia,_,p4,_,C3.length,_,rfl,by simp,A3.app A3.len,G4,L4,fun v hv=>aO9 (h4 v hv) (hle v hv),hb3,by lia,.inr ⟨by lia,p,G3,hp,hle⟩,by rw[bC];lia,fun i hi hic=>?_,by lia⟩
  rw[aY (by lia),hf3 i hic,aY (by lia)]
  exact hfr i hi hic
 ·rw[if_neg (by rw[decide_eq_false hp];simp)]
  exact q f p a C' ⟨G,L,hle,by lia,how⟩ ha ha0' A' hCl hfr
end Lib
namespace Lib
open PySem L2 TL NF
variable{d:Nat}{s:Nat×Nat}{L:NF.Fl}{Q:T->Sto->Prop}
def ky2(s:Nat×Nat):List Key:=[kyN s.1,kyN s.2]
theorem aEr(a b:Nat×Nat)(h:ky2 a=ky2 b):a=b:=by
 have h1:=aPq.inj h;have h2:=aPq.inj h1.2
 exact aP8 (sB _ _ h1.1) (sB _ _ h2.1)
noncomputable def stT(s:Nat×Nat):T:=.tup [.int s.1,.int s.2]
def mN(L:NF.Fl):Cl:=(.dt (L.map fun p=>ky2 p.1),L.map fun p=>.int p.2)
def aJQ(L:NF.Fl):Cl:=(.dz (L.map fun p=>ky2 p.1),L.map fun p=>.int p.2)
theorem vL{C:Sto}(e:C[d]?=some (mN L)\/C[d]?=some (aJQ L)):dval C (.cell d) (stT s)=some ((lk L s).map T.int):=by
 unfold dval;rw[aGT e,aId e];show some (vl _ (ky2 s))=_;rw[aDB (vf:=fun i:Int=>T.int i) aEr]
theorem aEj{C:Sto}{v:Int}(e:C[d]?=some (mN L))(hl:L.length<lim):dput C (.cell d) (stT s) (.int v)=some (C.set d (mN (mL L s v))):=by
 unfold dput;rw[aGT (.inl e),aIm e];show(if _ then some (C.set d (.dt (pkK (ky2 s) _),pvK (ky2 s) _ _ _))else none)=_;rw[if_pos (by simpa using hl)];obtain⟨e1,e2⟩:=aBp (vf:=fun i:Int=>T.int i) aEr (a:=s) (b:=v) (rs:=L);rw[e1,e2];rfl
theorem rN:(lk L s).getD 0=at_ L s:=by
 unfold at_;congr 1;induction L with
 |nil=>rfl
 |cons e L ih=>
  obtain⟨k,v⟩:=e;rw[mT,bZ];by_cases h:k=s
  ·rw[if_pos h,show(s==k)=true from beq_iff_eq.mpr h.symm]
  ·rw[if_neg h,show(s==k)=false from beq_eq_false_iff_ne.mpr (Ne.symm h)];exact ih
theorem aAD{p:(Nat×Nat)×Int}{v:Int}(h:¬p.1=s):mL (p::L) s v=p::mL L s v:=by
 unfold mL;rw[aM];by_cases hs:s∈L.map (·.1)
 ·rw[if_pos (aZ _ hs),if_pos hs,aM,if_neg h]
 ·rw[if_neg (fun z=>by rcases bE.mp z with z|z;·exact h z.symm
                       ·exact hs z),if_neg hs];rfl
theorem aCY{g:(Nat×Nat)×Int->(Nat×Nat)×Int}(h:s∉L.map (·.1)):L.map (fun p=>if p.1=s then g p else p)=L:=by
 induction L with
 |nil=>rfl
 |cons e L ih=>
  rw[aM,bE,not_or]at h;rw[aM,ih h.2,if_neg (fun z=>h.1 z.symm)]
theorem aEL{s:Nat×Nat}{v:Int}:∀{L:NF.Fl},(L.map (·.1)).Nodup->mL L s (at_ L s+v)=ad s v L
 | [],_=>by simp[mL,ad,at_]
 | (k,x)::L,hn=>by
   rw[aM,bW]at hn;unfold ad;by_cases h:k=s
   ·subst h;have e:at_ ((k,x)::L) k=x:=by rw[<-rN,mT,if_pos rfl];rfl
    rw[e,if_pos rfl];unfold mL;rw[if_pos (by simp),aM,if_pos rfl,aCY hn.1]
   ·have e:at_ ((k,x)::L) s=at_ L s:=by rw[<-rN,mT,if_neg h,rN]
    rw[e,if_neg h,aAD h,aEL hn.2]
theorem aKM{x:Int}(hn:(L.map (·.1)).Nodup)(hs:s∈L.map (·.1)):mL L s (at_ L s - x)=tk x s L:=by
 unfold mL;rw[if_pos hs];unfold tk;induction L with
 |nil=>rfl
 |cons e L ih=>
  obtain⟨k,y⟩:=e;rw[aM,bW]at hn;rw[aM,aM];by_cases h:k=s
  ·subst h;have e:at_ ((k,y)::L) k=y:=by rw[<-rN,mT,if_pos rfl];rfl
   rw[e,if_pos rfl,aCY hn.1,aCY (g:=fun e=>(e.1,e.2 - x)) hn.1]
  ·have e:at_ ((k,y)::L) s=at_ L s:=by rw[<-rN,mT,if_neg h,rN]
   rw[aM]at hs;rw[e,if_neg h,if_neg h,ih hn.2 ((bE.mp hs).resolve_left (Ne.symm h))]
theorem aLb{e:(Nat×Nat)×Int}(hn:(L.map (·.1)).Nodup)(he:e∈L):lk L e.1=some e.2:=by
 induction L with
 |nil=>cases he
 |cons p L ih=>
  rw[aM,bW]at hn;rw[mT];rcases bE.mp he with rfl|he
  ·rw[if_pos rfl]
  ·rw[if_neg (fun z=>hn.1 (by rw[z];exact cT he)),ih hn.2 he]
noncomputable def outs(L:NF.Fl)(v:Nat):List (Nat×Nat):=(L.filter fun e=>decide (e.1.1=v)&&decide (0<e.2)).map (·.1)
theorem rD{C:Sto}{v:Nat}(e:C[d]?=some (mN L))(hn:(L.map (·.1)).Nodup)(hl:L.length<90000)(q:Q (.lst ((outs L v).map stT)) C):wpO (lP [.int v,.cell d] C) Q:=by
 have hd:=kD e
 refine i6 ?_
 unfold sS;walk_at "b"
 refine iH.mpr (gC.mpr (aFN (c:=d) (ks:=L.map fun p:(Nat×Nat)×Int=>ky2 p.1) (ts:=L.map fun p:(Nat×Nat)×Int=>T.int p.2) (fD.mpr ⟨_,rfl,rfl,e,by simp,by simp[lim];lia,?_⟩)))
 have hz:(C.set d (aJQ L))[d]?=some (aJQ L):=mM hd;rw[cD,show(aHY ∘ fun p:(Nat×Nat)×Int=>ky2 p.1)=fun p=>stT p.1 from rfl]
 refine sU (xs:=L) (en:=fun p=>stT p.1) (fun e=>decide (e.1.1=v)&&decide (0<e.2)) (fun p=>stT p.1) (fun x hx=>?_) ?_
 ·refine gD.mpr (sV.mpr (gP.mpr (fP.mpr (fP.mpr ?_))))
  refine fD.mpr ⟨stT x.1,rfl,?_⟩
  refine iR.mpr (kY.mpr ⟨[.int x.1.1,.int x.1.2],rfl,.int x.1.1,rfl,?_⟩)
  refine fD.mpr ⟨.int v,rfl,?_⟩
  refine aAX.mpr ⟨_,rfl,?_⟩
  have hv:((x.1.1:Int)=v)↔x.1.1=v:=by lia
  by_cases h:x.1.1=v
  ·rw[if_pos (decide_eq_true (hv.mpr h))];have hg:=vL (s:=x.1) (L:=L) (C:=C.set d (aJQ L)) (.inr hz);rw[aLb hn hx]at hg
   refine gP.mpr (fP.mpr (fP.mpr (fD.mpr ⟨_,rfl,fD.mpr ⟨_,rfl,sJ.mpr ⟨_,hg,iR.mpr (jH.mpr ⟨_,rfl,rfl,?_,fun _=>fD.mpr ⟨_,rfl,rfl,rfl⟩⟩)⟩⟩⟩)))
   rw[decide_eq_true h,Bool.true_and]
  ·rw[if_neg (by rw[decide_eq_false (fun z=>h (hv.mp z))];simp)]
   refine⟨rfl,by rw[decide_eq_false h,aPh],fun z=>?_⟩
   rw[decide_eq_false h,aPh]at z;cases z
 ·have:(L.filter fun e=>decide (e.1.1=v)&&decide (0<e.2)).map (fun p=>stT p.1)=(outs L v).map stT:=by unfold outs;rw[cD];rfl
  rw[this]
  exact⟨rfl,q⟩
theorem aB1{x:Int}{s:Nat×Nat}:∀{r:List (Nat×Nat)}{L:NF.Fl},tks x (r++[s]) L=tk x s (tks x r L)
 | [],L=>rfl
 |a::r,L=>by show tks x (r++[s]) (tk x a L)=_;rw[aB1];rfl
theorem aBW{C:Sto}{rc:Nat}{r:List (Nat×Nat)}(e:C[d]?=some (mN L))(e2:C[rc]?=some (.l,r.map stT))(hn:(L.map (·.1)).Nodup)(hl:L.length<90000)(hr:r≠[])(hrl:r.length<1000)(hk:∀s∈r,s∈L.map (·.1))
 (q:Q (.int (uJ (r.map (at_ L)))) (C.set d (mN (tks (uJ (r.map (at_ L))) r L)))):wpO (o7 [.cell d,.cell rc] C) Q:=by
 have hd:=kD e;have hdr:d≠rc:=fun z=>by subst z;rw[e]at e2;cases e2
 have hlc:lc C rc=some (r.map stT):=gL.mpr e2;have lkk:∀(L':NF.Fl)(s:Nat×Nat),s∈L'.map (·.1)->lk L' s=some (at_ L' s):=fun L' s hs=>by
  obtain⟨v,hv⟩:=cP.mp (oY.mpr hs);rw[hv,<-rN,hv];rfl
 generalize hx:uJ (r.map (at_ L))=x at q
 refine i6 ?_
 unfold yA;walk_at "b"
 refine fN.mpr (gB.mpr (gF.mpr (fG.mpr (gC.mpr (j8.mpr (fD.mpr ⟨_,rfl,_,hlc,by simp[lim];lia,?_⟩))))))
 refine iB (xs:=r) (en:=stT) (fun s=>T.int (at_ L s)) (fun s hs=>gD.mpr (fP.mpr (fD.mpr ⟨_,rfl,fD.mpr ⟨_,rfl,sJ.mpr ⟨_,by rw[vL (.inl e),lkk L s (hk s hs)];rfl,rfl,rfl⟩⟩⟩))) ?_
 refine fM.mpr (nZ.mpr ⟨_,rfl,_,oJ (f:=at_ L),?_,?_⟩)
 ·cases r with
  |nil=>exact absurd rfl hr
  |cons s r=>rfl
 rw[show uJ (r.map (at_ L))=x from hx]
 refine gD.mpr (f7.mpr (fN.mpr (nF.mpr (fD.mpr ⟨_,rfl,_,hlc,?_⟩))))
 refine jW (xs:=r) (en:=stT) (fun j τ C'=>∃y,τ=[some (.cell d),some (.cell rc),some (.int x),y]/\C'=C.set d (mN (tks x (r.take j) L))) ⟨_,rfl,?_⟩ ?_ ?_
 ·obtain⟨h1,h2⟩:=aP.mp e;show C=C.set d (mN L);rw[<-h2,eO]
 ·rintro j s τ C' hj ⟨y,rfl,rfl⟩;have hs:=hk s (bB hj);have hs':s∈(tks x (r.take j) L).map (·.1):=by rw[oA];exact hs
  have hn':((tks x (r.take j) L).map (·.1)).Nodup:=by rw[oA];exact hn
  have hl':(tks x (r.take j) L).length<90000:=by
   have:=congrArg aPM (oA (x:=x) (r:=r.take j) (L:=L));rw[aR,aR]at this;lia
  have e':(C.set d (mN (tks x (r.take j) L)))[d]?=some (mN (tks x (r.take j) L)):=mM hd;unfold sM
  refine gD.mpr (aHq (i:=at_ (tks x (r.take j) L) s) (j:=x) (fD.mpr ⟨_,rfl,fD.mpr ⟨_,rfl,by rw[vL (.inl e'),lkk _ s hs'];rfl,fD.mpr ⟨_,rfl,rfl,_,aEj e' (by simp[lim];lia),?_,_,rfl,?_⟩⟩⟩))
  ·show lc _ rc=_;rw[gL,eE,aS hdr];exact e2
  ·rw[eE,aKM hn' hs',aOv,hj,eB,aB1]
 ·rintro τ C' ⟨y,rfl,rfl⟩;rw[dH]
  exact f7.mpr (iH.mpr (fD.mpr ⟨_,rfl,q⟩))
end Lib
namespace Lib
open PySem L2 TL NF
variable{L:NF.Fl}{e:(Nat×Nat)×Int}
structure Flw(L:NF.Fl)(a:Int)(ρ:Nat->Int):Prop where
 con:Con L a
 nn:∀e∈L,0<=e.2
 nd:(L.map (·.1)).Nodup
 hz:∀e∈L,e.1.2≠0
 rk:∀e∈L,ρ e.1.1<ρ e.1.2
 h1:∀e∈L,ρ e.1.2<=ρ 1
 h0:∀e∈L,ρ 0<=ρ e.1.1
 small:ρ 1 - ρ 0<=30
 le:ρ 0<=ρ 1
 len:L.length<90000
theorem wH{x:T}{l:List T}:atI (x::l) 0=some x:=aER (j:=0) rfl
theorem SW.snoc:∀{r:List (Nat×Nat)}{u v:Nat}{s:Nat×Nat},SW r u v->s.1=v->SW (r++[s]) u s.2
 | [],u,v,s,h,e=>by cases h;exact⟨e,rfl⟩
 |a::r,u,v,s,⟨h1,h2⟩,e=>⟨h1,SW.snoc h2 e⟩
theorem aGK{v:Nat}{s:Nat×Nat}(h:s∈outs L v):∃e∈L,e.1=s/\s.1=v/\0<e.2:=by
 unfold outs at h;obtain⟨e,he,rfl⟩:=bL.mp h;obtain⟨h1,h2⟩:=c7.mp he;rw[eR,decide_eq_true_iff,decide_eq_true_iff]at h2
 exact⟨e,h1,rfl,h2.1,h2.2⟩
theorem aBS{v:Nat}(h:outs L v=[])(he:e∈L)(hv:e.1.1=v):¬0<e.2:=fun hp=>by
 have:e.1∈outs L v:=by
  unfold outs
  refine cT (c7.mpr ⟨he,?_⟩)
  rw[eR,decide_eq_true_iff,decide_eq_true_iff]
  exact⟨hv,hp⟩
 rw[h]at this;cases this
theorem aCS(hn:(L.map (·.1)).Nodup)(he:e∈L):at_ L e.1=e.2:=by rw[<-rN,aLb hn he];rfl
theorem xD{a:Int}{ρ:Nat->Int}(F:Flw L a ρ){C:Sto}{d:Nat}(e:C[d]?=some (mN L)){Q:T->Sto->Prop}
 (q:∀r:List (Nat×Nat),(r=[]/\a<=0)\/(r≠[]/\SW r 0 1/\r.Nodup/\r.length<1000/\∀s∈r,s∈L.map (·.1)/\0<at_ L s)->Q (.cell C.length) (C++[(.l,r.map stT)])):wpO (j5 [.cell d] C) Q:=by
 have hd:=kD e;have e':∀x:Cl,(C++[x])[d]?=some (mN L):=fun x=>by rw[aY hd];exact e
 refine i6 ?_
 unfold pB;walk_at "b"
 refine fN.mpr (gB.mpr (j7.mpr (iQ.mpr (fM.mpr ⟨by decide,?_⟩))))
 refine gD.mpr (f7.mpr (fN.mpr (gB.mpr (jI.mpr (fG.mpr (iR.mpr (fG.mpr ?_)))))))
 refine fD.mpr ⟨_,rfl,fM.mpr ⟨rfl,?_⟩⟩
 refine rD (v:=0) (e' _) F.nd F.len (gD.mpr (f7.mpr (fN.mpr ?_)))
 refine wS (fun m τ C'=>∃r u,τ=[some (.cell d),some (.cell C.length),some (.lst ((outs L u).map stT))]/\C'=C++[(.l,r.map stT)]/\SW r 0 u/\(r=[]/\u=0\/r≠[]/\∃e∈L,e.1.2=u/\0<e.2)/\(∀s∈r,s∈L.map (·.1)/\0<at_ L s)/\r.Nodup/\(∀s∈r,ρ s.1<ρ u)/\
  (r.length:Int)<=ρ u - ρ 0/\ρ u<=ρ 1/\ρ 1 - ρ u<=(m:Int)) (m:=30) (by decide) ?_ ?_
 ·exact⟨[],0,rfl,rfl,rfl,.inl ⟨rfl,rfl⟩,by simp,by simp,by simp,by simp,F.le,F.small⟩
 rintro m τ C' ⟨r,u,rfl,rfl,h1,h2,h3,h4,h5,h6,h7,h8⟩
 refine jY.mpr (fD.mpr ⟨_,rfl,_,rfl,?_⟩)
 have hsm:=F.small;cases ho:outs L u with
 |nil=>
  rw[bD];rw[if_neg (by simp)]
  refine f7.mpr (iH.mpr (fD.mpr ⟨_,rfl,q r ?_⟩))
  rcases h2 with⟨rfl,rfl⟩| ⟨hne,x,hx,hu,hp⟩
  ·refine .inl ⟨rfl,?_⟩
   by_cases ha:0<a
   ·obtain⟨y,hy,hy1,hy2⟩:=aKv F.con F.nn F.hz ha
    exact absurd hy2 (aBS ho hy hy1)
   ·lia
  ·refine .inr ⟨hne,?_,h4,by lia,h3⟩
   have hu1:u=1:=by
    by_cases z:u=1
    ·exact z
    ·obtain⟨y,hy,hy1,hy2⟩:=aKJ F.con F.nn (v:=u) (by rw[<-hu];exact F.hz x hx) z hx hu hp
     exact absurd hy2 (aBS ho hy hy1)
   rw[hu1]at h1;exact h1
 |cons s os=>
  obtain⟨x,hx,hxs,hs1,hxp⟩:=aGK (L:=L) (v:=u) (s:=s) (by rw[ho];exact bF);have hrk:=F.rk x hx;have hrk1:=F.h1 x hx;rw[hxs,hs1]at hrk;rw[hxs]at hrk1;rw[aM,if_pos (by simp)];have hlc:lc (C++[(Kd.l,r.map stT)]) C.length=some (r.map stT):=gL.mpr (by simp);unfold nP
  refine fN.mpr (tK.mpr (fD.mpr ⟨_,rfl,fG.mpr (fP.mpr ?_)⟩))
  refine fD.mpr ⟨_,rfl,iR.mpr (kY.mpr ⟨stT s::os.map stT,rfl,stT s,wH,?_⟩)⟩
  refine fM.mpr ⟨_,rfl,by rw[hlc];rfl,_,hlc,tE.mpr ⟨by simp[lim];lia,?_⟩⟩
  have es:(C++[(Kd.l,r.map stT)]).set C.length (Kd.l,r.map stT++[stT s])=C++[(Kd.l,(r++[s]).map stT)]:=by
   rw[b8 _ _ (bI _),dB,bS];rfl
  rw[es]
  refine f7.mpr (gB.mpr (jI.mpr (fG.mpr (fP.mpr (fP.mpr ?_)))))
  refine fD.mpr ⟨_,rfl,iR.mpr (kY.mpr ⟨stT s::os.map stT,rfl,stT s,wH,?_⟩)⟩
  refine iR.mpr (kY.mpr ⟨[.int s.1,.int s.2],rfl,.int s.2,rfl,fG.mpr ?_⟩)
  refine fD.mpr ⟨_,rfl,fM.mpr ⟨rfl,?_⟩⟩
  refine rD (v:=s.2) (e' _) F.nd F.len (gD.mpr ⟨(ρ 1 - ρ s.2).toNat,by lia,r++[s],s.2,rfl,rfl,SW.snoc h1 hs1,.inr ⟨by simp,x,hx,by rw[hxs],hxp⟩,fun z hz=>?_,?_,fun z hz=>?_,?_,hrk1,by lia⟩)
  ·rcases bM.mp hz with hz|hz
   ·exact h3 z hz
   ·have:z=s:=by simpa using hz
    subst this
    exact⟨by rw[<-hxs];exact cT hx,by rw[<-hxs,aCS F.nd hx];exact hxp⟩
  ·refine dR.mpr ⟨h4,by simp,fun y hy z hz=>?_⟩
   have:z=s:=by simpa using hz
   subst this;rintro rfl;have:=h5 y hy;rw[hs1]at this;lia
  ·rcases bM.mp hz with hz|hz
   ·have:=h5 z hz;lia
   ·have:z=s:=by simpa using hz
    subst this;rw[hs1];exact hrk
  ·rw[bC];simp;lia
end Lib
namespace Lib
open PySem L2 TL NF
variable{r:List (Nat×Nat)}{L:NF.Fl}
theorem aIw{α β:Type}{g:α->β}:∀{l:List α},TL.od (l.map g)=(NF.od l).map g
 | []=>by simp[TL.od,NF.od]
 | [_]=>by simp[TL.od,NF.od]
 |a::b::r=>by
  have ih:=aIw (g:=g) (l:=r);simp only[aM,TL.od,NF.od];rw[ih]
theorem aH6{α:Type}:∀{l:List α},(NF.od l).length<=l.length
 | []=>by simp[NF.od]
 | [_]=>by simp[NF.od]
 |a::b::r=>by
  have ih:=aH6 (l:=r);simp only[NF.od,aN]
  lia
theorem aB3{C:Sto}{rc:Nat}{is:List Nat}(e:C[rc]?=some (.l,r.map stT))(hl:r.length<1000)(hi:NF.od r=is.map stw){Q:T->Sto->Prop}(q:Q (.lst (is.map fun i:Nat=>T.int (i:Int))) C):wpO (oS [.cell rc] C) Q:=by
 have hil:is.length<1000:=by
  have h1:=aH6 (l:=r);rw[hi,aR]at h1
  lia
 refine i6 ?_
 unfold yJ;walk_at "b"
 refine iH.mpr (gC.mpr (j8.mpr (gC.mpr (aJI.mpr (fD.mpr ⟨_,rfl,_,gL.mpr e,?_⟩)))))
 rw[aIw,hi,cD]
 refine⟨_,rfl,by simp[lim];lia,?_⟩
 refine iB (xs:=is) (en:=stT ∘ stw) (fun i:Nat=>T.int (i:Int)) (fun i _=>?_) q
 refine xE.mpr ⟨_,rfl,rfl,?_⟩
 refine gF.mpr (fG.mpr (fD.mpr ⟨.int ((2*i+2:Nat):Int),rfl,fM.mpr ?_⟩))
 rw[show((2*i+2:Nat):Int)=2*(i:Int)+2 by lia]
 exact(gA aDL rfl rfl).mpr ⟨rfl,rfl⟩
theorem v8{x:Int}:∀{r:List (Nat×Nat)}{L:NF.Fl},tks x r L=L.map fun e=>(e.1,e.2 - x*(r.count e.1:Int))
 | [],L=>by simp[tks]
 |s::r,L=>by
  unfold tks;rw[v8];unfold tk;rw[cD];apply cS;intro e _;simp only[dO];by_cases h:e.1=s
  ·rw[if_pos h];dsimp only;rw[h,List.count_cons_self,aPL,aQd,aP9];congr 1;lia
  ·rw[if_neg h,List.count_cons_of_ne (Ne.symm h)]
theorem Flw.take{a:Int}{ρ:Nat->Int}(F:Flw L a ρ){x:Int}(w:SW r 0 1)(hn:r.Nodup)(hx:∀s∈r,s∈L.map (·.1)/\x<=at_ L s):Flw (tks x r L) (a - x) ρ:=by
 have key:∀e'∈tks x r L,∃e∈L,e.1=e'.1/\e'.2=e.2 - x*(r.count e.1:Int):=fun e' he=>by
  rw[v8]at he;obtain⟨e,h1,rfl⟩:=bL.mp he
  exact⟨e,h1,rfl,rfl⟩
 refine⟨F.con.take F.nd (fun s hs=>(hx s hs).1) w,fun e' he=>?_,by rw[oA];exact F.nd,fun e' he=>?_,fun e' he=>?_,fun e' he=>?_,fun e' he=>?_,F.small,F.le,?_⟩
 ·obtain⟨e,h1,h2,h3⟩:=key e' he;have h4:=F.nn e h1;rw[h3];by_cases hs:e.1∈r
  ·rw[hn.count,if_pos hs];have:=(hx e.1 hs).2;rw[aCS F.nd h1]at this;simp;lia
  ·rw[aPA.mpr hs];simp;exact h4
 ·obtain⟨e,h1,h2,h3⟩:=key e' he;rw[<-h2];exact F.hz e h1
 ·obtain⟨e,h1,h2,h3⟩:=key e' he;rw[<-h2];exact F.rk e h1
 ·obtain⟨e,h1,h2,h3⟩:=key e' he;rw[<-h2];exact F.h1 e h1
 ·obtain⟨e,h1,h2,h3⟩:=key e' he;rw[<-h2];exact F.h0 e h1
 ·rw[v8,aR];exact F.len
theorem Flw.le_a{a:Int}{ρ:Nat->Int}(F:Flw L a ρ){e:(Nat×Nat)×Int}(he:e∈L):e.2<=a:=
 aKE F.con F.nn ρ F.rk he (by have:=F.rk e he;have:=F.h0 e he;lia) (F.h1 e he)
theorem aNW{s:Nat×Nat}(h:s∉L.map (·.1)):at_ L s=0:=by
 rw[<-rN];cases e:lk L s with
 |none=>rfl
 |some v=>exact absurd (oY.mp (by rw[e];rfl)) h
theorem Flw.zero{a:Int}{ρ:Nat->Int}(F:Flw L a ρ)(ha:a<=0)(s:Nat×Nat):at_ L s=0:=by
 by_cases h:s∈L.map (·.1)
 ·obtain⟨e,he,rfl⟩:=bL.mp h;rw[aCS F.nd he];have:=F.le_a he;have:=F.nn e he
  lia
 ·exact aNW h
end Lib
namespace Lib
open PySem L2 TL NF
variable{L:NF.Fl}{s:Nat×Nat}
theorem aHj{s:Nat×Nat}{v:Int}:∀{L:NF.Fl},(ad s v L).length<=L.length+1
 | []=>by simp[ad]
 |e::L=>by
  have:=aHj (s:=s) (v:=v) (L:=L);unfold ad;split<;>simp<;>lia
theorem v6{N:Nt}{f:Nat->Int}:∀{k:Nat},(stp N f k).length<=k
 |0=>by simp[stp]
 |k+1=>by
  have h1:=v6 (N:=N) (f:=f) (k:=k);have h2:=aHj (s:=(N.t k,N.h k)) (v:=f k) (L:=stp N f k);unfold stp;lia
theorem aJq:((lk L s).map T.int).getD (.int 0)=.int (at_ L s):=by
 rw[<-rN];cases lk L s<;>rfl
theorem zV{α:Type}{p q:α->Bool}:∀{l:List α},(∀e∈l,q e=true->p e=true)->(l.filter q).length<=(l.filter p).length/\((∃e∈l,p e=true/\q e=false)->(l.filter q).length<(l.filter p).length)
 | [],_=>⟨bI _,fun⟨e,he,_⟩=>by cases he⟩
 |a::l,h=>by
  obtain⟨h1,h2⟩:=zV (p:=p) (q:=q) (l:=l) fun e he=>h e (aZ _ he)
  have h3:=h a bF;rw[aO6,aO6];cases hq:q a<;>cases hp:p a
  ·simp only[b9,if_false]
   refine⟨h1,fun⟨e,he,e1,e2⟩=>?_⟩
   rcases bE.mp he with rfl|he
   ·rw[hp]at e1;cases e1
   ·exact h2 ⟨e,he,e1,e2⟩
  ·simp only[b9,if_false,if_true,aN]
   exact⟨by lia,fun _=>by lia⟩
  ·rw[h3 hq]at hp;cases hp
  ·simp only[if_true,aN]
   refine⟨by lia,fun⟨e,he,e1,e2⟩=>?_⟩
   rcases bE.mp he with rfl|he
   ·rw[hq]at e2;cases e2
   ·have:=h2 ⟨e,he,e1,e2⟩;lia
noncomputable def posn(L:NF.Fl):Nat:=(L.filter fun e=>decide (0<e.2)).length
theorem aFa{r:List (Nat×Nat)}{x:Int}(hn:(L.map (·.1)).Nodup)(hr:r.Nodup)(hx:0<x)(hs:s∈r)(hk:s∈L.map (·.1))(he:at_ L s=x):posn (tks x r L)<posn L:=by
 unfold posn;rw[v8,List.filter_map,aR]
 refine(zV fun e hel h=>?_).2 ?_
 ·simp only[dO,decide_eq_true_eq]at h|-;have:0<=x*(r.count e.1:Int):=dP (by lia) (by lia)
  lia
 ·obtain⟨e,h1,rfl⟩:=bL.mp hk;rw[aCS hn h1]at he
  refine⟨e,h1,decide_eq_true (by lia),?_⟩
  simp only[dO,decide_eq_false_iff_not];rw[hr.count,if_pos hs,he];simp
structure xM(n:Nat)(es:List (Nat×Nat))(L0:NF.Fl)(a0:Int)(rl:List (Nat×Int×List Nat))(L:NF.Fl)(a:Int):Prop where
 ok:∀z∈rl,1<=z.2.1/\z.2.2≠[]/\(∀i∈z.2.2,i<n)/\NF.Chn es none z.2.2/\∀i,z.2.2.count i<=1
 sum:(rl.map fun z=>z.2.1).sum=a0 - a
 thr:∀i,(rl.map fun z=>z.2.1*(z.2.2.count i:Int)).sum=at_ L0 (stw i) - at_ L (stw i)
noncomputable def aA6(z:Nat×Int×List Nat):Cl:=(.l,.int z.2.1::z.2.2.map fun i:Nat=>T.int (i:Int))
theorem aFs{N:Nt}{f:Nat->Int}{c n:Nat}{es:List (Nat×Nat)}{pl a0:Int}{ρ:Nat->Int}{C:Sto}(A:iM N f c pl C)(hm:N.m<40000)(F0:Flw (stp N f N.m) a0 ρ)(hky:∀s∈(stp N f N.m).map (·.1),Ky n es s)(ha0:0<=a0)(hab:a0<10^199){Q:T->Sto->Prop}
 (q:∀rl rw C',rl.length<=N.m->xM n es (stp N f N.m) a0 rl [] 0->C'[rw]?=some (.l,rl.map fun z=>.cell z.1)->(∀z∈rl,C'[z.1]?=some (aA6 z))->Q (.cell rw) C'):wpO (mU [.cell c] C) Q:=by
 have hlen:=A.len;have hf:oG "Net" "pipes" C (.cell c)=some (.cell (c+1)):=lD A.net rfl
 refine i6 ?_
 unfold sQ;walk_at "b"
 refine fN.mpr (gB.mpr (aBQ.mpr (gD.mpr (f7.mpr (fN.mpr (nF.mpr ?_))))))
 have A1:∀x:Cl,iM N f c pl (C++[x]):=fun x=>A.app hlen
 have hl1:∀x:Cl,lc (C++[x]) (c+1)=some ((bK N.m).map fun j=>.cell (pc c (j,true))):=fun x=>gL.mpr (A1 x).lst
 refine fU (jM rfl (lD (A1 _).net rfl)) ⟨_,hl1 _,?_⟩
 refine jW (xs:=bK N.m) (en:=fun j=>T.cell (pc c (j,true))) (fun j τ C'=>∃x y,τ=[some (.cell c),some (.cell C.length),x,y,none,none]/\C'=C++[mN (stp N f j)]) ⟨_,_,rfl,rfl⟩ ?_ ?_
 ·rintro j k τ C' hj ⟨x,y,rfl,rfl⟩;have hk:k=j/\j<N.m:=by
   obtain⟨h1,h2⟩:=aP.mp hj;rw[aOp]at h2
   exact⟨h2.symm,by simpa using h1⟩
  obtain⟨rfl,hjm⟩:=hk;obtain⟨f1,f2,f3,f4,f5⟩:=(A1 (mN (stp N f k))).fld (o:=(k,true)) hjm;obtain⟨g1,g2,g3,g4,g5⟩:=(A1 (mN (stp N f k))).fld (o:=(k,false)) hjm;have eD:(C++[mN (stp N f k)])[C.length]?=some (mN (stp N f k)):=by simp
  have hsl:=v6 (N:=N) (f:=f) (k:=k);unfold qG
  refine gD.mpr (fN.mpr (gB.mpr (fL.mpr (fG.mpr ?_))))
  refine fU (jM (t:=.cell (pc c (k,true))) rfl f1) (fG.mpr ?_)
  refine fU (jM (t:=.cell (pc c (k,true))) rfl f2) (fM.mpr ⟨by simp[lim],gD.mpr (f7.mpr ?_)⟩)
  refine aCl (fP.mpr (aFu (fD.mpr ⟨_,rfl,by unfold isDc;rw[aId (.inl eD)];simp,fD.mpr ⟨stT (N.t k,N.h k),rfl,iR.mpr ⟨_,vL (.inl eD),?_⟩⟩⟩)))
  rw[aJq]
  refine aBk.mpr (aBk.mpr (fD.mpr ⟨_,rfl,_,f5,_,g4,jH.mpr ?_⟩))
  refine fD.mpr ⟨_,rfl,fD.mpr ⟨stT (N.t k,N.h k),rfl,_,aEj eD (by simp[lim];lia),?_,_,_,rfl,?_⟩⟩
  ·show lc _ (c+1)=_;rw[gL,aS (by lia)];exact(A1 _).lst
  ·rw[b8 _ _ (bI _),dB];show C++[mN (mL (stp N f k) (N.t k,N.h k) (at_ (stp N f k) (N.t k,N.h k)+rr N f (k,false)))]=_;rw[show rr N f (k,false)=f k from rfl,aEL tS];rfl
 ·rintro τ C' ⟨x,y,rfl,rfl⟩;rw[aOZ];have eD:∀z:Cl,(C++[mN (stp N f N.m)]++[z])[C.length]?=some (mN (stp N f N.m)):=fun z=>by simp
  refine f7.mpr (fN.mpr (gB.mpr (j7.mpr (iQ.mpr (fM.mpr ⟨by decide,?_⟩)))))
  refine gD.mpr (f7.mpr (fN.mpr (gB.mpr (jI.mpr (fG.mpr ?_)))))
  refine fD.mpr ⟨_,rfl,fM.mpr ⟨rfl,xD F0 (eD _) fun r0 hr0=>?_⟩⟩
  refine gD.mpr (f7.mpr (fN.mpr ?_))
  refine wS (fun m τ C'=>∃rl L a r rc x y,τ=[some (.cell c),some (.cell C.length),x,y,some (.cell (C.length+1)),some (.cell rc)]/\C'[C.length]?=some (mN L)/\C'[C.length+1]?=some (.l,rl.map fun z=>.cell z.1)/\C'[rc]?=some (.l,r.map stT)/\C.length+1<rc/\
   (∀z∈rl,C.length+1<z.1/\C'[z.1]?=some (aA6 z))/\rl.length+posn L<=N.m/\Flw L a ρ/\L.map (·.1)=(stp N f N.m).map (·.1)/\xM n es (stp N f N.m) a0 rl L a/\((r=[]/\a<=0)\/(r≠[]/\SW r 0 1/\r.Nodup/\r.length<1000/\∀s∈r,s∈L.map (·.1)/\0<at_ L s))/\0<=a/\a<=(m:Int)) (m:=a0.toNat) ?_ ?_ ?_
  ·have:a0.toNat<10^199:=by lia
   exact bP this (aOD (by decide) (by decide))
  ·refine⟨[],stp N f N.m,a0,r0,C.length+2,x,y,by simp,?_,?_,?_,by lia,by simp,?_,F0,rfl,⟨by simp,by simp,by simp⟩,hr0,ha0,by lia⟩
   ·rw[aY (by simp)];exact eD _
   ·rw[cJ,cJ,bH (by lia),show C.length+1 - C.length=1 by lia];rfl
   ·rw[cJ,cJ,bH (by lia),show C.length+2 - C.length=2 by lia];rfl
   ·have h1:posn (stp N f N.m)<=(stp N f N.m).length:=aOx _ _;have h2:=v6 (N:=N) (f:=f) (k:=N.m);simp;lia
  rintro m τ C' ⟨rl,L,a,r,rc,x,y,rfl,e1,e2,e3,hrc,hrows,hpos,F,hkeys,RO,hr,ha,hms⟩
  refine jY.mpr (fD.mpr ⟨_,rfl,!(r.map stT).isEmpty,by show(lc C' rc).map _=_;rw[gL.mpr e3];rfl,?_⟩)
  rcases hr with⟨rfl,hal⟩| ⟨hne,hsw,hrn,hrl,hrk⟩
  ·rw[if_neg (by simp)]
   refine f7.mpr (iH.mpr (fD.mpr ⟨_,rfl,q rl (C.length+1) C' (by lia) ⟨RO.ok,?_,fun i=>?_⟩ e2 fun z hz=>(hrows z hz).2⟩))
   ·rw[RO.sum];lia
   ·rw[RO.thr i,F.zero hal];rfl
  ·rw[if_pos (by cases r with|nil=>exact absurd rfl hne|cons s r=>rfl)];obtain⟨m1,m2⟩:=yN (ns:=r.map (at_ L)) (by rintro z;exact hne (aOL.mp z));generalize hx:uJ (r.map (at_ L))=v at m1 m2;obtain⟨s0,hs0,hs0v⟩:=bL.mp m1;have hv:0<v:=by rw[<-hs0v];exact(hrk s0 hs0).2
   have hle:∀s∈r,s∈L.map (·.1)/\v<=at_ L s:=fun s hs=>⟨(hrk s hs).1,m2 _ (cT hs)⟩
   have hva:v<=a:=by
    obtain⟨e,he,rfl⟩:=bL.mp (hrk s0 hs0).1;rw[<-hs0v,aCS F.nd he];exact F.le_a he
   have F':=F.take hsw hrn hle;have hkeys':(tks v r L).map (·.1)=(stp N f N.m).map (·.1):=by rw[oA];exact hkeys
   obtain⟨is,i1,i2,i3,i4,i5⟩:=aGp (n:=n) (es:=es) r none hsw fun s hs=>hky s (by rw[<-hkeys];exact(hrk s hs).1)
   have hpt:=aFa F.nd hrn hv hs0 (hrk s0 hs0).1 hs0v;have l1:=kD e1;have l2:=kD e2;have l3:=kD e3;have k3:(C'.set C.length (mN (tks v r L)))[rc]?=some (.l,r.map stT):=by rw[aS (by lia)];exact e3
   unfold pQ
   refine fN.mpr (tK.mpr (fD.mpr ⟨_,rfl,fG.mpr (j7.mpr (tN.mpr (gC.mpr (iQ.mpr (fG.mpr (jI.mpr (fG.mpr ?_)))))))⟩))
   refine fD.mpr ⟨_,rfl,fG.mpr (fD.mpr ⟨_,rfl,fM.mpr ⟨rfl,aBW e1 e3 F.nd F.len hne hrl (fun s hs=>(hrk s hs).1) ?_⟩⟩)⟩
   rw[hx]
   refine fM.mpr ⟨by simp[lim],jI.mpr (fG.mpr (fD.mpr ⟨_,rfl,fM.mpr ⟨rfl,aB3 k3 hrl i1 ?_⟩⟩))⟩
   have hil:is.length<1000:=by
    have h1:=aH6 (l:=r);rw[i1,aR]at h1
    lia
   refine vW.mpr ⟨_,rfl,_,rfl,by simp[lim];lia,fM.mpr ⟨_,rfl,by rw[gL.mpr e2];rfl,_,gL.mpr (?_ :_=some (Kd.l,rl.map fun z=>T.cell z.1)),tE.mpr ⟨by simp[lim];lia,?_⟩⟩⟩
   ·rw[aY (by rw[cL];exact l2),aS (by lia)];exact e2
   generalize hC2:(C'.set C.length (mN (tks v r L))++[(Kd.l,[T.int v]++is.map fun i:Nat=>T.int (i:Int))]).set (C.length+1) (Kd.l,(rl.map fun z=>T.cell z.1)++[T.cell (C'.set C.length (mN (tks v r L))).length])=C2;have lC2:C2.length=C'.length+1:=by rw[<-hC2];simp
   have old:∀i,i<C'.length->i≠C.length->i≠C.length+1->C2[i]?=C'[i]?:=fun i hi h1 h2=>by
    rw[<-hC2,aS (Ne.symm h2),aY (by rw[cL];exact hi),aS (Ne.symm h1)]
   have c1:C2[C.length]?=some (mN (tks v r L)):=by
    rw[<-hC2,aS (by lia),aY (by rw[cL];exact l1)];exact mM l1
   have c2:C2[C.length+1]?=some (Kd.l,(rl++[(C'.length,v,is)]).map fun z=>T.cell z.1):=by
    rw[<-hC2,bO (by simp;lia),bS,cL];rfl
   have c3:C2[C'.length]?=some (aA6 (C'.length,v,is)):=by
    rw[<-hC2,aS (by lia),bH (by simp)];simp[aA6]
   refine f7.mpr (gB.mpr (jI.mpr (fG.mpr (fD.mpr ⟨_,rfl,fM.mpr ⟨rfl,xD F' c1 fun r2 hr2=>?_⟩⟩))))
   refine gD.mpr ⟨(a - v).toNat,by lia,rl++[(C'.length,v,is)],tks v r L,a - v,r2,C2.length,x,y,rfl,?_,?_,?_,by lia,fun z hz=>?_,?_,F',hkeys',⟨fun z hz=>?_,?_,fun i=>?_⟩,hr2,by lia,by lia⟩
   ·rw[aY (by lia)];exact c1
   ·rw[aY (by lia)];exact c2
   ·simp
   ·rcases bM.mp hz with hz|hz
    ·obtain⟨g1,g2⟩:=hrows z hz
     refine⟨g1,?_⟩
     rw[aY (by have:=kD g2;lia),old _ (kD g2) (by lia) (by lia)];exact g2
    ·have:z=(C'.length,v,is):=by simpa using hz
     subst this
     refine⟨by show C.length+1<C'.length;lia,?_⟩
     rw[aY (by show C'.length<C2.length;lia)];exact c3
   ·rw[bC];simp;lia
   ·rcases bM.mp hz with hz|hz
    ·exact RO.ok z hz
    ·have:z=(C'.length,v,is):=by simpa using hz
     subst this
     refine⟨by show 1<=v;lia,i4 rfl,i2,i3,fun i=>?_⟩
     show is.count i<=1;rw[<-i5 i];exact aPp.mp hrn _
   ·rw[bS,aOJ,RO.sum];simp;lia
   ·rw[bS,aOJ,RO.thr i,aGC (fun s hs=>(hrk s hs).1)];have:=i5 i;simp;rw[this];lia
end Lib
namespace Lib
open PySem L2 TL
variable{G:FS}{Q:Fl->TSt->Sto->Prop}{ga:FB}{i u z:Int}{ns:List Int}
def Nb(n:Int):Prop:=0<=n/\n<2^140
def uH(w:Int×Int×Int):Prop:=0<=w.2.1/\w.2.1<=w.1/\0<=w.2.2/\w.1<2^252/\w.2.2<2^252
def aAI(w:Int×Int×Int):Prop:=0<=w.2.1/\w.2.1<=w.1/\0<=w.2.2/\w.1<2^240/\w.2.2<2^240
theorem aAI.b{w:Int×Int×Int}(h:aAI w):uH w:=⟨h.1,h.2.1,h.2.2.1,aOw h.2.2.2.1 (by decide),aOw h.2.2.2.2 (by decide)⟩
theorem sqP{F:FS}{τ:TSt}{C:Sto}(P:TSt->Sto->Prop)(h1:wpS F τ C fun l τ1 C1=>l=.nx/\P τ1 C1)(h2:∀τ1 C1,P τ1 C1->wpS G τ1 C1 Q):wpS (fO F G) τ C Q:=by
 obtain⟨l,τ1,C1,e,rfl,p⟩:=h1;obtain⟨l2,τ2,C2,e2,q⟩:=h2 τ1 C1 p
 exact fN.mpr ⟨_,_,_,e,l2,τ2,C2,e2,q⟩
theorem ifF{F:FS}{τ:TSt}{C:Sto}(h1:wpB ga τ C fun x C1=>x=false/\C1=C)(h2:wpS G τ C Q):wpS (fIf ga F G) τ C Q:=by
 obtain⟨x,C1,e,rfl,rfl⟩:=h1
 exact iY.mpr ⟨_,_,e,h2⟩
theorem ifT{F:FS}{τ:TSt}{C:Sto}(h1:wpB ga τ C fun x C1=>x=true/\C1=C)(h2:wpS F τ C Q):wpS (fIf ga F G) τ C Q:=by
 obtain⟨x,C1,e,rfl,rfl⟩:=h1
 exact iY.mpr ⟨_,_,e,h2⟩
theorem sqA{a:FE}{i:Nat}{t:T}{τ:TSt}{C:Sto}(h1:wpE a τ C fun x C1=>x=t/\C1=C)(h2:wpS G (τ.set i (some t)) C Q):wpS (fO (fY a (gN i)) G) τ C Q:=by
 obtain⟨x,C1,e,rfl,rfl⟩:=h1
 exact fN.mpr (gB.mpr ⟨_,_,e,gD.mpr (f7.mpr h2)⟩)
theorem aFl{a b c k:Int}(ha:Sm a)(hb:Sm b)(hc:Sm c)(hu:0<=u)(hu2:u<=2^100):∃t,aBy [.int a,.int b,.int c,.int k,.int u]=some t/\∃w,t=w3 w/\aAI w:=by
 apply lR;unfold aET;have au:0<=a*u:=dP ha.1 hu;have bu:0<=b*u:=dP hb.1 hu;have cu:0<=c*u:=dP hc.1 hu;have au2:a*u<=2147483587*2^100:=aOS (aPa ha.2) hu2 hu (by decide);have bu2:b*u<=2147483587*2^100:=aOS (aPa hb.2) hu2 hu (by decide);have cu2:c*u<=2147483587*2^100:=aOS (aPa hc.2) hu2 hu (by decide);have e5:=i0 (x:=a) (m:=5) (by decide);have e97:=i0 (x:=b) (m:=97) (by decide);have e6:=i0 (x:=b) (m:=6) (by decide);have e3:=i0 (x:=b) (m:=3) (by decide);have e50:=i0 (x:=b/3) (m:=50) (by decide);have ec5:=i0 (x:=c) (m:=5) (by decide);have e89:=i0 (x:=a) (m:=89) (by decide);have h0:Nb 0:=⟨by decide,by decide⟩;have h1:Nb (a%5):=⟨e5.1,by lia⟩;have h2:Nb (a*u+b%97):=⟨by lia,by lia⟩;have m1:Nb (b%6):=⟨e6.1,by lia⟩;have m2:Nb (b*u*(if decide (0<b%4)=true then 1 else 0)):=by split<;>exact⟨by lia,by lia⟩
 have m3:Nb (b%3*(b/3%50)):=⟨dP e3.1 e50.1,by
  have:b%3*(b/3%50)<=3*50:=aOS (by lia) (by lia) e50.1 (by decide)
  lia⟩
 have p1:Nb (c%5):=⟨ec5.1,by lia⟩;have p2:Nb (c*u+a%89):=⟨by lia,by lia⟩;have hq:=i0 (x:=c/64) (m:=4) (by lia);obtain⟨z,ez,p3⟩:∃z:Int,atI [T.int 0,T.int 3,T.int 3,T.int (1+c%40)] (c/64%4)=some (.int z)/\Nb z:=by
  obtain⟨t,ht,et⟩:=aBu (xs:=[T.int 0,T.int 3,T.int 3,T.int (1+c%40)]) hq.1 (by simpa using hq.2);have:=i0 (x:=c) (m:=40) (by decide);simp only[bE,cA,or_false]at ht;rcases ht with rfl|rfl|rfl|rfl
  ·exact⟨0,et,by decide,by decide⟩
  ·exact⟨3,et,by decide,by decide⟩
  ·exact⟨3,et,by decide,by decide⟩
  ·exact⟨_,et,by lia,by lia⟩
 have fin:∀{l mq p:Int},Nb l->Nb mq->Nb p->∃t,dr 3 [] (T.lst [.int (l+mq),.int l,.int p])=some t/\∃w,t=w3 w/\aAI w:=fun {l mq p} h1 h2 h3=>⟨_,iE (by walk_at "c"),(l+mq,l,p),rfl,h1.1,by show l<=l+mq;have:=h2.1;lia,h3.1,by show l+mq<2^240;have:=h1.2;have:=h2.2;lia,by show p<2^240;have:=h3.2;lia⟩
 have k1:kA a u=true:=gG (ha.bt.mono (by decide));have k2:kA b u=true:=gG (hb.bt.mono (by decide));have k3:kA c u=true:=gG (hc.bt.mono (by decide));have k4:kA (b*u) (if decide (0<b%4)=true then 1 else 0)=true:=by split<;>walk_at "a"
 have k5:kA (b%3) (b/3%50)=true:=gG ((Bt.mod (k:=10) (by decide) (by decide)).mono (by decide));walk_at "b"
 refine sqP (fun τ C=>C=[]/\τ=[some (.int a),some (.int b),some (.int c),some (.int k),some (.int u),some (.int (a%5)),none,none]) (by simp_arith[↓fK,↓fL];decide) ?_
 rintro _ _ ⟨rfl,rfl⟩
 refine sqP (fun τ C=>C=[]/\τ=[some (.int a),some (.int b),some (.int c),some (.int k),some (.int u),some (.int (a%5)),some (.int (b%6)),none]) (by simp_arith[↓fK,↓fL];decide) ?_
 rintro _ _ ⟨rfl,rfl⟩
 refine sqP (fun τ C=>C=[]/\τ=[some (.int a),some (.int b),some (.int c),some (.int k),some (.int u),some (.int (a%5)),some (.int (b%6)),some (.int (c%5))]) (by simp_arith[↓fK,↓fL];decide) ?_
 rintro _ _ ⟨rfl,rfl⟩
 refine sqP (fun τ C=>C=[]/\∃l m p,Nb l/\Nb m/\Nb p/\τ=[some (.int a),some (.int b),some (.int c),some (.int k),some (.int u),some (.int l),some (.int m),some (.int p)]) ?_ ?_
 ·by_cases hk:k=1
  ·refine ifT (by simp_arith[↓fK,↓fL];simp[hk]) ?_
   refine sqP (fun τ C=>C=[]/\τ=[some (.int a),some (.int b),some (.int c),some (.int k),some (.int u),some (.int (a*u+b%97)),some (.int (b%6)),some (.int (c%5))]) (by simp_arith[↓fK,↓fL];exact⟨k1,by decide⟩) ?_
   rintro _ _ ⟨rfl,rfl⟩
   refine sqP (fun τ C=>C=[]/\τ=[some (.int a),some (.int b),some (.int c),some (.int k),some (.int u),some (.int (a*u+b%97)),some (.int (b*u*(if decide (0<b%4)=true then 1 else 0))),some (.int (c%5))]) (by simp_arith[↓fK,↓fL];exact⟨k2,by decide,k4⟩) ?_
   rintro _ _ ⟨rfl,rfl⟩;simp_arith[↓fK,↓fL]
   exact⟨k3,by decide,_,h2,_,m2,_,p2,rfl⟩
  ·exact ifF (by simp_arith[↓fK,↓fL];simp[hk]) (gM.mpr ⟨rfl,rfl,_,_,_,h1,m1,p1,rfl⟩)
 rintro _ _ ⟨rfl,l,m,p,hl,hm,hp,rfl⟩
 refine sqP (fun τ C=>C=[]/\∃l m p,Nb l/\Nb m/\Nb p/\τ=[some (.int a),some (.int b),some (.int c),some (.int k),some (.int u),some (.int l),some (.int m),some (.int p)]) ?_ ?_
 ·by_cases hk:k=2
  ·refine ifT (by simp_arith[↓fK,↓fL];simp[hk]) ?_
   refine sqP (fun τ C=>C=[]/\τ=[some (.int a),some (.int b),some (.int c),some (.int k),some (.int u),some (.int l),some (.int (b%3*(b/3%50))),some (.int p)]) (by simp_arith[↓fK,↓fL];exact⟨by decide,by decide,by decide,k5⟩) ?_
   rintro _ _ ⟨rfl,rfl⟩;simp_arith[↓fK,↓fL,↓fS ez]
   exact⟨by decide,by decide,by decide,by decide,_,hl,_,m3,_,p3,rfl⟩
  ·exact ifF (by simp_arith[↓fK,↓fL];simp[hk]) (gM.mpr ⟨rfl,rfl,_,_,_,hl,hm,hp,rfl⟩)
 rintro _ _ ⟨rfl,l,m,p,hl,hm,hp,rfl⟩
 refine sqP (fun τ C=>C=[]/\∃l m p,Nb l/\Nb m/\Nb p/\τ=[some (.int a),some (.int b),some (.int c),some (.int k),some (.int u),some (.int l),some (.int m),some (.int p)]) ?_ ?_
 ·refine iY.mpr ?_
  simp_arith[↓fK,↓fL];split
  ·refine⟨by decide,?_⟩
   split
   ·exact⟨_,h0,_,hm,_,hp,rfl⟩
   ·exact⟨_,hl,_,hm,_,hp,rfl⟩
  ·exact⟨_,hl,_,hm,_,hp,rfl⟩
 rintro _ _ ⟨rfl,l,m,p,hl,hm,hp,rfl⟩;simp_arith[↓fK,↓fL]
 exact⟨by decide,fin hl hm hp⟩
def LotG(M:Nat)(t:T):Prop:=∃(ws:List (Int×Int×Int))(ps:List (Int×Int)),t=.tup [.lst (ws.map w3),.lst (ps.map pT)]/\ws.length<=M/\ps.length<=20/\(∀w∈ws,aAI w)/\∃rs,Rk ws.length rs/\∀p∈ps,Al rs p
theorem aFP{m M:Nat}(hu0:0<u)(hu:u<=10^20)(hm:m<=5)(hM:m<=M):∃t,m4 [.lst (ns.map T.int),.int m,.int u]=some t/\LotG M t:=by
 apply lR;unfold wI;walk_at "b";obtain⟨base,hbe,hb0,hb1⟩:∃base:Int,(if j0 ns 1/576%2=0 then(1:Int)else u*10^eL 9)=base/\0<base/\base<2^200:=by
  refine⟨_,rfl,?_⟩
  split
  ·decide
  ·rw[show(10:Int)^eL 9=1000000000 from rfl];lia
 have pick:∀k:Int,0<k->k<10->∃d:Int,atI [T.int k,T.int base] (if decide (1<base)=true then 1 else 0)=some (.int d)/\0<d/\d<2^200:=by
  intro k h1 h2;split
  ·exact⟨base,rfl,hb0,hb1⟩
  ·exact⟨k,rfl,h1,by lia⟩
 obtain⟨d5,e5,h5,h5'⟩:=pick 5 (by decide) (by decide);obtain⟨d6,e6,h6,h6'⟩:=pick 6 (by decide) (by decide);have k9:kA u (10^eL 9)=true:=gO (Bt.of_lt (by decide) (by decide))
 refine sqA (t:=.int base) (by
  simp_arith[↓fK,↓fL,↓m5,tP,hbe]
  exact⟨by decide,k9,by decide,by decide,by decide⟩) ?_
 dsimp only[cX]
 refine fN.mpr (gB.mpr (j7.mpr (iQ.mpr (fM.mpr ⟨by decide,gD.mpr (f7.mpr ?_)⟩))))
 dsimp only[cX,aX,aQ]
 refine fN.mpr (l7.mpr (fD.mpr ⟨_,rfl,_,rfl,by lia,lN (fun i τ C=>∃a b d e:Option T,τ=[some (.lst (ns.map T.int)),some (.int m),some (.int u),some (.int base),some (.cell 0),a,b,d,e,none,none,none]/\∃ws:List (Int×Int×Int),C=[(.l,ws.map w3)]/\ws.length=i/\∀w∈ws,aAI w) ⟨_,_,_,_,rfl,[],rfl,rfl,by simp⟩ ?_ ?_⟩))
 ·rintro i τ C hi ⟨_,_,_,_,rfl,ws,rfl,hws,hwo⟩;have h3:0<=3+(0+(i:Int)):=by lia
  unfold sI
  refine gD.mpr ?_
  dsimp only[cX]
  refine sqA (t:=.int (j0 ns (3+(0+(i:Int))))) (by simp_arith[↓fK,↓fL,↓m5]) ?_
  dsimp only[cX];generalize j0 ns (3+(0+(i:Int)))=z;have a1:=i0 (x:=z) h5;have a2:=i0 (x:=z/d5) h6;have a3:=i0 (x:=z/d5/d6) h5
  refine sqA (t:=.int (z%d5)) (by simp_arith[↓fK,↓fL,↓fS e5];walk_at "a") ?_
  dsimp only[cX];generalize z%d5=z1 at a1
  refine sqA (t:=.int (z/d5)) (by simp_arith[↓fK,↓fL,↓fS e5];walk_at "a") ?_
  dsimp only[cX]
  refine sqA (t:=.int (z/d5%d6)) (by simp_arith[↓fK,↓fL,↓fS e6];walk_at "a") ?_
  dsimp only[cX];generalize z/d5%d6=z2 at a2
  refine sqA (t:=.int (z/d5/d6)) (by simp_arith[↓fK,↓fL,↓fS e6];walk_at "a") ?_
  dsimp only[cX];simp_arith[↓fK,↓fL,↓fS e5];generalize z/d5/d6%d5=z3 at a3
  refine⟨by decide,by walk_at "a",by decide,by walk_at "a",_,_,_,_,rfl,ws++[(z1+z2,z1,z3)],by rw[aKj],by simp[hws],fun w hw=>?_⟩
  rcases bM.mp hw with hw|hw
  ·exact hwo w hw
  ·rw[bR.mp hw]
   exact⟨a1.1,by show z1<=z1+z2;lia,a3.1,by show z1+z2<2^240;lia,by show z3<2^240;lia⟩
 rintro τ C ⟨_,_,_,_,rfl,ws,rfl,hws,hwo⟩;simp only[cE]at hws
 refine f7.mpr (sqA (t:=.int (j0 ns 2)) (by simp_arith[↓fK,↓fL,↓m5]) ?_)
 dsimp only[cX]
 refine fN.mpr (gB.mpr (j7.mpr (iQ.mpr (fM.mpr ⟨by decide,gD.mpr (f7.mpr ?_)⟩))))
 dsimp only[cX,aV,aX,aQ,aN]
 refine fN.mpr (l7.mpr (fD.mpr ⟨_,rfl,_,rfl,by lia,lN (fun i τ C=>∃(a b d:Option T)(z:Int),τ=[some (.lst (ns.map T.int)),some (.int m),some (.int u),some (.int base),some (.cell 0),a,some (.int z),b,d,some (.cell 1),none,none]/\∃rs:List Int,C=[(.l,ws.map w3),(.l,rs.map T.int)]/\Rk i rs) ⟨_,_,_,_,rfl,[],rfl,⟨rfl,.nil,by simp⟩⟩ ?_ ?_⟩))
 ·rintro i τ C hi ⟨_,_,_,z,rfl,rs,rfl,hr⟩;have hlen:=hr.len;have b2:=i0 (x:=z) (m:=0+(i:Int)+1) (by lia);unfold rV;simp_arith[↓fK,↓fL];generalize z%(0+(i:Int)+1)=q at b2
  refine⟨by walk_at "a",⟨by walk_at "a",by lia,by lia⟩,kI ⟨by lia,by lia⟩,_,_,_,_,rfl,insAt rs q (i:Int),by rw[dW,<-uE],hr.ins⟩
 rintro τ C ⟨_,_,_,z,rfl,rs,rfl,hr⟩;have hrk:Rk m rs:=by simpa using hr
 have hlen:=hrk.len
 refine f7.mpr (fN.mpr (gB.mpr (j7.mpr (iQ.mpr (fM.mpr ⟨by decide,gD.mpr (f7.mpr ?_)⟩)))))
 dsimp only[cX,aV,aX,aQ,aN]
 refine fN.mpr (l7.mpr (fD.mpr ⟨_,rfl,_,rfl,by lia,lN (fun i τ C=>∃(a b d e:Option T)(z:Int),τ=[some (.lst (ns.map T.int)),some (.int m),some (.int u),some (.int base),some (.cell 0),a,some (.int z),b,d,some (.cell 1),some (.cell 2),e]/\∃ps:List (Int×Int),C=[(.l,ws.map w3),(.l,rs.map T.int),(.l,ps.map pT)]/\ps.length<=i*4/\∀p∈ps,Al rs p) ⟨_,_,_,_,_,rfl,[],rfl,by simp,by simp⟩ ?_ ?_⟩))
 ·rintro k τ C hk ⟨_,_,_,_,z,rfl,ps,rfl,hps,hal⟩;have hk:k<m:=by lia
  unfold sH;simp_arith[↓fK,↓fL];rw[yB]
  refine jW (fun j τ C=>∃(b d e:Option T)(z:Int),τ=[some (.lst (ns.map T.int)),some (.int m),some (.int u),some (.int base),some (.cell 0),some (.int (0+(k:Int))),some (.int z),b,d,some (.cell 1),some (.cell 2),e]/\∃ps:List (Int×Int),C=[(.l,ws.map w3),(.l,rs.map T.int),(.l,ps.map pT)]/\ps.length<=k*4+j/\∀p∈ps,Al rs p) ⟨_,_,_,_,rfl,ps,rfl,hps,hal⟩ ?_ ?_
  ·rintro j x τ C hj ⟨_,_,_,z,rfl,ps,rfl,hps,hal⟩;rw[aE3 (by lia),show(0+(k:Int)).toNat=k by lia]at hj;obtain⟨hj1,hj2⟩:=aP.mp hj;have hjk:j<k:=by simp at hj1;lia
   rw[List.getElem_take]at hj2;have e1:=yG (ns:=rs) (i:=0+(k:Int)) (by lia) (by lia);unfold rW;simp_arith[↓fK,↓fL,↓fS e1]
   refine⟨by walk_at "a",?_⟩
   split
   ·refine⟨by walk_at "a",by walk_at "a",by decide,trivial,_,_,_,_,rfl,_,by rw[aKI],by simp;lia,fun p hp=>?_⟩
    rcases bM.mp hp with hp|hp
    ·exact hal p hp
    ·rw[bR.mp hp]
     exact⟨j,k,hjk,by rw[<-hj2];exact bA (by lia),by rw[bA (by lia)];congr 2;lia⟩
   ·exact⟨by decide,trivial,_,_,_,_,rfl,ps,rfl,by lia,hal⟩
  ·rintro τ C ⟨_,_,_,z,rfl,ps,rfl,hps,hal⟩;have:(wV rs none (some (0+(k:Int)))).length<=4:=by rw[aE3 (by lia),d4];lia
   exact⟨_,_,_,_,_,rfl,ps,rfl,by lia,hal⟩
 rintro τ C ⟨_,_,_,_,z,rfl,ps,rfl,hps,hal⟩;simp only[cE]at hps;simp_arith[↓fK,↓fL]
 refine⟨by walk_at "a",_,aL0 (us:=[.lst (ws.map w3),.lst (ps.map pT)]) (hJ (vS rfl nT) (hJ (aHp rfl) rfl)),ws,ps,rfl,by lia,by lia,hwo,rs,by rw[hws];exact hrk,hal⟩
theorem pick3{x y:Int}:∃t∈[x,y,z],atI [T.int x,T.int y,T.int z] (i%3)=some (.int t):=by
 have hq:=i0 (x:=i) (m:=3) (by decide);obtain⟨t,ht,et⟩:=aBu (xs:=[x,y,z]) hq.1 hq.2
 exact⟨t,ht,by rw[show[T.int x,T.int y,T.int z]=[x,y,z].map T.int from rfl,aBn,et];rfl⟩
theorem pick4{x y:Int}:∃t∈[x,y,z,u],atI [T.int x,T.int y,T.int z,T.int u] (i%4)=some (.int t):=by
 have hq:=i0 (x:=i) (m:=4) (by decide);obtain⟨t,ht,et⟩:=aBu (xs:=[x,y,z,u]) hq.1 hq.2
 exact⟨t,ht,by rw[show[T.int x,T.int y,T.int z,T.int u]=[x,y,z,u].map T.int from rfl,aBn,et];rfl⟩
theorem aJp(hl:ns.length<=63){M:Nat}(h4:4<=M)(h8:M<=8)(hu0:0<u)(hu:u<=10^20):∃t,aE0 [.lst (ns.map T.int),.int M,.int u]=some t/\LotG M t:=by
 obtain⟨_,e1,xs,rfl,hxl,hxs⟩:=aBJ hl;have w1:∀{C Q},wpO (jZ 1 l9 [.lst (ns.map T.int)] C) Q↔Q (.lst (xs.map T.int)) C:=gA e1 rfl (by walk_at "c");have xat:∀i:Int,0<=i->i<40->∃x,atI (xs.map T.int) i=some (.int x)/\Sm x:=fun i h1 h2=>⟨_,yG h1 (by lia),hxs _ (dG _)⟩
 apply lR;unfold aLq;walk_at "b"
 refine sqA (t:=.lst (xs.map T.int)) (by simp_arith[↓fK,↓fL,↓w1]) ?_
 dsimp only[cX]
 refine sqA (t:=.int (j0 ns 0)) (by simp_arith[↓fK,↓fL,↓m5]) ?_
 dsimp only[cX];generalize j0 ns 0=first
 have hq6:=i0 (x:=first/4) (m:=min 6 ((M:Int)+1)) (by lia)
 refine sqA (t:=.int (first/4%min 6 ((M:Int)+1))) (by simp_arith[↓fK,↓fL];exact⟨by decide,by walk_at "a"⟩) ?_
 dsimp only[cX];generalize first/4%min 6 ((M:Int)+1)=few at hq6
 obtain⟨z,hz,ez⟩:=pick4 (x:=0) (y:=0) (z:=1) (u:=2) (i:=first/4);have q2:=i0 (x:=first/4) (m:=3) (by decide);obtain⟨mi,hmi,em⟩:=pick4 (x:=few) (y:=(M:Int) - z) (z:=few) (u:=min (M:Int) (3+first/4%3)) (i:=first);simp only[bE,cA,or_false]at hz hmi;obtain⟨m,rfl,hm⟩:∃m:Nat,mi=m/\m<=M:=⟨mi.toNat,by lia,by lia⟩
 refine sqA (t:=.int m) (by simp_arith[↓fK,↓fL,↓fS ez,↓fS em];decide) ?_
 dsimp only[cX]
 refine sqA (t:=.int (j0 ns 1)) (by simp_arith[↓fK,↓fL,↓m5]) ?_
 dsimp only[cX];generalize j0 ns 1=c
 refine fN.mpr ?_
 by_cases hc:c/288%2=1
 ·refine ifT (by simp_arith[↓fK,↓fL,hc];decide) ?_
  obtain⟨k5,ek5,hk3,hk5⟩:∃k:Int,atI [T.int 5,T.int 3] (if decide ((M:Int)<5)=true then 1 else 0)=some (.int k)/\3<=k/\k<=5:=by
   split
   ·exact⟨3,rfl,by decide,by decide⟩
   ·exact⟨5,rfl,by decide,by decide⟩
  obtain⟨j,hj,hj5,hjm⟩:∃j:Nat,min (m:Int) k5=j/\j<=5/\j<=M:=⟨(min (m:Int) k5).toNat,by lia,by lia,by lia⟩;obtain⟨t,et,ws,ps,rfl,ht⟩:=aFP (ns:=ns) hu0 hu hj5 hjm;simp_arith[↓fK,↓fL,↓fS ek5,hj];rw[gA (n:=3) et rfl (by walk_at "c")]
  exact⟨by decide,_,iE (by rw[kU,fT,fT,g8,gJ,gJ,nT,kS];rfl),ws,ps,rfl,ht⟩
 refine ifF (by simp_arith[↓fK,↓fL,hc];decide) (gM.mpr (f7.mpr ?_))
 have hex:∀i:Nat,∃w:Int×Int×Int,i<m->(∃x y z:Int,atI (xs.map T.int) (0+(i:Int))=some (.int x)/\atI (xs.map T.int) (8+(0+(i:Int)))=some (.int y)/\atI (xs.map T.int) (16+(0+(i:Int)))=some (.int z)/\aBy [.int x,.int y,.int z,.int (c%4),.int u]=some (w3 w))/\aAI w:=by
  intro i;by_cases hi:i<m
  ·obtain⟨x,ex,sx⟩:=xat (0+(i:Int)) (by lia) (by lia);obtain⟨y,ey,sy⟩:=xat (8+(0+(i:Int))) (by lia) (by lia);obtain⟨z,ez,sz⟩:=xat (16+(0+(i:Int))) (by lia) (by lia);obtain⟨_,ew,w,rfl,hw⟩:=aFl (k:=c%4) (u:=u) sx sy sz (by lia) (by lia)
   exact⟨w,fun _=>⟨⟨x,y,z,ex,ey,ez,ew⟩,hw⟩⟩
  ·exact⟨(0,0,0),fun h=>absurd h hi⟩
 obtain⟨f,hf⟩:=aPY hex;obtain⟨x39,ex39,_⟩:=xat 39 (by decide) (by decide);obtain⟨_,en,rs,rfl,hrk⟩:=aFy (c:=x39) (m:=m) (by lia);have hlen:=hrk.len
 refine sqA (t:=.lst (((bK m).map f).map w3)) (gC.mpr (oZ.mpr (fD.mpr ⟨_,rfl,_,rfl,by lia,?_⟩))) ?_
 ·rw[pX,cE]
  refine iB (fun i=>w3 (f i)) (fun i hi=>?_) ⟨by rw[cD];rfl,rfl⟩
  have hi:i<m:=by simpa using hi
  obtain⟨⟨x,y,z,ex,ey,ez,ew⟩,hw⟩:=hf i hi;simp only[scT,aT,aM,bD,aX,aV,aW,b5,b7,cR];simp_arith[↓fK,↓fL,↓fS ex,↓fS ey,↓fS ez];rw[gA (n:=5) ew rfl (by walk_at "c")]
  exact⟨by decide,rfl,rfl⟩
 dsimp only[cX];have hwo:∀w∈(bK m).map f,aAI w:=fun w hw=>by
  obtain⟨i,hi,rfl⟩:=bL.mp hw
  exact(hf i (dA.mp hi)).2
 have hwl:((bK m).map f).length=m:=by simp
 generalize (bK m).map f=ws at hwo hwl
 refine sqA (t:=.lst (rs.map T.int)) (by simp_arith[↓fK,↓fL,↓fS ex39];rw[gA (n:=2) en rfl (by walk_at "c")];exact⟨rfl,rfl⟩) ?_
 dsimp only[cX]
 refine fN.mpr (gB.mpr (j7.mpr (iQ.mpr (fM.mpr ⟨by decide,gD.mpr (f7.mpr ?_)⟩))))
 dsimp only[cX,aX,aQ];have q4:=i0 (x:=c/4) (m:=4) (by decide)
 refine fN.mpr ?_
 simp_arith[↓fK,↓fL];generalize c/4%4=c4 at q4
 refine⟨by decide,by decide,by lia,lN (fun i τ C=>∃(a b d e:Option T),τ=[some (.lst (ns.map T.int)),some (.int M),some (.int u),some (.lst (xs.map T.int)),some (.int first),some (.int few),some (.int m),some (.int c),some (.lst (ws.map w3)),some (.lst (rs.map T.int)),some (.cell 0),a,b,d,e]/\∃ps:List (Int×Int),C=[(.l,ps.map pT)]/\ps.length<=i/\∀p∈ps,Al rs p) ⟨_,_,_,_,rfl,[],rfl,by simp,by simp⟩ ?_ ?_⟩
 ·rintro i τ C hi ⟨_,_,_,_,rfl,ps,rfl,hps,hal⟩;obtain⟨x,ex,sx⟩:=xat (24+(i:Int)) (by lia) (by lia);unfold aES
  refine gD.mpr ?_
  dsimp only[cX];by_cases h1:(1:Int)<m
  ·refine ifT (by simp_arith[↓fK,↓fL];exact kI h1) ?_
   have b1:=i0 (x:=x) (m:=(m:Int) - 1) (by lia)
   refine sqA (t:=.int (1+x%((m:Int) - 1))) (by simp_arith[↓fK,↓fL,↓fS ex];walk_at "a") ?_
   dsimp only[cX];generalize x%((m:Int) - 1)=y at b1;obtain⟨e3,he3,e3'⟩:=pick3 (x:=1) (y:=2) (z:=8) (i:=c/16);simp only[bE,cA,or_false]at he3;have b2:=i0 (x:=x/16) (m:=min (1+y) e3) (by lia)
   refine sqA (t:=.int (x/16%min (1+y) e3)) (by simp_arith[↓fK,↓fL,↓fS ex,↓fS e3'];exact⟨by decide,by decide,by decide,by decide,by walk_at "a"⟩) ?_
   dsimp only[cX];generalize x/16%min (1+y) e3=bk at b2;obtain⟨ia,hia,h0,hlt⟩:∃ia:Int,(if c/48%2=0 then 1+y - 1 - bk else bk)=ia/\0<=ia/\ia<1+y:=⟨_,rfl,by split<;>lia,by split<;>lia⟩
   refine sqA (t:=.int ia) (by simp_arith[↓fK,↓fL,tP,hia];decide) ?_
   dsimp only[cX];have b3:=i0 (x:=x/256) (m:=(ps.length:Int)+1) (by lia);simp_arith[↓fK,↓fL,↓fS ex,aR,↓fS (yG (ns:=rs) h0 (by lia)),↓fS (yG (ns:=rs) (i:=1+y) (by lia) (by lia))];generalize x/256%((ps.length:Int)+1)=at9 at b3
   refine⟨by decide,by walk_at "a",by decide,⟨by walk_at "a",by lia,by lia⟩,_,_,_,_,rfl,insAt ps at9 (_,_),by rw[<-uE];rfl,by rw[xG];lia,fun p hp=>?_⟩
   rcases bE.mp (u5.mem_iff.mp hp)with hp|hp
   ·rw[hp]
    exact⟨ia.toNat,(1+y).toNat,by lia,bA (by lia),bA (by lia)⟩
   ·exact hal p hp
  ·exact ifF (by simp_arith[↓fK,↓fL];simpa using h1) (gM.mpr ⟨trivial,_,_,_,_,rfl,ps,rfl,by lia,hal⟩)
 ·rintro τ C ⟨_,_,_,_,rfl,ps,rfl,hps,hal⟩;simp_arith[↓fK,↓fL,yB];have hcl:(wV ps (some (c/96%3)) none).length<=20:=cC aHM (by lia)
  refine⟨by decide,by decide,by decide,_,iE (by rw[kU,fT,fT,g8,gJ,gJ,nT,kS];rfl),ws,_,rfl,by lia,hcl,hwo,rs,by rw[hwl];exact hrk,fun p hp=>hal p (aHF hp)⟩
end Lib
namespace Lib
open PySem L2 TL NF
variable{ws:List (Int×Int×Int)}{ps:List (Int×Int)}{nd:List (List Int)}{bonus:Int}
theorem aEA{α:Type}{g:α->Int}{d:α}{ws:List α}:∀{k:Nat},k<=ws.length->sm k (fun i=>g ((ws[i]?).getD d))=((ws.take k).map g).sum
 |0,_=>by simp[sm]
 |k+1,hk=>by
  have ih:=aEA (g:=g) (d:=d) (ws:=ws) (k:=k) (by lia);show sm k _+g ((ws[k]?).getD d)=_;rw[ih,aOv,bA (by lia),eB,bS,aOJ];simp
theorem aKh{α:Type}{g:α->Int}{d:α}{ws:List α}:sm ws.length (fun i=>g ((ws[i]?).getD d))=(ws.map g).sum:=by rw[aEA (bI _),dH]
theorem aCh{n:Nat}{x:Int}:sm n (fun _=>x)=n*x:=by
 induction n with
 |zero=>simp[sm]
 |succ n ih=>show sm n _+x=_;rw[ih,aPL,aOE,aQe]
theorem yZ{P:Int×Int×Int->Prop}(h:∀w∈ws,P w){i:Nat}(hi:i<ws.length):P ((ws[i]?).getD (0,0,0)):=by
 rw[bA hi]
 exact h _ (dG hi)
theorem zR{m:Nat}(hw:InW m ps)(h:Nd ps m nd){e:Nat×Nat}(he:e∈jO 0 nd):((e.1:Int),(e.2:Int))∈ps/\e.1<m/\e.2<m:=by
 obtain⟨b,l,a,h1,h2,rfl⟩:=aHk he;have hp:=((h.2 b l h1).2 a).mp h2;have:=hw _ hp
 refine⟨?_,by show a.toNat<m;have:=this.1;dsimp only at this;lia,by show 0+b<m;have:=(aP.mp h1).1;rw[h.1]at this;lia⟩
 show((a.toNat:Int),((0+b:Nat):Int))∈ps;rw[dU,b4 this.1.1];exact hp
theorem aIp{m:Nat}(hw:InW m ps)(h:Nd ps m nd){p:Int×Int}(hp:p∈ps):(p.1.toNat,p.2.toNat)∈jO 0 nd:=by
 have:=hw p hp;have hb:p.2.toNat<nd.length:=by rw[h.1];lia
 have e:=bA hb
 refine aKG e (((h.2 _ _ e).2 p.1).mpr ?_)
 rw[b4 this.2.1];exact hp
theorem aKs{m:Nat}{o:List Int}(t:Topo ps m o):∃r:Nat->Int,(∀i,i<m->0<=r i/\r i<m)/\∀a b:Nat,((a:Int),(b:Int))∈ps->b<m->r a<r b:=by
 refine⟨fun i=>(o.idxOf (i:Int):Int),fun i hi=>⟨Int.natCast_nonneg _,?_⟩,fun a b hab hb=>?_⟩
 ·have:=aON (t.all i hi);rw[t.len]at this;show((o.idxOf (i:Int):Nat):Int)<m
  lia
 ·have hbm:=aON (t.all b hb);have hget:o[o.idxOf (b:Int)]?=some (b:Int):=by
   rw[bA hbm,List.getElem_idxOf]
  have ha:=t.top _ _ hget _ hab;obtain⟨i,hi⟩:=bN.mp ha;have hil:=(aP.mp hi).1;rw[d4]at hil;rw[List.getElem?_take,if_pos (by lia)]at hi;obtain⟨h1,h2⟩:=aP.mp hi;have:o.idxOf (a:Int)=i:=by rw[<-h2];exact t.nd.idxOf_getElem i h1
  show((o.idxOf (a:Int):Nat):Int)<((o.idxOf (b:Int):Nat):Int)
  lia
structure Gvn(ws:List (Int×Int×Int))(ps:List (Int×Int))(nd:List (List Int)):Prop where
 l8:ws.length<=8
 pl:ps.length<=1000
 inw:InW ws.length ps
 acy:Acy ps
 ndd:Nd ps ws.length nd
 need:gY [.int ws.length,.lst (ps.map pT)]=some (.lst (nd.map iT))
 ok:∀w∈ws,uH w
theorem Gvn.ex(h1:ws.length<=8)(h2:ps.length<=1000)(h3:InW ws.length ps)(h4:Acy ps)(h5:∀w∈ws,uH w):∃nd,Gvn ws ps nd:=by
 obtain⟨_,e,nd,rfl,hnd⟩:=tO (by lia) h2 h3
 exact⟨nd,h1,h2,h3,h4,hnd,e,h5⟩
theorem Gvn.rank(G:Gvn ws ps nd):∃r:Nat->Int,(∀i,i<ws.length->0<=r i/\r i<ws.length)/\∀e∈jO 0 nd,r e.1<r e.2:=by
 obtain⟨_,_,o,_,ho,hord⟩:=wE G.l8 G.pl G.inw G.acy;obtain⟨r,h1,h2⟩:=aKs (hord.topo ho)
 exact⟨r,h1,fun e he=>h2 _ _ (zR G.inw G.ndd he).1 (zR G.inw G.ndd he).2.2⟩
theorem Gvn.price:sm ws.length (fZ ws).p=plenty ws bonus - bonus - 1:=by
 show sm ws.length (fun i=>((ws[i]?).getD (0,0,0)).2.2)=_;rw[aKh (g:=fun w:Int×Int×Int=>w.2.2)];unfold plenty;lia
theorem Gvn.sP(G:Gvn ws ps nd):sm ws.length (fZ ws).p<=8*2^252:=by
 have h1:sm ws.length (fZ ws).p<=sm ws.length fun _=>2^252:=u4 fun i hi=>aPa (yZ (P:=uH) G.ok hi).2.2.2.2
 rw[aCh]at h1;have h3:(ws.length:Int)*2^252<=8*2^252:=d8 (by have:=G.l8;lia) (by decide)
 lia
theorem Gvn.wel(G:Gvn ws ps nd)(hb:0<=bonus):Wel (fZ ws) ws.length (jO 0 nd) (plenty ws bonus):=by
 refine⟨G.l8,?_,fun e he=>(zR G.inw G.ndd he).2,G.rank,fun i hi=>(yZ G.ok hi).1,?_,?_⟩
 ·have:=aB8 (nd:=nd) (z:=1000) (fun l hl=>?_) (s:=0)
  ·rw[G.ndd.1]at this;have h2:ws.length*1000<=8*1000:=aPo _ G.l8;have h3:=G.l8;show 4*ws.length+(jO 0 nd).length<40000
   lia
  ·obtain⟨b,hb⟩:=bN.mp hl
   exact cC (G.ndd.2 b l hb).1 G.pl
 ·rw[Gvn.price (bonus:=bonus)];lia
 ·exact eG G.sP (by decide)
theorem Gvn.tim(G:Gvn ws ps nd){bs:List Int}(hE:Early ps (ws.map (·.2.1)) bs):Tim ws.length (jO 0 nd) (jD 0 (dones bs (ws.map (·.2.1)))) (fun i=>at0 bs i) (fZ ws).l:=by
 have hh:∀i:Nat,i<ws.length->at0 (ws.map (·.2.1)) i=(fZ ws).l i:=fun i hi=>by
  rw[mR (by simpa using hi)];show _=((ws[i]?).getD (0,0,0)).2.1;rw[bA hi];simp
 refine⟨fun i _=>hE.pos _,fun i hi=>?_,fun x hx=>?_⟩
 ·rw[<-hh i hi]
  exact vU ((mW hE.len).mpr ⟨i,by simpa using hi,rfl⟩)
 ·obtain⟨h1,h2,h3⟩:=zR G.inw G.ndd hx;rw[<-hh x.1 h2]
  exact hE.ge _ h1
end Lib
namespace Lib
open PySem L2 TL NF
variable{ws:List (Int×Int×Int)}{ps:List (Int×Int)}{nd:List (List Int)}{hs bs:List Int}{e P:Int}{p0:Nat->Int}{Q:T->Sto->Prop}{w:Wk}{es:List (Nat×Nat)}
theorem Gvn.timH(G:Gvn ws ps nd)(hE:Early ps hs bs)(hl:hs.length=ws.length):Tim ws.length (jO 0 nd) (jD 0 (dones bs hs)) (fun i=>at0 bs i) (fun i=>at0 hs i):=by
 refine⟨fun i _=>hE.pos _,fun i hi=>?_,fun x hx=>?_⟩
 ·exact vU ((mW hE.len).mpr ⟨i,by rw[hl];exact hi,rfl⟩)
 ·exact hE.ge _ (zR G.inw G.ndd hx).1
theorem Gvn.fst(G:Gvn ws ps nd)(hE:Early ps hs bs)(hl:hs.length=ws.length){B:Nat->Int}(he:0<=e)(b0:∀i,i<ws.length->0<=B i)(hB:∀p∈ps,B p.1.toNat+at0 hs p.1<=B p.2.toNat)(hM:∀i:Nat,i<ws.length->B i+at0 hs i<=e):jD 0 (dones bs hs)<=e:=by
 obtain⟨r,h1,h2⟩:=G.rank;have key:∀(k:Nat)(i:Nat),i<ws.length->r i<k->at0 bs i<=B i:=fun k=>by
  induction k with
  |zero=>intro i hi hk;have:=h1 i hi;lia
  |succ k ih=>
   intro i hi hk;have:=b0 i hi;rcases hE.att i (by rw[hl];exact hi)with h| ⟨a,ha,h⟩
   ·lia
   ·have h3:=h2 _ (aIp G.inw G.ndd ha);have hia:=(G.inw _ ha).1;have h4:=hB _ ha;dsimp only at hia h3 h4;rw[cE]at h3 h4;have h5:=ih a.toNat (by lia) (by lia);rw[b4 hia.1]at h5
    lia
 rcases pU (d:=0) (ns:=dones bs hs)with⟨_,h⟩|h
 ·rw[h];exact he
 ·obtain⟨w,hw,e⟩:=(mW hE.len).mp h;rw[hl]at hw;have h3:=key (r w+1).toNat w hw (by have:=h1 w hw;lia);have h4:=hM w hw
  lia
theorem Gvn.early_le(G:Gvn ws ps nd)(hE:Early ps hs bs)(hl:hs.length=ws.length)(hH:∀i:Nat,i<ws.length->0<=at0 hs i/\at0 hs i<=2^252):jD 0 (dones bs hs)<=8*2^252:=by
 obtain⟨r,h1,h2⟩:=G.rank;have hn:=G.l8
 refine G.fst hE hl (B:=fun i=>r i*2^252) (by decide) (fun i hi=>?_) (fun p hp=>?_) fun i hi=>?_
 ·have:=h1 i hi;lia
 ·have h3:=h2 _ (aIp G.inw G.ndd hp);have hia:=(G.inw _ hp).1;have h4:=hH p.1.toNat (by lia);rw[b4 hia.1]at h4;dsimp only at h3|-
  lia
 ·have h3:=h1 i hi;have h4:=hH i hi
  lia
theorem aEk{i:Nat}(hi:i<ws.length):at0 (ws.map iW) i=if(fZ ws).p i=0 then(fZ ws).l i else(fZ ws).u i:=by
 rw[mR (by simpa using hi)];show _=if((ws[i]?).getD (0,0,0)).2.2=0 then((ws[i]?).getD (0,0,0)).2.1 else((ws[i]?).getD (0,0,0)).1
 rw[bA hi,aO7];rfl
theorem Gvn.free(G:Gvn ws ps nd)(hE:Early ps (ws.map iW) bs){bonus:Int}(hb:0<=bonus):
 jD 0 (dones bs (ws.map iW))<=8*2^252/\∃p0,Good (fZ ws) ws.length (jO 0 nd) (plenty ws bonus) (fun _=>0) 0 p0/\sm (2*ws.length+2) p0<10^198/\p0 1=jD 0 (dones bs (ws.map iW)):=by
 have T:=G.timH hE (by simp);have W:=G.wel hb;have hn:=G.l8;have wo:∀i,i<ws.length->uH ((ws[i]?).getD (0,0,0)):=fun i hi=>yZ (P:=uH) G.ok hi
 have lu:∀i,i<ws.length->0<=(fZ ws).l i/\(fZ ws).l i<=(fZ ws).u i/\(fZ ws).u i<2^252/\0<=(fZ ws).p i:=fun i hi=>⟨(wo i hi).1,(wo i hi).2.1,(wo i hi).2.2.2.1,(wo i hi).2.2.1⟩
 have hh:∀i:Nat,i<ws.length->0<=at0 (ws.map iW) i/\at0 (ws.map iW) i<=2^252/\(fZ ws).l i<=at0 (ws.map iW) i:=fun i hi=>by
  have:=lu i hi;rw[aEk hi];split<;>lia
 have hM:=G.early_le hE (by simp) fun i hi=>⟨(hh i hi).1,(hh i hi).2.1⟩
 have hz:0<=jD 0 (dones bs (ws.map iW)):=(hE.mxL fun x hx=>by
  obtain⟨w,hw,rfl⟩:=bL.mp hx;have h:=G.ok w hw;unfold iW;split
  ·exact h.1
  ·exact aO9 h.1 h.2.1).1
 refine⟨hM,pf (jD 0 (dones bs (ws.map iW))) (fun i=>at0 bs i) (fun i=>at0 (ws.map iW) i),⟨fun p=>?_,fun k hk=>?_,fun k hk=>⟨fun hc=>?_,fun z=>absurd z (Int.lt_irrefl _)⟩,rfl,fun v hv=>?_⟩,?_,rfl⟩
 ·rw[eC];exact oW fun k _=>eC _
 ·refine⟨bV _,?_⟩
  have hP:0<=plenty ws bonus:=by
   have:=W.pP;have h2:0<=sm ws.length (fZ ws).p:=qT fun i hi=>(lu i hi).2.2.2
   lia
  cases pipe hk with
  |src i hi e t h d c=>rw[c];exact hP
  |usu i hi e t h d c=>rw[c];exact(lu i hi).2.2.2
  |lea i hi e t h d c=>rw[c];exact hP
  |snk i hi e t h d c=>rw[c];exact hP
  |nee x y j hj e t h d c=>rw[c];exact hP
 ·cases hU:isU ws.length k with
  |false=>exact aEM T (fun i hi=>(hh i hi).2.2) k hk hU
  |true=>
   cases pipe hk with
   |src i hi e=>simp[isU]at hU;lia
   |usu i hi e t h d c=>
    rw[t,h,d,aHQ,aGw,aEk hi,if_neg (by rw[c]at hc;lia)];lia
   |lea i hi e=>simp[isU]at hU;lia
   |snk i hi e=>simp[isU]at hU;lia
   |nee x y j hj e=>simp[isU]at hU;lia
 ·by_cases v0:v=0
  ·rw[v0];exact bV _
  ·by_cases v1:v=1
   ·rw[v1];exact hz
   ·by_cases ve:v%2=0
    ·obtain⟨i,rfl⟩:∃i,v=2*i+2:=⟨v/2 - 1,by lia⟩;rw[aHQ];exact T.b0 i (by lia)
    ·obtain⟨i,rfl⟩:∃i,v=2*i+3:=⟨v/2 - 1,by lia⟩;rw[aGw];have:=T.b0 i (by lia);have:=(hh i (by lia)).1;lia
 ·have h5:sm (2*ws.length+2) (pf (jD 0 (dones bs (ws.map iW))) (fun i=>at0 bs i) (fun i=>at0 (ws.map iW) i))<=sm (2*ws.length+2) fun _=>8*2^252:=u4 fun v hv=>by
   unfold pf;split
   ·decide
   ·split
    ·exact hM
    ·have hi:v/2 - 1<ws.length:=by lia
     have h8:=T.e _ hi;have h9:=hh _ hi;dsimp only at h8|-;split<;>lia
  rw[aCh]at h5;have h6:((2*ws.length+2:Nat):Int)*(8*2^252)<=18*(8*2^252):=d8 (by lia) (by decide);have h7:(18*(8*2^252):Int)<10^198:=by decide
  lia
theorem Gvn.zge(G:Gvn ws ps nd)(hE:Early ps (ws.map (·.2.1)) bs):0<=jD 0 (dones bs (ws.map (·.2.1))):=
 (hE.mxL fun x hx=>by
  obtain⟨w,hw,rfl⟩:=bL.mp hx
  exact(G.ok w hw).1).1
theorem q8(G:Gvn ws ps nd)(hE:Early ps (ws.map (·.2.1)) bs)(he:jD 0 (dones bs (ws.map (·.2.1)))<=e)(G0:Good (fZ ws) ws.length (jO 0 nd) (plenty ws 0) (fun _=>0) 0 p0)(hb:sm (2*ws.length+2) p0<10^198){C:Sto}
 (q:∀f p a C',Filled (fZ ws) ws.length (jO 0 nd) (plenty ws 0) e (fun _=>0) 0 p0 f p a->a<=sm ws.length (fZ ws).p->0<=a->iM (iZ ws nd 0) f C.length (2*ws.length+2:Nat) C'->Q (.cell C.length) C'):
 wpO (kP [.lst (ws.map w3),.lst (ps.map pT),.int e] C) Q:=by
 have W:=G.wel (bonus:=0) (by decide);have hz:=G.zge hE
 refine i6 ?_
 unfold tL;walk_at "b"
 refine fN.mpr (gB.mpr (wY (fG.mpr (fD.mpr ⟨_,rfl,fG.mpr (fD.mpr ⟨_,rfl,fM.mpr ⟨rfl,?_⟩⟩)⟩))))
 refine aDG (nd:=nd) G.l8 G.pl G.inw G.need G.ndd fun C1 P1=>⟨rfl,gD.mpr (f7.mpr (fN.mpr (pR.mpr (mJ ?_))))⟩
 have A1:iM (iZ ws nd 0) (fun _=>0) C.length (2*ws.length+2:Nat) C1:=by
  have:=P1.at;rw[show((2*ws.length+2:Nat):Int)=2*(ws.length:Int)+2 by lia];exact this
 refine fD.mpr ⟨_,rfl,nH A1.net rfl,fG.mpr (fD.mpr ⟨_,rfl,fM.mpr ⟨rfl,?_⟩⟩)⟩
 refine aKR W (G.tim hE) he (by lia) G0 (qT fun i hi=>(yZ (P:=uH) G.ok hi).2.2.1) (bV _) (aOw hb (by decide)) A1 fun f p a C2 F ha ha0 A2 _ _=>?_
 exact f7.mpr (iH.mpr (fD.mpr ⟨_,rfl,q f p a C2 F ha ha0 A2⟩))
theorem aGi{N:Nt}{a:Int}(h:Flo N (fun _=>0) a):a=0:=by
 have:=h fun v=>if v=1 then 1 else 0
 rw[oW fun k _=>eC _]at this;simp at this
 lia
theorem aAY{n:Nat}{k:Nat}(hk:k<(net w n es P).m):(net w n es P).h k≠0/\(net w n es P).t k≠1:=by
 cases pipe hk with
 |src i hi e t h d c=>rw[t,h];lia
 |usu i hi e t h d c=>rw[t,h];lia
 |lea i hi e t h d c=>rw[t,h];lia
 |snk i hi e t h d c=>rw[t,h];lia
 |nee x y i hi e t h d c=>rw[t,h];lia
theorem aLR{n:Nat}(W:Wel w n es P){f:Nat->Int}{a:Int}(hf:Flo (net w n es P) f a)(hc:Cap (net w n es P) f):∃ρ,Flw (stp (net w n es P) f (net w n es P).m) a ρ:=by
 obtain⟨r,h1,h2⟩:=W.rk;have hn:=W.n8;have hup:=aK7 (w:=w) (P:=P) h1 h2;have key:∀e∈stp (net w n es P) f (net w n es P).m,∃j,j<(net w n es P).m/\e.1=((net w n es P).t j,(net w n es P).h j):=fun e he=>xV (cT he)
 have r1:rk n r 1=2*n:=rfl;have r0:rk n r 0= -1:=rfl
 refine⟨rk n r,aMF hf,wT (fun k hk=>(hc k hk).1) (bI _),tS,fun e he=>?_,fun e he=>?_,fun e he=>?_,fun e he=>?_,by rw[r1,r0];lia,by rw[r1,r0];lia,aOr v6 (by have:=W.m;lia)⟩
 ·obtain⟨j,hj,e1⟩:=key e he;rw[e1];exact(aAY hj).1
 ·obtain⟨j,hj,e1⟩:=key e he;rw[e1];exact hup j hj
 ·obtain⟨j,hj,e1⟩:=key e he;rw[e1,r1];show rk n r ((net w n es P).h j)<=_;cases pipe hj with
  |src i hi e t h d c=>rw[h,xQ];have:=h1 i hi;lia
  |usu i hi e t h d c=>rw[h,vG];have:=h1 i hi;lia
  |lea i hi e t h d c=>rw[h,vG];have:=h1 i hi;lia
  |snk i hi e t h d c=>rw[h,r1];lia
  |nee x y i hi e t h d c=>rw[h,xQ];have:=h1 y (W.ein _ (bB hi)).2;lia
 ·obtain⟨j,hj,e1⟩:=key e he;rw[e1,r0];show _<=rk n r ((net w n es P).t j);cases pipe hj with
  |src i hi e t h d c=>rw[t,r0];lia
  |usu i hi e t h d c=>rw[t,xQ];have:=h1 i hi;lia
  |lea i hi e t h d c=>rw[t,xQ];have:=h1 i hi;lia
  |snk i hi e t h d c=>rw[t,vG];have:=h1 i hi;lia
  |nee x y i hi e t h d c=>rw[t,vG];have:=h1 x (W.ein _ (bB hi)).1;lia
theorem Filled.plan{n:Nat}{f p:Nat->Int}{a:Int}(W:Wel w n es P)(F:Filled w n es P e (fun _=>0) 0 p0 f p a)(he0:0<=e)(heb:e<10^100)(hb:sm (2*n+2) p0<10^198){c:Nat}{C:Sto}(A:iM (net w n es P) f c (2*n+2:Nat) C)
 (q:∀pp,Good w n es P f a pp->pp 1=e->Q (.cell C.length) (C++[(.l,j6 (2*n+2) pp)])):wpO (iN [.cell c,.int e] C) Q:=by
 have G:=F.good;have hn:=W.n8;have fin:∀y:Nat->Int,(∀v,v<2*n+2->st1 e v<=y v)->Pot (net w n es P) f y->sm (2*n+2) y<10^199->((∃q,Pot (net w n es P) f q/\q 0=0/\e<=q 1)\/∀o,Open (net w n es P) f o->rt (net w n es P) o≠1)->wpO (iN [.cell c,.int e] C) Q:=fun y h1 h2 h3 h4=>by
  have hs:0<=sm (2*n+2) (st1 e):=qT fun v _=>by unfold st1;split<;>lia
  refine x6 A W.m (x9 W.ein) (by lia) (by lia) h1 h2 (by lia) fun pp L=>?_
  obtain⟨g1,g0⟩:=ends (N:=net w n es P) L (by lia) G.ge G.pot G.p0 F.ready h4
  refine q pp ⟨G.flo,G.cap,L.pot,g0,fun v hv=>?_⟩ g1
  have:=L.ge v hv;have h5:0<=st1 e v:=by unfold st1;split<;>lia
  lia
 rcases F.how with rfl| ⟨_,y,Gy,hy,hle⟩
 ·have fw:∀o,Open (net w n es P) (fun _=>0) o->o.2=true/\o.1<(net w n es P).m:=fun o ho=>by
   obtain⟨k,b⟩:=o;cases b
   ·exact absurd ho.2 (by unfold rr;simp)
   ·exact⟨rfl,ho.1⟩
  refine fin (up p 1 e) (fun v hv=>?_) (kL.mpr fun o ho=>?_) ?_ (.inr fun o ho=>?_)
  ·unfold st1 up;split
   ·exact bV _
   ·exact G.ge v hv
  ·obtain⟨h1,h2⟩:=fw o ho;have h3:=kL.mp G.pot o ho;obtain⟨k,b⟩:=o;cases h1;have hne:=(aAY h2).2;unfold up;rw[if_neg (show¬rt (net w n es P) (k,true)=1 from hne)];split
   ·rename_i z;rw[z]at h3;have:=F.ready
    lia
   ·exact h3
  ·rw[aIx (by lia)];have h5:sm (2*n+2) p<=sm (2*n+2) p0:=u4 F.le;have h6:=G.ge 1 (by lia);have h7:(10^198+10^100:Int)<10^199:=by decide
   lia
  ·obtain⟨h1,h2⟩:=fw o ho;obtain⟨k,b⟩:=o;cases h1
   exact(aAY h2).2
 ·refine fin y (fun v hv=>?_) Gy.pot ?_ (.inl ⟨y,Gy.pot,Gy.p0,by lia⟩)
  ·unfold st1;split
   ·rename_i z;subst z;lia
   ·exact Gy.ge v hv
  ·have h5:sm (2*n+2) y<=sm (2*n+2) p0:=u4 hle;have h7:(10^198:Int)<10^199:=by decide
   lia
end Lib
namespace TL
open PySem L2
theorem aDR{α:Type}{τ:TSt}{C0 C:Sto}{g:FG}{fe:FE}{en:α->T}{xs:List α}{QL:List T->Sto->Prop}(u:α->List T)(hC:C0<+:C)
 (h:∀x∈xs,∀C,C0<+:C->wpG g (en x) C τ fun τ1=>wpE fe τ1 C fun t C'=>t=.cell C.length/\C'=C++[(.l,u x)])
 (hq:QL ((bK xs.length).map fun i=>T.cell (C.length+i)) (C++xs.map fun x=>(.l,u x))):wpC (jG g gZ fe τ (xs.map en) C) QL:=by
 refine⟨_,_,?_,hq⟩
 clear hq;induction xs generalizing C with
 |nil=>simp[jG]
 |cons x xs ih=>
  obtain⟨τ1,e1,t,C',e2,rfl,rfl⟩:=h x bF C hC;have ih:=ih (C:=C++[(.l,u x)]) (hC.trans (aOR _ _)) (fun y hy=>h y (aZ _ hy));rw[aM];unfold jG;rw[e1,aU];show(gZ τ1 C).bind _=_;simp only[gZ,aU,if_true,e2];rw[ih,aIb (aOR _ _)];simp only[aOo,bC,aN,aQ,cJ,aM];congr 2;rw[d9,aM,cD];simp only[aPE,aPq.injEq,true_and];apply cS;intro i _;simp only[dO];congr 1;lia
theorem qY{B:FS}{m:Nat}{ts:List T}{Q:T->Sto->Prop}(h:wpS B (st0 m ts) [] fun l τ' C'=>match l with
 | .rt r=>Q r C'
 |_=>False):wpO (zN B m ts) Q:=by
 obtain⟨l,τ',C',e,q⟩:=h;cases l with
 |rt r=>exact⟨_,C',by unfold zN;rw[e],q⟩
 |nx=>exact q.elim
 |bk=>exact q.elim
 |ct=>exact q.elim
 |ex c=>exact q.elim
end TL
namespace Lib
open PySem L2 TL NF
variable{e:Int}{ws:List (Int×Int×Int)}{ps:List (Int×Int)}{nd:List (List Int)}{bs fs:List Int}
noncomputable def rowOf(pp:Nat->Int)(w:Int×Int×Int)(i:Nat):List Int:=[pp (2*i+2),min w.1 (pp (2*i+3) - pp (2*i+2))]
theorem aAp{n:Nat}{x:Nat->Int}:j6 n x=((bK n).map x).map T.int:=by rw[cD];rfl
theorem aCz{n i:Nat}{pp:Nat->Int}{w:Int×Int×Int}(hi:i<n):oT [.int i,w3 w,.lst (j6 (2*n+2) pp)]=some ((rowOf pp w i).map T.int):=by
 apply aJO;unfold xC;walk_at "b"
 refine fN.mpr (gB.mpr (fP.mpr (fD.mpr ⟨_,rfl,fU (m8 rfl) ?_⟩)))
 have a1:=v7 (n:=2*n+2) (x:=pp) (v:=2*i+2) (by lia);have a2:=v7 (n:=2*n+2) (x:=pp) (v:=2*i+3) (by lia);rw[show((2*i+2:Nat):Int)=2*(i:Int)+2 by lia]at a1;rw[show((2*i+3:Nat):Int)=2*(i:Int)+3 by lia]at a2
 refine kY.mpr ⟨_,rfl,_,a1,gD.mpr (f7.mpr (iH.mpr (j7.mpr (iQ.mpr (fG.mpr (fD.mpr ⟨_,rfl,fG.mpr (gF.mpr (fG.mpr ?_))⟩))))))⟩
 refine fU (aEx (k:=1) (w:=w) rfl).1 (fG.mpr (fP.mpr (fP.mpr (fD.mpr ⟨_,rfl,fU (n5 rfl) (kY.mpr ⟨_,rfl,_,a2,fD.mpr ⟨_,rfl,jH.mpr (fM.mpr (yT.mpr (fM.mpr ⟨by simp[lim],?_⟩)))⟩⟩)⟩))))
 exact⟨rfl,iG⟩
theorem Filled.at_e{w:Wk}{n:Nat}{es:List (Nat×Nat)}{P:Int}{p0 f p:Nat->Int}{a:Int}(F:Filled w n es P e (fun _=>0) 0 p0 f p a)(he0:0<=e):∃pp,Good w n es P f a pp/\pp 1=e:=by
 rcases F.how with rfl| ⟨_,y,Gy,hy,hle⟩
 ·have G:=F.good;have fw:∀o,Open (net w n es P) (fun _=>0) o->o.2=true/\o.1<(net w n es P).m:=fun o ho=>by
   obtain⟨k,b⟩:=o;cases b
   ·exact absurd ho.2 (by unfold rr;simp)
   ·exact⟨rfl,ho.1⟩
  refine⟨up p 1 e,⟨G.flo,G.cap,kL.mpr fun o ho=>?_,?_,fun v hv=>?_⟩,aAu⟩
  ·obtain⟨h1,h2⟩:=fw o ho;have h3:=kL.mp G.pot o ho;obtain⟨k,b⟩:=o;cases h1;have hne:=(aAY h2).2;unfold up;rw[if_neg (show¬rt (net w n es P) (k,true)=1 from hne)];split
   ·rename_i z;rw[z]at h3;have:=F.ready
    lia
   ·exact h3
  ·rw[x8 (by decide)];exact G.p0
  ·unfold up;split
   ·exact he0
   ·exact G.ge v hv
 ·exact F.good.amid Gy F.ready (by lia)
theorem aAF(G:Gvn ws ps nd)(hE:Early ps (ws.map (·.2.1)) bs)(hF:Early ps (ws.map iW) fs)(hL:iU [.lst (ws.map w3),.lst (ps.map pT)]=some (.int (jD 0 (dones bs (ws.map (·.2.1)))))):
 (e<jD 0 (dones bs (ws.map (·.2.1)))->kG [.lst (ws.map w3),.lst (ps.map pT),.int e]=some (.non,[]))/\
 (jD 0 (dones bs (ws.map (·.2.1)))<=e->∃f a pp rl rw Cn,kG [.lst (ws.map w3),.lst (ps.map pT),.int e]=some (.cell rw,Cn)/\Good (fZ ws) ws.length (jO 0 nd) (plenty ws 0) f a pp/\pp 1=e/\a<=sm ws.length (fZ ws).p/\rl.length<40000/\
  xM ws.length (jO 0 nd) (stp (iZ ws nd 0) f (iZ ws nd 0).m) a rl [] 0/\Cn[rw]?=some (.l,rl.map fun z=>.cell z.1)/\(∀z∈rl,Cn[z.1]?=some (aA6 z))/\(jD 0 (dones fs (ws.map iW))<=e->rl=[])):=by
 have hz:=G.zge hE;have W:=G.wel (bonus:=0) (by decide);obtain⟨_,p0,G0,hb,hp0⟩:=G.free hF (bonus:=0) (by decide);have hcf:CFs [T.lst (ws.map w3),T.lst (ps.map pT)]=true:=by rw[fT,fT,g8,gJ,gJ,nT,kS];rfl
 have test:∀{τ:TSt}{Q:Bool->Sto->Prop},τ[0]?=some (some (.lst (ws.map w3)))->τ[1]?=some (some (.lst (ps.map pT)))->τ[2]?=some (some (.int e))->Q (decide (e<jD 0 (dones bs (ws.map (·.2.1))))) []->wpB (iC (fLt (fA 2) (f8 2 iU (fB (fA 0) (fB (fA 1) fJ))))) τ [] Q:=fun h0 h1 h2 q=>
  gP.mpr (fP.mpr (fD.mpr ⟨_,h2,gF.mpr (fG.mpr (fD.mpr ⟨_,h0,fG.mpr (fD.mpr ⟨_,h1,fM.mpr ((gA hL rfl hcf).mpr (jH.mpr ⟨_,rfl,q⟩))⟩)⟩))⟩))
 constructor
 ·intro h;have:wpO (kG [.lst (ws.map w3),.lst (ps.map pT),.int e]) fun r C=>r=.non/\C=[]:=by
   refine qY ?_
   unfold pL;walk_at "b"
   refine fN.mpr (iY.mpr (test rfl rfl rfl ?_))
   rw[if_pos (decide_eq_true h)]
   exact iH.mpr (iR.mpr ⟨rfl,rfl⟩)
  obtain⟨_,_,e1,rfl,rfl⟩:=this
  exact e1
 ·intro h;have:wpO (kG [.lst (ws.map w3),.lst (ps.map pT),.int e]) fun r Cn=>∃f a pp rl rw,r=.cell rw/\Good (fZ ws) ws.length (jO 0 nd) (plenty ws 0) f a pp/\pp 1=e/\a<=sm ws.length (fZ ws).p/\rl.length<40000/\
   xM ws.length (jO 0 nd) (stp (iZ ws nd 0) f (iZ ws nd 0).m) a rl [] 0/\Cn[rw]?=some (.l,rl.map fun z=>.cell z.1)/\(∀z∈rl,Cn[z.1]?=some (aA6 z))/\(jD 0 (dones fs (ws.map iW))<=e->rl=[]):=by
   refine qY ?_
   unfold pL;walk_at "b"
   refine fN.mpr (iY.mpr (test rfl rfl rfl ?_))
   rw[if_neg (by rw[decide_eq_false (by lia)];simp)]
   refine gM.mpr (f7.mpr (iH.mpr (mJ (jI.mpr (fG.mpr (fD.mpr ⟨_,rfl,fG.mpr (fD.mpr ⟨_,rfl,fG.mpr (fD.mpr ⟨_,rfl,fM.mpr ⟨rfl,?_⟩⟩)⟩)⟩))))))
   refine q8 G hE h G0 hb fun f p a C' F ha ha0 A=>⟨nH A.net rfl,fM.mpr ⟨rfl,?_⟩⟩
   obtain⟨pp,Gp,hp1⟩:=F.at_e (by lia);obtain⟨ρ,Fl⟩:=aLR W Gp.flo Gp.cap
   refine aFs A W.m Fl (fun s hs=>aN4 hs) ha0 (by have:=W.big;lia) fun rl rw C2 hrm R h1 h2=>?_
   refine⟨f,a,pp,rl,rw,rfl,Gp,hp1,ha,aOr hrm W.m,R,h1,h2,fun hy=>?_⟩
   have hf:f=fun _=>0:=by
    rcases F.how with h1| ⟨_,q,_,h2,h3⟩
    ·exact h1
    ·have:=h3 1 (by lia)
     lia
   have ha1:a=0:=by
    have:=F.good.flo;rw[hf]at this
    exact aGi this
   cases rl with
   |nil=>rfl
   |cons z rl=>
    exfalso;have hs:=R.sum;have hpos:∀l:List (Nat×Int×List Nat),(∀z∈l,1<=z.2.1)->0<=(l.map fun z=>z.2.1).sum:=fun l=>by
     induction l with
     |nil=>intro _;simp
     |cons y l ih=>
      intro hl;have:=hl y bF;have:=ih fun x hx=>hl x (aZ _ hx)
      rw[aM,dX];lia
    have h3:=(R.ok z bF).1;have h4:=hpos rl fun x hx=>(R.ok x (aZ _ hx)).1
    rw[aM,dX]at hs
    lia
  obtain⟨_,Cn,e1,f,a,pp,rl,rw,rfl,h1⟩:=this
  exact⟨f,a,pp,rl,rw,Cn,e1,h1⟩
theorem aDs(G:Gvn ws ps nd)(hE:Early ps (ws.map (·.2.1)) bs)(hF:Early ps (ws.map iW) fs)(hL:iU [.lst (ws.map w3),.lst (ps.map pT)]=some (.int (jD 0 (dones bs (ws.map (·.2.1))))))(heb:e<10^100):
 (e<jD 0 (dones bs (ws.map (·.2.1)))->mB [.lst (ws.map w3),.lst (ps.map pT),.int e]=some (.non,[]))/\
 (jD 0 (dones bs (ws.map (·.2.1)))<=e->∃f a pp Cm,mB [.lst (ws.map w3),.lst (ps.map pT),.int e]=some (.cell (Cm.length+ws.length),Cm++(ws.zipIdx.map fun x=>(Kd.l,(rowOf pp x.1 x.2).map T.int))++[(Kd.l,(bK ws.length).map fun i=>T.cell (Cm.length+i))])/\
  Good (fZ ws) ws.length (jO 0 nd) (plenty ws 0) f a pp/\pp 1=e/\a<=sm ws.length (fZ ws).p):=by
 have hz:=G.zge hE;have W:=G.wel (bonus:=0) (by decide);obtain⟨_,p0,G0,hb,hp0⟩:=G.free hF (bonus:=0) (by decide);have hn:=G.l8;have hcf:CFs [T.lst (ws.map w3),T.lst (ps.map pT)]=true:=by rw[fT,fT,g8,gJ,gJ,nT,kS];rfl
 have test:∀{τ:TSt}{Q:Bool->Sto->Prop},τ[0]?=some (some (.lst (ws.map w3)))->τ[1]?=some (some (.lst (ps.map pT)))->τ[2]?=some (some (.int e))->Q (decide (e<jD 0 (dones bs (ws.map (·.2.1))))) []->wpB (iC (fLt (fA 2) (f8 2 iU (fB (fA 0) (fB (fA 1) fJ))))) τ [] Q:=fun h0 h1 h2 q=>
  gP.mpr (fP.mpr (fD.mpr ⟨_,h2,gF.mpr (fG.mpr (fD.mpr ⟨_,h0,fG.mpr (fD.mpr ⟨_,h1,fM.mpr ((gA hL rfl hcf).mpr (jH.mpr ⟨_,rfl,q⟩))⟩)⟩))⟩))
 constructor
 ·intro h;have:wpO (mB [.lst (ws.map w3),.lst (ps.map pT),.int e]) fun r C=>r=.non/\C=[]:=by
   refine qY ?_
   unfold uG;walk_at "b"
   refine fN.mpr (iY.mpr (test rfl rfl rfl ?_))
   rw[if_pos (decide_eq_true h)]
   exact iH.mpr (iR.mpr ⟨rfl,rfl⟩)
  obtain⟨_,_,e1,rfl,rfl⟩:=this
  exact e1
 ·intro h;have:wpO (mB [.lst (ws.map w3),.lst (ps.map pT),.int e]) fun r Cn=>∃f a pp Cm,r=.cell (Cm.length+ws.length)/\Cn=Cm++(ws.zipIdx.map fun x=>(Kd.l,(rowOf pp x.1 x.2).map T.int))++[(Kd.l,(bK ws.length).map fun i=>T.cell (Cm.length+i))]/\
   Good (fZ ws) ws.length (jO 0 nd) (plenty ws 0) f a pp/\pp 1=e/\a<=sm ws.length (fZ ws).p:=by
   refine qY ?_
   unfold uG;walk_at "b"
   refine fN.mpr (iY.mpr (test rfl rfl rfl ?_))
   rw[if_neg (by rw[decide_eq_false (by lia)];simp)]
   refine gM.mpr (f7.mpr (fN.mpr (gB.mpr (mJ (jI.mpr (fG.mpr (fD.mpr ⟨_,rfl,fG.mpr (fD.mpr ⟨_,rfl,fG.mpr (fD.mpr ⟨_,rfl,fM.mpr ⟨rfl,?_⟩⟩)⟩)⟩)))))))
   refine q8 G hE h G0 hb fun f p a C' F ha ha0 A=>⟨nH A.net rfl,fG.mpr (fD.mpr ⟨_,rfl,fM.mpr ⟨rfl,?_⟩⟩)⟩
   refine F.plan W (by lia) heb hb A fun pp Gp hp1=>?_
   refine gD.mpr (f7.mpr (iH.mpr (j7.mpr (aFM.mpr (fD.mpr ⟨_,rfl,_,rfl,by rw[aBC,aR];simp[lim];lia,?_⟩)))))
   rw[xY]
   refine aDR (C0:=C'++[(Kd.l,j6 (2*ws.length+2) pp)]) (u:=fun x:(Int×Int×Int)×Nat=>(rowOf pp x.1 x.2).map T.int) (aPJ _) (fun x hx C2 hC2=>?_) ?_
   ·have hi:x.2<ws.length:=by
     obtain⟨k,hk⟩:=bN.mp hx;rw[dS]at hk;obtain⟨w,hw,e1⟩:=aL.mp hk;rw[<-e1,dU]
     exact(aP.mp hw).1
    have hmo:lc C2 C'.length=some (((bK (2*ws.length+2)).map pp).map T.int):=by
     rw[<-aAp]
     exact aHE hC2 (gL.mpr (by simp))
    refine xE.mpr ⟨_,rfl,rfl,j7.mpr (qC.mpr (fG.mpr (fD.mpr ⟨.int x.2,rfl,fG.mpr (fD.mpr ⟨w3 x.1,rfl,fG.mpr (fD.mpr ⟨.cell C'.length,rfl,fM.mpr ?_⟩)⟩)⟩)))⟩
    refine aDC rfl (hJ (iE gH) (hJ (iE aGe) (hJ (m7 hmo) p9))) ?_
    rw[<-aAp,aCz hi]
    exact⟨_,rfl,by simp[rowOf,sca],rfl,rfl⟩
   ·refine⟨f,a,pp,C'++[(Kd.l,j6 (2*ws.length+2) pp)],?_,?_,Gp,hp1,ha⟩
    ·simp;lia
    ·simp
  obtain⟨_,Cn,e1,f,a,pp,Cm,rfl,rfl,h1,h2,h3⟩:=this
  exact⟨f,a,pp,Cm,e1,h1,h2,h3⟩
end Lib
namespace Lib
open PySem L2 TL NF
variable{w:Wk}{es:List (Nat×Nat)}{P e:Int}{pp:Nat->Int}
noncomputable def beg(pp:Nat->Int)(i:Nat):Int:=pp (2*i+2)
noncomputable def hrs(w:Wk)(pp:Nat->Int)(i:Nat):Int:=min (w.u i) (pp (2*i+3) - pp (2*i+2))
theorem aJF{n:Nat}(W:Wel w n es P){f:Nat->Int}{a:Int}(G:Good w n es P f a pp)(he:pp 1=e)(ha:a<=sm n w.p)(hlu:∀i,i<n->w.l i<=w.u i):
 (∀i,i<n->0<=beg pp i/\w.l i<=hrs w pp i/\hrs w pp i<=w.u i/\beg pp i+hrs w pp i<=e)/\(∀x∈es,beg pp x.1+hrs w pp x.1<=beg pp x.2)/\sm n (fun i=>w.p i*(w.u i - hrs w pp i))=len (net w n es P) f - a*e:=by
 have ho:=W.open G (eG ha W.pP);obtain⟨q1,q2,q3,q4⟩:=aEV G.pot ho G.p0 W.ein
 refine⟨fun i hi=>?_,fun x hx=>?_,?_⟩
 ·have h1:=q1 i hi;have h2:=q2 i hi;have h3:=q3 i hi;have h4:=hlu i hi;unfold beg hrs
  refine⟨h1,?_,?_,?_⟩<;>lia
 ·have h1:=q4 x hx;unfold beg hrs
  lia
 ·rw[<-he,G.price ho]
  refine k7 fun i _=>?_
  congr 1;unfold hrs NF.pos;split<;>lia
theorem aJ3{x u l p:Int}(h:l<=u):(if x<=p then x*u else p*u+(x - p)*l)=min (x*u) (p*(u - l)+x*l):=by
 have e1:x*u - (p*(u - l)+x*l)=(x - p)*(u - l):=by rw[aO1,dD,dD];lia
 have e2:p*u+(x - p)*l=p*(u - l)+x*l:=by rw[aO1,dD];lia
 by_cases hx:x<=p
 ·rw[if_pos hx];have:(x - p)*(u - l)<=0:=Int.mul_nonpos_of_nonpos_of_nonneg (by lia) (by lia)
  lia
 ·rw[if_neg hx,e2];have:0<=(x - p)*(u - l):=dP (by lia) (by lia)
  lia
theorem aEI{n:Nat}{g:Nat->Int}{k:Nat}(hk:k<n):(sm n fun j=>if j=k then g j else 0)=g k:=by
 induction n with
 |zero=>lia
 |succ n ih=>
  show sm n _+(if n=k then g n else 0)=_;by_cases h:n=k
  ·subst h;rw[if_pos rfl,oW fun j hj=>if_neg (by lia)];lia
  ·rw[if_neg h,ih (by lia)];lia
theorem aLW{n:Nat}{f:Nat->Int}{i:Nat}(hi:i<n):at_ (stp (net w n es P) f (net w n es P).m) (stw i)=thr f i:=by
 rw[aGm];show sm (4*n+es.length) _=_;have e:∀k,k<4*n+es.length->(if stw i=((net w n es P).t k,(net w n es P).h k)then f k else 0)=(if k=4*i+1 then f k else 0)+if k=4*i+2 then f k else 0:=fun k hk=>by
  have hs:stw i=((net w n es P).t k,(net w n es P).h k)↔(2*i+2=(net w n es P).t k/\2*i+3=(net w n es P).h k):=by unfold stw;rw[aQg.injEq]
  cases pipe (w:=w) (n:=n) (es:=es) (P:=P) (k:=k) hk with
  |src j hj e t h d c=>rw[if_neg (by rw[hs,t,h];lia),if_neg (by lia),if_neg (by lia)];rfl
  |usu j hj e t h d c=>
   by_cases z:j=i
   ·rw[if_pos (by rw[hs,t,h];lia),if_pos (by lia),if_neg (by lia)];lia
   ·rw[if_neg (by rw[hs,t,h];lia),if_neg (by lia),if_neg (by lia)];rfl
  |lea j hj e t h d c=>
   by_cases z:j=i
   ·rw[if_pos (by rw[hs,t,h];lia),if_neg (by lia),if_pos (by lia)];lia
   ·rw[if_neg (by rw[hs,t,h];lia),if_neg (by lia),if_neg (by lia)];rfl
  |snk j hj e t h d c=>rw[if_neg (by rw[hs,t,h];lia),if_neg (by lia),if_neg (by lia)];rfl
  |nee x y j hj e t h d c=>rw[if_neg (by rw[hs,t,h];lia),if_neg (by lia),if_neg (by lia)];rfl
 rw[k7 e,aLD,aEI (by lia),aEI (by lia)];rfl
theorem aCo{n:Nat}{f f2 p2:Nat->Int}{a a2:Int}(G:Good w n es P f a pp)(G2:Good w n es P f2 a2 p2)(h1:pp 1=e)(h2:p2 1=e)(hlu:∀i,i<n->w.l i<=w.u i){rl:List (Nat×Int×List Nat)}(R:xM n es (stp (net w n es P) f2 (net w n es P).m) a2 rl [] 0):
 len (net w n es P) f - a*e=sm n (fun i=>min ((rl.map fun z=>z.2.1*(z.2.2.count i:Int)).sum*w.u i) (w.p i*(w.u i - w.l i)+(rl.map fun z=>z.2.1*(z.2.2.count i:Int)).sum*w.l i)) - e*(rl.map fun z=>z.2.1).sum:=by
 rw[aDw G G2 h1 h2,aIt G2 hlu,R.sum,aOu,Int.mul_comm a2 e];congr 1
 refine k7 fun i hi=>?_
 have:(rl.map fun z=>z.2.1*(z.2.2.count i:Int)).sum=thr f2 i:=by
  rw[R.thr i,aLW hi];show thr f2 i - 0=_
  lia
 rw[this]
 exact aJ3 (hlu i hi)
end Lib
namespace K42
open PySem L2 TL Lib
def aHr:FS:=
 (fO (fY (iI (fA 0) (fC (.int 5))) (gN 5))
  (fO (fY (iI (fA 1) (fC (.int 6))) (gN 6))
  (fO (fY (iI (fA 2) (fC (.int 5))) (gN 7))
  (fO (fIf (iC (fEq (fA 3) (fC (.int 1)))) (fO (fY (i7 (lW (fA 0) (fA 4)) (iI (fA 1) (fC (.int 97)))) (gN 5))
  (fO (fY (lW (lW (fA 1) (fA 4)) (pJ (fB (fGt (iI (fA 1) (fC (.int 4))) (fC (.int 0))) fJ))) (gN 6))
  (fY (i7 (lW (fA 2) (fA 4)) (iI (fA 0) (fC (.int 89)))) (gN 7)))) iD)
  (fO (fIf (iC (fEq (fA 3) (fC (.int 2)))) (fO (fY (lW (iI (fA 1) (fC (.int 3))) (iI (lY (fA 1) (fC (.int 3))) (fC (.int 50)))) (gN 6))
  (fY (fIx (fV (gK (fB (fC (.int 0)) (fB (fC (.int 3)) (fB (fC (.int 3)) (fB (i7 (fC (.int 1)) (iI (fA 2) (fC (.int 40)))) fJ)))))) (iI (lY (fA 2) (fC (.int 64))) (fC (.int 4)))) (gN 7))) iD)
  (fO (fIf (nV (iC (fEq (fA 3) (fC (.int 3)))) (iC (fEq (iI (fA 0) (fC (.int 3))) (fC (.int 0))))) (fY (fC (.int 0)) (gN 5)) iD)
  (gW (fV (gK (fB (i7 (fA 5) (fA 6)) (fB (fA 5) (fB (fA 7) fJ))))))))))))
def y4:List T->Option T:=jK aHr 8
def aFH:FS:=
 (fIf (iC (fGt (fA 6) (fC (.int 1)))) (fO (fY (i7 (fC (.int 1)) (iI (fIx (fA 3) (fA 11)) (pH (fA 6) (fC (.int 1))))) (gN 12))
  (fO (fY (iI (lY (fIx (fA 3) (fA 11)) (fC (.int 16))) (nO (fB (fA 12) (fB (fIx (fV (gK (fB (fC (.int 1)) (fB (fC (.int 2)) (fB (fC (.int 8)) fJ))))) (iI (lY (fA 7) (fC (.int 16))) (fC (.int 3)))) fJ)))) (gN 13))
  (fO (fY (fIx (fV (gK (fB (pH (pH (fA 12) (fC (.int 1))) (fA 13)) (fB (fA 13) fJ)))) (iI (lY (fA 7) (fC (.int 48))) (fC (.int 2)))) (gN 14))
  (aIJ (fA 10) (fB (iI (lY (fIx (fA 3) (fA 11)) (fC (.int 256))) (i7 (mX (fB (fA 10) fJ)) (fC (.int 1)))) (fB (fV (gK (fB (fIx (fA 9) (fA 14)) (fB (fIx (fA 9) (fA 12)) fJ)))) fJ)))))) iD)
def aJ7:FS:=
 (fO (fY (f8 1 l9 (fB (fA 0) fJ)) (gN 3))
  (fO (fY (f8 2 iK (fB (fA 0) (fB (fC (.int 0)) fJ))) (gN 4))
  (fO (fY (iI (lY (fA 4) (fC (.int 4))) (nO (fB (fC (.int 6)) (fB (i7 (fA 1) (fC (.int 1))) fJ)))) (gN 5))
  (fO (fY (fIx (fV (gK (fB (fA 5) (fB (pH (fA 1) (fIx (fV (gK (fB (fC (.int 0)) (fB (fC (.int 0)) (fB (fC (.int 1)) (fB (fC (.int 2)) fJ)))))) (iI (lY (fA 4) (fC (.int 4))) (fC (.int 4))))) (fB (fA 5) (fB (nO (fB (fA 1) (fB (i7 (fC (.int 3)) (iI (lY (fA 4) (fC (.int 4))) (fC (.int 3)))) fJ))) fJ)))))) (iI (fA 4) (fC (.int 4)))) (gN 6))
  (fO (fY (f8 2 iK (fB (fA 0) (fB (fC (.int 1)) fJ))) (gN 7))
  (fO (fIf (iC (fEq (iI (lY (fA 7) (fC (.int 288))) (fC (.int 2))) (fC (.int 1)))) (gW (f8 3 m4 (fB (fA 0) (fB (nO (fB (fA 6) (fB (fIx (fV (gK (fB (fC (.int 5)) (fB (fC (.int 3)) fJ)))) (pJ (fB (fLt (fA 1) (fC (.int 5))) fJ))) fJ))) (fB (fA 2) fJ))))) iD)
  (fO (fY (fV (j3 (fA 6) 1 [3,7,2] (gN 0) gZ (f8 5 y4 (fB (fIx (fA 1) (fA 0)) (fB (fIx (fA 1) (i7 (fC (.int 8)) (fA 0))) (fB (fIx (fA 1) (i7 (fC (.int 16)) (fA 0))) (fB (iI (fA 2) (fC (.int 4))) (fB (fA 3) fJ)))))))) (gN 8))
  (fO (fY (f8 2 pZ (fB (fIx (fA 3) (fC (.int 39))) (fB (fA 6) fJ))) (gN 9))
  (fO (fY (jB (gK fJ)) (gN 10))
  (fO (pN (fC (.int 24)) (i7 (fC (.int 24)) (nO (fB (fC (.int 14)) (fB (i7 (fA 6) (iI (lY (fA 7) (fC (.int 4))) (fC (.int 4)))) fJ)))) (gN 11)
   aFH)
  (gW (tH (fB (fA 8) (fB (fV (fSl (fA 10) (rF (iI (lY (fA 7) (fC (.int 96))) (fC (.int 3)))) mS)) fJ))))))))))))))
def sZ:List T->Option T:=jK aJ7 15
def uS:FS:=
 (vH (fA 1) (fB (fC (.int 7)) fJ))
def uF:FS:=
 (fO (oP (fA 0) (gN 1)
  uS)
  (vH (fA 0) (fB (fV (gK (fB (fC (.int 8)) fJ))) fJ)))
def kQ:List T->Sto->Option Sto:=aE4 uF 2
def zO:FS:=
 (gW (aIK (fB (fV (j3 (mX (fB (fA 0) fJ)) 1 [0,1] (gN 0) gZ (lW (fIx (fIx (fA 1) (fA 0)) (fC (.int 2))) (pH (fIx (fIx (fA 1) (fA 0)) (fC (.int 0))) (fIx (fIx (fA 2) (fA 0)) (fC (.int 1))))))) fJ)))
def oB:List T->Option T:=jK zO 2
def u9:FS:=
 (fO (fY (fIx (fA 0) (fA 4)) (gU [5,6,7]))
  (fO (fY (aIK (fB (fV (jQ (fA 1) 1 [4] (gN 0) (iC (fIn (fA 1) (fV (fSl (fA 0) (rF (fC (.int 1))) mS)))) (fIx (fA 0) (fC (.int 0))))) fJ)) (gN 8))
  (fY (i7 (fA 3) (nO (fB (lW (fA 8) (fA 5)) (fB (i7 (lW (fA 7) (pH (fA 5) (fA 6))) (lW (fA 8) (fA 6))) fJ)))) (gN 3))))
def zX:FS:=
 (fO (fY (pH (fC (.int 0)) (lW (fA 2) (aIK (fB (fV (jQ (fA 1) 1 [] (gN 0) gZ (fIx (fA 0) (fC (.int 0))))) fJ)))) (gN 3))
  (fO (lF (mX (fB (fA 0) fJ)) (gN 4)
   u9)
  (gW (fA 3))))
def n6:List T->Option T:=jK zX 9
def rJ:FS:=
 (fO (fY (fIx (fA 3) (fA 4)) (gN 5))
  (fO (fIf (oE (k6 (mK (uD "list" (fA 5)))) (oE (iC (fNe (mX (fB (fA 5) fJ)) (fC (.int 2)))) (oE (k6 (mK (f8 1 mC (fB (fIx (fA 5) (fC (.int 0))) fJ)))) (k6 (mK (f8 1 mC (fB (fIx (fA 5) (fC (.int 1))) fJ))))))) (gW (fC (.bl false))) iD)
  (fIf (oE (iC (fLt (fIx (fA 5) (fC (.int 0))) (fC (.int 0)))) (oE (iC (fLt (fIx (fA 5) (fC (.int 1))) (fIx (fIx (fA 0) (fA 4)) (fC (.int 1))))) (oE (iC (fGt (fIx (fA 5) (fC (.int 1))) (fIx (fIx (fA 0) (fA 4)) (fC (.int 0))))) (iC (fGt (i7 (fIx (fA 5) (fC (.int 0))) (fIx (fA 5) (fC (.int 1)))) (fA 2)))))) (gW (fC (.bl false))) iD)))
def uY:FS:=
 (fO (fIf (oE (k6 (mK (uD "list" (fA 3)))) (iC (fNe (mX (fB (fA 3) fJ)) (mX (fB (fA 0) fJ))))) (gW (fC (.bl false))) iD)
  (fO (lF (mX (fB (fA 0) fJ)) (gN 4)
   rJ)
  (gW (aKC (fB (fV (jQ (fA 1) 2 [3] (gU [0,1]) gZ (fGe (fIx (fIx (fA 2) (fA 1)) (fC (.int 0))) (i7 (fIx (fIx (fA 2) (fA 0)) (fC (.int 0))) (fIx (fIx (fA 2) (fA 0)) (fC (.int 1))))))) fJ)))))
def nQ:List T->Option T:=jK uY 6
def tJ:FS:=
 (fO (fIf (oE (k6 (mK (f8 1 mC (fB (fIx (fA 2) (fA 3)) fJ)))) (oE (iC (fLt (fIx (fA 2) (fA 3)) (fC (.int 0)))) (iC (fGe (fIx (fA 2) (fA 3)) (fA 0))))) (gW (fC (.bl false))) iD)
  (fIf (nV (iC (fGt (fA 3) (fC (.int 0)))) (iC (aHz (fV (gK (fB (fIx (fA 2) (pH (fA 3) (fC (.int 1)))) (fB (fIx (fA 2) (fA 3)) fJ)))) (fA 1)))) (gW (fC (.bl false))) iD))
def xU:FS:=
 (fO (fIf (iC (fEq (fA 2) (fV (gK fJ)))) (gW (fC (.bl false))) iD)
  (fO (lF (mX (fB (fA 2) fJ)) (gN 3)
   tJ)
  (gW (fC (.bl true)))))
def oR:List T->Option T:=jK xU 4
def pC:FS:=
 (fO (fIf (oE (k6 (mK (uD "list" (fA 3)))) (oE (iC (fLt (mX (fB (fA 3) fJ)) (fC (.int 2)))) (oE (k6 (mK (f8 1 mC (fB (fIx (fA 3) (fC (.int 0))) fJ)))) (iC (fLt (fIx (fA 3) (fC (.int 0))) (fC (.int 1))))))) (gW (fC (.bl false))) iD)
  (fIf (k6 (mK (f8 3 oR (fB (fA 0) (fB (fA 1) (fB (fV (fSl (fA 3) (rF (fC (.int 1))) mS)) fJ)))))) (gW (fC (.bl false))) iD))
def rB:FS:=
 (fO (fIf (k6 (mK (uD "list" (fA 2)))) (gW (fC (.bl false))) iD)
  (fO (oP (fA 2) (gN 3)
   pC)
  (gW (fC (.bl true)))))
def mD:List T->Option T:=jK rB 4
def aAs:FS:=
 (fO (fY (fV (gK (fB (fV (jQ (fA 0) 1 [] (gN 0) gZ (fV (aCs (fB (fA 0) fJ))))) (fB (fV (jQ (fA 1) 1 [] (gN 0) gZ (fV (aCs (fB (fA 0) fJ))))) fJ)))) (gN 5))
  (fO (fY (aBe 3 mB (fB (fIx (fA 5) (fC (.int 0))) (fB (fIx (fA 5) (fC (.int 1))) (fB (fA 2) fJ)))) (gN 6))
  (fO (fY (aBe 3 kG (fB (fIx (fA 5) (fC (.int 0))) (fB (fIx (fA 5) (fC (.int 1))) (fB (fA 2) fJ)))) (gN 7))
  (fO (fIf (iC (fNe (fA 5) (fV (gK (fB (fA 0) (fB (fA 1) fJ)))))) (gW (fC (.bl false))) iD)
  (fO (fIf (iC (fLt (fA 2) (fA 3))) (gW (wZ (i8 (fA 6) (fC .non) aDg) (i8 (fA 7) (fC .non) aDg))) iD)
  (fO (fIf (oE (k6 (mK (f8 4 nQ (fB (fA 0) (fB (fA 1) (fB (fA 2) (fB (fA 6) fJ))))))) (k6 (mK (f8 3 mD (fB (mX (fB (fA 0) fJ)) (fB (fA 1) (fB (fA 7) fJ))))))) (gW (fC (.bl false))) iD)
  (fO (fIf (nV (iC (fGe (fA 2) (fA 4))) (iC (fNe (fA 7) (fV (gK fJ))))) (gW (fC (.bl false))) iD)
  (fO (fIf (iC (fNe (f8 2 oB (fB (fA 0) (fB (fA 6) fJ))) (f8 3 n6 (fB (fA 0) (fB (fA 7) (fB (fA 2) fJ)))))) (gW (fC (.bl false))) iD)
  (fO (aBv 1 kQ (fB (fA 6) fJ))
  (fO (aBv 1 kQ (fB (fA 7) fJ))
  (gW (fEq (fA 5) (fV (gK (fB (fA 0) (fB (fA 1) fJ))))))))))))))))
def qN:List T->Option T:=jK aAs 8
def aEf:FS:=
 (fIf (k6 (mK (f8 5 qN (fB (fA 1) (fB (fA 2) (fB (fA 9) (fB (fA 3) (fB (fA 4) fJ)))))))) (gW (fC (.bl false))) iD)
def aK8:FS:=
 (fO (fY (f8 3 sZ (fB (fA 0) (fB (fC (.int 8)) (fB (aKr (fC (.int 10)) (fC (.int 20))) fJ)))) (gU [1,2]))
  (fO (fY (f8 2 qL (fB (fA 1) (fB (fA 2) fJ))) (gU [3,4]))
  (fO (fY (f8 2 iK (fB (fA 0) (fB (fC (.int 2)) fJ))) (gN 5))
  (fO (fY (fIx (fV (gK (fB (fC (.int 1)) (fB (iI (fA 5) (aKr (fC (.int 10)) (fC (.int 60)))) fJ)))) (iI (fA 5) (fC (.int 2)))) (gN 6))
  (fO (fY (i7 (lW (f8 2 j4 (fB (fA 5) (fB (fC (.int 70)) fJ))) (aKr (f8 2 j4 (fB (fA 5) (fB (fC (.int 71)) fJ))) (fC (.int 3)))) (f8 2 iK (fB (fA 0) (fB (fC (.int 62)) fJ)))) (gN 7))
  (fO (fY (i7 (fA 3) (iI (fA 7) (i7 (pH (fA 4) (fA 3)) (fC (.int 1))))) (gN 8))
  (fO (oP (fV (gK (fB (fA 8) (fB (fA 3) (fB (pH (fA 3) (fA 6)) (fB (pH (i7 (fA 4) (fA 6)) (fC (.int 1))) fJ)))))) (gN 9)
   aEf)
  (gW (fC (.bl true))))))))))
def aEz:List T->Option T:=jK aK8 10
end K42
namespace K42
open PySem L2 TL Lib NF
variable{ws:List (Int×Int×Int)}{i:Nat}{pp:Nat->Int}{row:List T}{j:Int}{r:T}
theorem aHD:sZ=Lib.aE0:=rfl
theorem aLr(hi:i<ws.length):(fZ ws).u i=ws[i].1/\(fZ ws).l i=ws[i].2.1/\(fZ ws).p i=ws[i].2.2:=by
 refine⟨?_,?_,?_⟩<;>simp[fZ,hi]
def plT(ws:List (Int×Int×Int))(pp:Nat->Int):List (List Int):=ws.zipIdx.map fun x=>rowOf pp x.1 x.2
theorem aKS(hi:i<ws.length):(plT ws pp)[i]?=some [beg pp i,hrs (fZ ws) pp i]:=by
 unfold plT hrs;rw[(aLr hi).1,bJ,dS,bA hi];show some (rowOf pp ws[i] (0+i))=_;rw[dU];rfl
theorem aAG(hi:i<ws.length):atI ((plT ws pp).map iT) (i:Int)=some (iT [beg pp i,hrs (fZ ws) pp i]):=by
 rw[qB,bJ,aKS hi];rfl
theorem aHs(hi:i<ws.length):atI (ws.map w3) (i:Int)=some (w3 ((fZ ws).u i,(fZ ws).l i,(fZ ws).p i)):=by
 obtain⟨h1,h2,h3⟩:=aLr hi;rw[qB,bJ,bA hi,h1,h2,h3];rfl
theorem aAV:(plT ws pp).length=ws.length:=by simp[plT]
theorem ix2{τ:TSt}{C:Sto}{a k:Nat}{l:List T}{i:Int}{v:T}(h0:τ[a]?=some (some (.lst l)))(hk:τ[k]?=some (some (.int i)))(hl:atI l i=some r)(hr:sqT C r=some row)(hv:atI row j=some v):fIx (fIx (fA a) (fA k)) (fC (.int j)) τ C=some (v,C):=
 uK (fP.mpr (fP.mpr (fD.mpr ⟨_,h0,fD.mpr ⟨_,hk,kY.mpr ⟨_,rfl,_,hl,iR.mpr (kY.mpr ⟨_,hr,_,hv,rfl,rfl⟩)⟩⟩⟩)))
theorem ix1{τ:TSt}{C:Sto}{a:Nat}{v:T}(h0:τ[a]?=some (some r))(hr:sqT C r=some row)(hv:atI row j=some v):fIx (fA a) (fC (.int j)) τ C=some (v,C):=
 uK (fP.mpr (fD.mpr ⟨_,h0,iR.mpr (kY.mpr ⟨_,hr,_,hv,rfl,rfl⟩)⟩))
theorem aIo(hl:ws.length<=8)(hok:∀w∈ws,uH w)(hh:∀i,i<ws.length->0<=(fZ ws).u i - hrs (fZ ws) pp i/\(fZ ws).u i - hrs (fZ ws) pp i<2^252):oB [.lst (ws.map w3),.lst ((plT ws pp).map iT)]=some (.int (sm ws.length fun i=>(fZ ws).p i*((fZ ws).u i - hrs (fZ ws) pp i))):=by
 apply iV;unfold zO;walk_at "b"
 refine iH.mpr (gF.mpr (fG.mpr (gC.mpr (oZ.mpr (gF.mpr (fG.mpr (fD.mpr ⟨_,rfl,fM.mpr (lT.mpr ⟨_,rfl,_,rfl,⟨by rw[aR];lia,by lia⟩,?_⟩)⟩)))))))
 rw[pX,aR,cE]
 refine iB (xs:=bK ws.length) (fun i=>T.int ((fZ ws).p i*((fZ ws).u i - hrs (fZ ws) pp i))) (fun i hi=>?_) ?_
 ·have hi:=dA.mp hi;have g1:=aHs (ws:=ws) hi;have g2:=aAG (pp:=pp) hi;have hw:=yZ (P:=uH) hok hi;rw[dW]
  refine gD.mpr (fP.mpr (fU (ix2 (k:=0) (a:=1) rfl rfl g1 rfl rfl) (fP.mpr (fU (ix2 (k:=0) (a:=1) rfl rfl g1 rfl rfl) (fU (ix2 (k:=0) (a:=2) rfl rfl g2 rfl rfl) (jH.mpr (yP.mpr ⟨yW (m:=252) (n:=252) ?_ ?_ (by decide),rfl,rfl⟩)))))))
  ·exact Bt.of_lt hw.2.2.1 hw.2.2.2.2
  ·exact Bt.of_lt (hh i hi).1 (hh i hi).2
 ·refine fM.mpr (nZ.mpr ⟨_,rfl,_,oJ (f:=fun i=>(fZ ws).p i*((fZ ws).u i - hrs (fZ ws) pp i)),rfl,?_⟩)
  have:∀(g:Nat->Int)(n:Nat),((bK n).map g).sum=sm n g:=fun g n=>by
   induction n with
   |zero=>rfl
   |succ n ih=>rw[aPP,bS,aOJ,ih];simp[sm]
  rw[this]
  exact iE gH
theorem aDf{ps:List (Int×Int)}{e:Int}(hl:ws.length<=8)(hp:ps.length<=1000)(hw:InW ws.length ps)(h1:∀i,i<ws.length->0<=beg pp i/\(fZ ws).l i<=hrs (fZ ws) pp i/\hrs (fZ ws) pp i<=(fZ ws).u i/\beg pp i+hrs (fZ ws) pp i<=e)
 (h2:∀p∈ps,beg pp p.1.toNat+hrs (fZ ws) pp p.1.toNat<=beg pp p.2.toNat):nQ [.lst (ws.map w3),.lst (ps.map pT),.int e,.lst ((plT ws pp).map iT)]=some (.bl true):=by
 apply iV;unfold uY;walk_at "b"
 refine fN.mpr (iY.mpr (lQ.mpr (kO.mpr (jY.mpr (sO.mpr (fD.mpr ⟨_,rfl,true,rfl,true,rfl,?_⟩))))))
 rw[if_neg (by simp)]
 refine gP.mpr (fP.mpr (gF.mpr (fG.mpr (fD.mpr ⟨_,rfl,fM.mpr (lT.mpr ⟨_,rfl,gF.mpr (fG.mpr (fD.mpr ⟨_,rfl,fM.mpr (lT.mpr ⟨_,rfl,v5.mpr ⟨_,rfl,?_⟩⟩)⟩))⟩)⟩))))
 rw[aR,aR,aAV,if_neg (by simp)]
 refine gM.mpr (f7.mpr (fN.mpr (l7.mpr (gF.mpr (fG.mpr (fD.mpr ⟨_,rfl,fM.mpr (lT.mpr ⟨_,rfl,_,rfl,⟨by lia,by rw[aR];lia⟩,?_⟩)⟩))))))
 rw[aR,cE]
 refine lN (fun i τ C=>C=[]/\∃a b,τ=[some (.lst (ws.map w3)),some (.lst (ps.map pT)),some (.int e),some (.lst ((plT ws pp).map iT)),a,b]) ⟨rfl,_,_,rfl⟩ ?_ ?_
 ·rintro i τ C hi ⟨rfl,a,b,rfl⟩;have g1:=aHs (ws:=ws) hi;have g2:=aAG (pp:=pp) hi;obtain⟨k1,k2,k3,k4⟩:=h1 i hi;rw[dW];unfold rJ
  refine gD.mpr (fN.mpr (gB.mpr (fP.mpr (fD.mpr ⟨_,rfl,fD.mpr ⟨_,rfl,kY.mpr ⟨_,rfl,_,g2,gD.mpr (f7.mpr (fN.mpr (iY.mpr ?_)))⟩⟩⟩))))
  have x0:∀{τ:TSt}{C:Sto},τ[5]?=some (some (iT [beg pp i,hrs (fZ ws) pp i]))->fIx (fA 5) (fC (.int 0)) τ C=some (.int (beg pp i),C):=fun h=>ix1 h rfl rfl
  have x1:∀{τ:TSt}{C:Sto},τ[5]?=some (some (iT [beg pp i,hrs (fZ ws) pp i]))->fIx (fA 5) (fC (.int 1)) τ C=some (.int (hrs (fZ ws) pp i),C):=fun h=>ix1 h rfl rfl
  refine lQ.mpr (kO.mpr (jY.mpr (sO.mpr (fD.mpr ⟨_,rfl,true,rfl,true,rfl,?_⟩))))
  rw[if_neg (by simp)]
  refine lQ.mpr (gP.mpr (fP.mpr (gF.mpr (fG.mpr (fD.mpr ⟨_,rfl,fM.mpr (lT.mpr ⟨_,rfl,iR.mpr (v5.mpr ⟨_,rfl,?_⟩)⟩)⟩)))))
  rw[if_neg (by simp)]
  refine lQ.mpr (kO.mpr (jY.mpr (gF.mpr (fG.mpr (fU (x0 rfl) (fM.mpr (qM.mpr ⟨true,rfl,?_⟩)))))))
  rw[if_neg (by simp)]
  refine kO.mpr (jY.mpr (gF.mpr (fG.mpr (fU (x1 rfl) (fM.mpr (qM.mpr ⟨true,rfl,?_⟩))))))
  rw[if_neg (by simp)]
  refine gM.mpr (f7.mpr (iY.mpr (lQ.mpr (gP.mpr (fP.mpr (fU (x0 rfl) (iR.mpr (jH.mpr ⟨_,rfl,?_⟩))))))))
  rw[if_neg (by rw[decide_eq_false (by lia)];simp)]
  refine lQ.mpr (gP.mpr (fP.mpr (fU (x1 rfl) (fU (ix2 (k:=4) (a:=0) rfl rfl g1 rfl rfl) (jH.mpr ⟨_,rfl,?_⟩)))))
  rw[if_neg (by rw[decide_eq_false (by dsimp only;lia)];simp)]
  refine lQ.mpr (gP.mpr (fP.mpr (fU (x1 rfl) (fU (ix2 (k:=4) (a:=0) rfl rfl g1 rfl rfl) (jH.mpr ⟨_,rfl,?_⟩)))))
  rw[if_neg (by rw[decide_eq_false (by dsimp only;lia)];simp)]
  refine gP.mpr (fP.mpr (fP.mpr (fU (x0 rfl) (fU (x1 rfl) (jH.mpr (fD.mpr ⟨_,rfl,jH.mpr ⟨_,rfl,?_⟩⟩))))))
  rw[if_neg (by rw[decide_eq_false (by lia)];simp)]
  exact gM.mpr ⟨trivial,rfl,_,_,rfl⟩
 ·rintro τ C ⟨rfl,a,b,rfl⟩
  refine f7.mpr (iH.mpr (gF.mpr (fG.mpr (gC.mpr (j8.mpr (fD.mpr ⟨_,rfl,_,rfl,by simp[lim];lia,?_⟩))))))
  refine iB (xs:=ps) (en:=pT) (fun _=>T.bl true) (fun p hpm=>?_) ?_
  ·obtain⟨⟨a0,a1⟩,b0,b1⟩:=hw p hpm;have ha:p.1.toNat<ws.length:=by lia
   have hb:p.2.toNat<ws.length:=by lia
   have ga:=aAG (pp:=pp) ha;have gb:=aAG (pp:=pp) hb;rw[b4 a0]at ga;rw[b4 b0]at gb;have hd:decide (beg pp p.1.toNat+hrs (fZ ws) pp p.1.toNat<=beg pp p.2.toNat)=true:=decide_eq_true (h2 p hpm)
   refine xE.mpr ⟨_,rfl,rfl,fP.mpr (fU (ix2 (k:=1) (a:=2) rfl rfl gb rfl rfl) (fP.mpr (fU (ix2 (k:=0) (a:=2) rfl rfl ga rfl rfl) (fU (ix2 (k:=0) (a:=2) rfl rfl ga rfl rfl) (jH.mpr (jH.mpr ⟨rfl,?_⟩))))))⟩
   have h3:=h2 p hpm;simp only[T.bl.injEq]
   exact decide_eq_true (by lia)
  ·refine fM.mpr (aEJ.mpr ⟨_,rfl,ps.map fun _=>true,?_,?_⟩)
   ·clear h2 hw hp;induction ps with
    |nil=>rfl
    |cons p ps ih=>rw[aM,aM];show(bls? (ps.map fun _=>T.bl true)).map _=_;rw[ih];rfl
   ·have:(ps.map fun _=>true).all id=true:=by simp
    rw[this]
    exact iE lA
end K42
namespace K42
open PySem L2 TL Lib NF
variable{ps:List (Int×Int)}
theorem aD8{es:List (Nat×Nat)}:∀{is:List Nat}{b:Option Nat},NF.Chn es b is->∀{k a c:Nat},is[k]?=some a->is[k+1]?=some c->(a,c)∈es
 | [],_,_,_,_,_,h,_=>by simp at h
 |i::is,b,⟨_,h2⟩,0,a,c,h,h'=>by
  simp at h;subst h;cases is with
  |nil=>simp at h'
  |cons j is=>
   simp at h';subst h'
   exact h2.1 i rfl
 |i::is,b,⟨_,h2⟩,k+1,a,c,h,h'=>aD8 h2 (by simpa using h) (by simpa using h')
noncomputable def nI(is:List Nat):List Int:=is.map fun i:Nat=>(i:Int)
def rI(z:Nat×Int×List Nat):List Int:=z.2.1::nI z.2.2
theorem aLa{is:List Nat}{k i:Nat}(h:is[k]?=some i):atI ((nI is).map T.int) (k:Int)=some (.int i):=by
 unfold nI;rw[qB,bJ,bJ,h];rfl
theorem aF7{m:Nat}{is:List Nat}(hne:is≠[])(hl:is.length<1000)(hi:∀i∈is,i<m)(hc:∀k a c:Nat,is[k]?=some a->is[k+1]?=some c->((a:Int),(c:Int))∈ps):oR [.int m,.lst (ps.map pT),.lst ((nI is).map T.int)]=some (.bl true):=by
 apply iV;unfold xU;walk_at "b"
 refine fN.mpr (iY.mpr (gP.mpr (fP.mpr (fD.mpr ⟨_,rfl,gC.mpr (iQ.mpr (fM.mpr ⟨by decide,?_⟩))⟩))))
 refine(aBN (ys:=[])).mpr ⟨_,rfl,?_⟩
 rw[if_neg (by simpa[nI]using hne)]
 refine gM.mpr (f7.mpr (fN.mpr (l7.mpr (gF.mpr (fG.mpr (fD.mpr ⟨_,rfl,fM.mpr (lT.mpr ⟨_,rfl,_,rfl,⟨by lia,by simp[nI];lia⟩,?_⟩)⟩))))))
 rw[aR,cE,show(nI is).length=is.length by simp[nI]]
 refine lN (fun i τ C=>C=[]/\∃a,τ=[some (.int m),some (.lst (ps.map pT)),some (.lst ((nI is).map T.int)),a]) ⟨rfl,_,rfl⟩ ?_ ?_
 ·rintro k τ C hk ⟨rfl,a,rfl⟩;have hg:=bA hk;have him:=hi _ (dG hk);have x0:∀{τ:TSt}{C:Sto},τ[2]?=some (some (.lst ((nI is).map T.int)))->τ[3]?=some (some (.int (k:Int)))->fIx (fA 2) (fA 3) τ C=some (.int is[k],C):=fun h1 h2=>
   uK (fP.mpr (fD.mpr ⟨_,h1,fD.mpr ⟨_,h2,kY.mpr ⟨_,rfl,_,aLa hg,rfl,rfl⟩⟩⟩))
  rw[dW];unfold tJ
  refine gD.mpr (fN.mpr (iY.mpr (lQ.mpr (kO.mpr (jY.mpr (gF.mpr (fG.mpr (fU (x0 rfl rfl) (fM.mpr (qM.mpr ⟨true,rfl,?_⟩))))))))))
  rw[if_neg (by simp)]
  refine lQ.mpr (gP.mpr (fP.mpr (fU (x0 rfl rfl) (iR.mpr (jH.mpr ⟨_,rfl,?_⟩)))))
  rw[if_neg (by rw[decide_eq_false (by lia)];simp)]
  refine gP.mpr (fP.mpr (fU (x0 rfl rfl) (fD.mpr ⟨_,rfl,jH.mpr ⟨_,rfl,?_⟩⟩)))
  rw[if_neg (by rw[decide_eq_false (by lia)];simp)]
  refine gM.mpr (f7.mpr (iY.mpr (sV.mpr (gP.mpr (fP.mpr (fD.mpr ⟨_,rfl,iR.mpr (jH.mpr ⟨_,rfl,?_⟩)⟩))))))
  by_cases hk0:0<k
  ·rw[if_pos (decide_eq_true (by lia))];obtain⟨j,rfl⟩:∃j,k=j+1:=⟨k - 1,by lia⟩;have hg':=bA (show j<is.length by lia);have hp:=hc j _ _ hg' hg
   refine gP.mpr (fP.mpr (gC.mpr (iQ.mpr (fG.mpr (fP.mpr (fD.mpr ⟨_,rfl,fP.mpr (fD.mpr ⟨_,rfl,iR.mpr (jH.mpr ?_)⟩)⟩))))))
   rw[show((j+1:Nat):Int) - 1=(j:Int)by lia]
   refine kY.mpr ⟨_,rfl,_,aLa hg',fG.mpr (fU (x0 rfl rfl) (fM.mpr ⟨by simp[lim],fD.mpr ⟨_,rfl,aB7.mpr ⟨_,rfl,?_⟩⟩⟩))⟩
   rw[if_neg (by simp[hp])]
   exact gM.mpr ⟨trivial,rfl,_,rfl⟩
  ·rw[if_neg (by rw[decide_eq_false (by lia)];simp),if_neg (by simp)]
   exact gM.mpr ⟨trivial,rfl,_,rfl⟩
 ·rintro τ C ⟨rfl,a,rfl⟩
  exact f7.mpr (iH.mpr (iR.mpr (iE lA)))
theorem aBr{m:Nat}{rl:List (Nat×Int×List Nat)}(h:∀z∈rl,1<=z.2.1/\z.2.2≠[]/\z.2.2.length<1000/\(∀i∈z.2.2,i<m)/\∀k a c:Nat,z.2.2[k]?=some a->z.2.2[k+1]?=some c->((a:Int),(c:Int))∈ps):
 mD [.int m,.lst (ps.map pT),.lst (rl.map fun z=>iT (rI z))]=some (.bl true):=by
 apply iV;unfold rB;walk_at "b"
 refine fN.mpr (iY.mpr (kO.mpr (jY.mpr (sO.mpr (fD.mpr ⟨_,rfl,true,rfl,true,rfl,?_⟩)))))
 rw[if_neg (by simp)]
 refine gM.mpr (f7.mpr (fN.mpr (nF.mpr (fD.mpr ⟨_,rfl,_,rfl,?_⟩))))
 refine jW (xs:=rl) (en:=fun z=>iT (rI z)) (fun i τ C=>C=[]/\∃a,τ=[some (.int m),some (.lst (ps.map pT)),some (.lst (rl.map fun z=>iT (rI z))),a]) ⟨rfl,_,rfl⟩ ?_ ?_
 ·rintro j z τ C hj ⟨rfl,a,rfl⟩;obtain⟨z1,z2,z3,z4,z5⟩:=h z (bB hj);have x0:∀{τ:TSt}{C:Sto},τ[3]?=some (some (iT (rI z)))->fIx (fA 3) (fC (.int 0)) τ C=some (.int z.2.1,C):=fun h=>ix1 h rfl wH
  have hlen:(rI z).length=z.2.2.length+1:=by simp[rI,nI]
  have hpos:=dY.mpr z2;have hcf:CFs [T.int (m:Int),.lst (ps.map pT),.lst ((nI z.2.2).map T.int)]=true:=by rw[fT,fT,fT,g8,gH,gJ,gJ,kS,iG];rfl
  unfold pC
  refine gD.mpr (fN.mpr (iY.mpr (lQ.mpr (kO.mpr (jY.mpr (sO.mpr (fD.mpr ⟨_,rfl,true,rfl,true,rfl,?_⟩)))))))
  rw[if_neg (by simp)]
  refine lQ.mpr (gP.mpr (fP.mpr (gF.mpr (fG.mpr (fD.mpr ⟨_,rfl,fM.mpr (lT.mpr ⟨_,rfl,iR.mpr (jH.mpr ⟨_,rfl,?_⟩)⟩)⟩)))))
  rw[aR,hlen,if_neg (by rw[decide_eq_false (by lia)];simp)]
  refine lQ.mpr (kO.mpr (jY.mpr (gF.mpr (fG.mpr (fU (x0 rfl) (fM.mpr (qM.mpr ⟨true,rfl,?_⟩)))))))
  rw[if_neg (by simp)]
  refine gP.mpr (fP.mpr (fU (x0 rfl) (iR.mpr (jH.mpr ⟨_,rfl,?_⟩))))
  rw[if_neg (by rw[decide_eq_false (by lia)];simp)]
  refine gM.mpr (f7.mpr (iY.mpr (kO.mpr (jY.mpr (gF.mpr (fG.mpr (fD.mpr ⟨_,rfl,fG.mpr (fD.mpr ⟨_,rfl,fG.mpr (gC.mpr (aCU.mpr (fD.mpr ⟨_,rfl,v9.mpr (iR.mpr ⟨_,rfl,aDu.mpr ⟨_,rfl,?_⟩⟩)⟩)))⟩)⟩)))))))
  have hcut:aA3 ((rI z).map T.int) (some 1) none=(nI z.2.2).map T.int:=by unfold rI;rw[aM];exact aGz
  rw[hcut]
  refine fM.mpr ((gA (aF7 z2 z3 z4 z5) rfl hcf).mpr ⟨true,rfl,?_⟩)
  rw[if_neg (by simp)]
  exact gM.mpr ⟨trivial,rfl,_,rfl⟩
 ·rintro τ C ⟨rfl,a,rfl⟩
  exact f7.mpr (iH.mpr (iR.mpr (iE lA)))
end K42
namespace K42
open PySem L2 TL Lib NF
theorem aC6{z:List (Nat×Int×List Nat)}{k:Nat}(h:∀x∈z,x.2.2.count k<=1):((z.filter fun x=>decide (k∈x.2.2)).map fun x=>x.2.1).sum=(z.map fun x=>x.2.1*(x.2.2.count k:Int)).sum:=by
 induction z with
 |nil=>rfl
 |cons x z ih=>
  have ih:=ih fun y hy=>h y (aZ _ hy)
  rw[aO6,aM,dX,<-ih];by_cases hk:k∈x.2.2
  ·rw[if_pos (decide_eq_true hk),aM,dX];have h1:=h x bF;have h2:=List.count_pos_iff.mpr hk;rw[show x.2.2.count k=1 by lia];simp
  ·rw[if_neg (by simpa using hk),aPA.mpr hk];simp
theorem Bt.big{x:Int}(h0:0<=x)(h:x<2^256):Bt 256 x:=Bt.of_lt h0 h
theorem aLo{τ:TSt}{C:Sto}{a b m n:Nat}{x y:Int}(ha:τ[a]?=some (some (.int x)))(hb:τ[b]?=some (some (.int y)))(h1:Bt m x)(h2:Bt n y)(h:m+n<=134217728):lW (fA a) (fA b) τ C=some (.int (x*y),C):=
 uK (fP.mpr (fD.mpr ⟨_,ha,fD.mpr ⟨_,hb,yP.mpr ⟨yW h1 h2 h,rfl,rfl⟩⟩⟩))
theorem aNz{τ:TSt}{C:Sto}{a b c m n:Nat}{x y z:Int}(ha:τ[a]?=some (some (.int x)))(hb:τ[b]?=some (some (.int y)))(hc:τ[c]?=some (some (.int z)))(h1:Bt m x)(h2:Bt n (y - z))(h:m+n<=134217728):lW (fA a) (pH (fA b) (fA c)) τ C=some (.int (x*(y - z)),C):=
 uK (fP.mpr (fD.mpr ⟨_,ha,fP.mpr (fD.mpr ⟨_,hb,fD.mpr ⟨_,hc,jH.mpr (yP.mpr ⟨yW h1 h2 h,rfl,rfl⟩)⟩⟩)⟩))
theorem aCT{ws:List (Int×Int×Int)}{rl:List (Nat×Int×List Nat)}{e:Int}(hl:ws.length<=8)(hok:∀w∈ws,uH w)(hrl:rl.length<90000)(hz:∀z∈rl,1<=z.2.1/\∀i,z.2.2.count i<=1)(he0:0<=e)(he:e<2^256)(hs:0<=(rl.map fun z=>z.2.1).sum/\(rl.map fun z=>z.2.1).sum<2^256)
 (hk:∀i,i<ws.length->0<=(rl.map fun z=>z.2.1*(z.2.2.count i:Int)).sum/\(rl.map fun z=>z.2.1*(z.2.2.count i:Int)).sum<2^256):
 n6 [.lst (ws.map w3),.lst (rl.map fun z=>iT (rI z)),.int e]=some (.int (0 - e*(rl.map fun z=>z.2.1).sum+sm ws.length fun i=>min ((rl.map fun z=>z.2.1*(z.2.2.count i:Int)).sum*(fZ ws).u i) ((fZ ws).p i*((fZ ws).u i - (fZ ws).l i)+(rl.map fun z=>z.2.1*(z.2.2.count i:Int)).sum*(fZ ws).l i))):=by
 apply iV;unfold zX;walk_at "b"
 refine fN.mpr (gB.mpr (fP.mpr (iR.mpr (fP.mpr (fD.mpr ⟨_,rfl,gF.mpr (fG.mpr (gC.mpr (j8.mpr (fD.mpr ⟨_,rfl,_,rfl,by simp[lim];lia,?_⟩))))⟩)))))
 refine iB (xs:=rl) (en:=fun z=>iT (rI z)) (fun z=>T.int z.2.1) (fun z _=>gD.mpr (fU (ix1 (r:=iT (rI z)) rfl rfl wH) ⟨rfl,rfl⟩)) ?_
 refine fM.mpr (nZ.mpr ⟨_,rfl,_,oJ (f:=fun z:Nat×Int×List Nat=>z.2.1),rfl,yP.mpr ⟨yW (m:=256) (n:=256) (Bt.big he0 he) (Bt.big hs.1 hs.2) (by decide),jH.mpr (gD.mpr (f7.mpr (fN.mpr (l7.mpr (gF.mpr (fG.mpr (fD.mpr ⟨_,rfl,fM.mpr (lT.mpr ⟨_,rfl,_,rfl,⟨by lia,by rw[aR];lia⟩,?_⟩)⟩)))))))⟩⟩)
 rw[aR,cE]
 refine lN (fun i τ C=>C=[]/\∃a b c d f,τ=[some (.lst (ws.map w3)),some (.lst (rl.map fun z=>iT (rI z))),some (.int e),some (.int (0 - e*(rl.map fun z=>z.2.1).sum+sm i fun i=>min ((rl.map fun z=>z.2.1*(z.2.2.count i:Int)).sum*(fZ ws).u i) ((fZ ws).p i*((fZ ws).u i - (fZ ws).l i)+(rl.map fun z=>z.2.1*(z.2.2.count i:Int)).sum*(fZ ws).l i))),a,b,c,d,f]) ⟨rfl,none,none,none,none,none,?_⟩ ?_ ?_
 ·simp[sm]
 ·rintro i τ C hi ⟨rfl,a,b,c,d,g,rfl⟩;have g1:=aHs (ws:=ws) hi;have hw:=yZ (P:=uH) hok hi;obtain⟨k1,k2⟩:=hk i hi;rw[dW];unfold u9
  refine gD.mpr (fN.mpr (gB.mpr (fP.mpr (fD.mpr ⟨_,rfl,fD.mpr ⟨_,rfl,kY.mpr ⟨_,rfl,_,g1,xE.mpr ⟨_,rfl,rfl,f7.mpr (fN.mpr (gB.mpr (gF.mpr (fG.mpr (gC.mpr (j8.mpr (fD.mpr ⟨_,rfl,_,rfl,by simp[lim];lia,?_⟩)))))))⟩⟩⟩⟩))))
  refine sU (xs:=rl) (en:=fun z=>iT (rI z)) (fun z=>decide (i∈z.2.2)) (fun z=>T.int z.2.1) (fun z hzm=>?_) ?_
  ·refine gD.mpr (gP.mpr (fP.mpr (fD.mpr ⟨.int (i:Int),rfl,gC.mpr (aCU.mpr (fD.mpr ⟨iT (rI z),rfl,v9.mpr (iR.mpr ⟨_,rfl,aDu.mpr ⟨_,rfl,?_⟩⟩)⟩))⟩)))
   have hcut:aA3 ((rI z).map T.int) (some 1) none=(nI z.2.2).map T.int:=by unfold rI;rw[aM];exact aGz
   rw[hcut];have hin:((i:Int)∈nI z.2.2)↔i∈z.2.2:=by
    unfold nI;rw[bL];constructor
    ·rintro⟨j,hj,e⟩;rw[show i=j by lia];exact hj
    ·exact fun h=>⟨i,h,rfl⟩
   refine aBU.mpr ⟨_,rfl,rfl,?_,fun _=>fU (ix1 (r:=iT (rI z)) rfl rfl wH) ⟨rfl,rfl⟩⟩
   simp[hin]
  ·refine fM.mpr (nZ.mpr ⟨_,rfl,_,oJ (f:=fun z:Nat×Int×List Nat=>z.2.1),rfl,gD.mpr (f7.mpr ?_)⟩)
   rw[aC6 fun x hx=>(hz x hx).2 i];generalize hX:(rl.map fun z=>z.2.1*(z.2.2.count i:Int)).sum=X at k1 k2;have bu:Bt 252 ((fZ ws).u i):=Bt.of_lt (aO9 hw.1 hw.2.1) hw.2.2.2.1;have bl:Bt 252 ((fZ ws).l i):=Bt.of_lt hw.1 (eG hw.2.1 hw.2.2.2.1);have bp:Bt 252 ((fZ ws).p i):=Bt.of_lt hw.2.2.1 hw.2.2.2.2;have bd:Bt 252 ((fZ ws).u i - (fZ ws).l i):=Bt.of_lt (by have:=hw.2.1;show 0<=(fZ ws).u i - (fZ ws).l i;unfold fZ;dsimp only;lia) (by have:=hw.2.2.2.1;have:=hw.1;show(fZ ws).u i - (fZ ws).l i<_;unfold fZ;dsimp only;lia);have bX:=Bt.big k1 k2
   refine gB.mpr (fP.mpr (fD.mpr ⟨_,rfl,gF.mpr (fG.mpr ?_)⟩))
   refine fU (aLo (a:=8) (b:=5) (x:=X) (y:=(fZ ws).u i) rfl rfl bX bu (by decide)) (fG.mpr (fP.mpr ?_))
   refine fU (aNz (a:=7) (b:=5) (c:=6) (x:=(fZ ws).p i) (y:=(fZ ws).u i) (z:=(fZ ws).l i) rfl rfl rfl bp bd (by decide)) ?_
   refine fU (aLo (a:=8) (b:=6) (x:=X) (y:=(fZ ws).l i) rfl rfl bX bl (by decide)) (jH.mpr (fM.mpr (yT.mpr (jH.mpr (gD.mpr ⟨trivial,rfl,some (.int i),some (.int ((fZ ws).u i)),some (.int ((fZ ws).l i)),some (.int ((fZ ws).p i)),some (.int X),?_⟩)))))
   have e1:(sm (i+1) fun i=>min ((rl.map fun z=>z.2.1*(z.2.2.count i:Int)).sum*(fZ ws).u i) ((fZ ws).p i*((fZ ws).u i - (fZ ws).l i)+(rl.map fun z=>z.2.1*(z.2.2.count i:Int)).sum*(fZ ws).l i))=(sm i fun i=>min ((rl.map fun z=>z.2.1*(z.2.2.count i:Int)).sum*(fZ ws).u i) ((fZ ws).p i*((fZ ws).u i - (fZ ws).l i)+(rl.map fun z=>z.2.1*(z.2.2.count i:Int)).sum*(fZ ws).l i))+min (X*(fZ ws).u i) ((fZ ws).p i*((fZ ws).u i - (fZ ws).l i)+X*(fZ ws).l i):=by
    rw[<-hX];rfl
   rw[e1,<-Int.add_assoc];rfl
 ·rintro τ C ⟨rfl,a,b,c,d,g,rfl⟩
  exact f7.mpr (iH.mpr (fD.mpr ⟨_,rfl,iE gH⟩))
end K42
namespace K42
open PySem L2 TL Lib NF
variable{cs:List Nat}{Cn:Sto}{rows:List (List Int)}
theorem aHo{C:Sto}{k:Nat}(hk:C[k]?=some (.l,cs.map T.cell))(hl:cs.length<395000)(hc:∀c∈cs,c≠k/\∃xs:List T,C[c]?=some (.l,xs)/\xs.length<=2000):∃C',kQ [.cell k] C=some C'/\∀d,d≠k->d∉cs->C'[d]?=C[d]?:=by
 have:wpS uF (st0 2 [.cell k]) C fun l _ C'=>l=.nx/\∀d,d≠k->d∉cs->C'[d]?=C[d]?:=by
  unfold uF;walk_at "b"
  refine fN.mpr (nF.mpr (fD.mpr ⟨_,rfl,_,gL.mpr hk,?_⟩))
  refine jW (xs:=cs) (en:=T.cell) (fun j τ C'=>j<=cs.length/\∃a,τ=[some (.cell k),a]/\C'[k]?=some (.l,cs.map T.cell)/\(∀c∈cs,∃xs:List T,C'[c]?=some (.l,xs)/\xs.length<=2000+j)/\∀d,d∉cs->C'[d]?=C[d]?) ⟨dJ _,_,rfl,hk,fun c h=>let ⟨_,xs,h1,h2⟩:=hc c h;⟨xs,h1,by lia⟩,fun _ _=>rfl⟩ ?_ ?_
  ·rintro j c τ C' hj ⟨hjl,a,rfl,h1,h2,h9⟩;have hcm:=bB hj;have hj':=(aP.mp hj).1;obtain⟨xs,h3,h4⟩:=h2 c hcm;have hck:=(hc c hcm).1;unfold uS
   refine gD.mpr (tK.mpr (fD.mpr ⟨_,rfl,fG.mpr (iR.mpr (fM.mpr ⟨_,rfl,by rw[gL.mpr h3];rfl,_,gL.mpr h3,tE.mpr ⟨by simp[lim];lia,?_,by lia,_,rfl,?_,fun d hd=>?_,fun d hd=>?_⟩⟩))⟩))
   ·show lc _ k=_;rw[gL,aS hck];exact h1
   ·rw[aS hck];exact h1
   ·by_cases hdc:c=d
    ·subst hdc
     exact⟨_,mM (kD h3),by simp;lia⟩
    ·obtain⟨ys,g1,g2⟩:=h2 d hd
     exact⟨ys,by rw[aS hdc];exact g1,by lia⟩
   ·rw[aS (by rintro rfl;exact hd hcm)];exact h9 d hd
  ·rintro τ C' ⟨_,a,rfl,h1,h2,h9⟩
   refine f7.mpr (tK.mpr (fD.mpr ⟨_,rfl,fG.mpr (gC.mpr (iQ.mpr (fG.mpr (iR.mpr (fM.mpr ⟨by simp[lim],fM.mpr ⟨_,rfl,by rw[gL.mpr h1];rfl,_,gL.mpr h1,tE.mpr ⟨by simp[lim];lia,rfl,fun d hd hc=>by rw[aS (Ne.symm hd)];exact h9 d hc⟩⟩⟩)))))⟩))
 obtain⟨l,τ',C',e,rfl,h9⟩:=this
 exact⟨C',by unfold kQ aE4;rw[e],h9⟩
theorem aAc{k:Nat}:∀{xs:List Nat},shs k (xs.map T.cell)=(xs.map (k+ ·)).map T.cell
 | []=>by simp[shs]
 |x::xs=>by simp[shs,sh,aAc]
theorem aCw{k:Nat}:∀{xs:List Int},shs k (xs.map T.int)=xs.map T.int
 | []=>by simp[shs]
 |x::xs=>by simp[shs,sh,aCw]
theorem aLl{C:Sto}{c:Nat}{x:Cl}(h:Cn[c]?=some x):(C++Cn.map (shc C.length))[C.length+c]?=some (shc C.length x):=by
 rw[bH (by lia),show C.length+c - C.length=c by lia,bJ,h];rfl
structure kK(C:Sto)(k:Nat)(cs:List Nat)(rows:List (List Int)):Prop where
 at_:C[k]?=some (.l,cs.map T.cell)
 rows:cs.length=rows.length/\∀(i:Nat)(c:Nat)(r:List Int),cs[i]?=some c->rows[i]?=some r->C[c]?=some (.l,r.map T.int)/\c≠k
theorem kK.dr{C:Sto}{k:Nat}{cs:List Nat}{rows:List (List Int)}(R:kK C k cs rows):dr 3 C (.cell k)=some (.lst (rows.map iT)):=by
 have h1:mapO (TL.dr 2 C) (cs.map T.cell)=some (rows.map iT):=aEZ (by simp[R.rows.1]) fun i t u ht hu=>by
  rw[bJ]at ht hu;obtain⟨c,hc,rfl⟩:=aL.mp ht;obtain⟨r,hr,rfl⟩:=aL.mp hu
  exact m7 (gL.mpr (R.rows.2 i c r hc hr).1)
 show(lc C k).bind _=_;rw[gL.mpr R.at_];show(mapO (TL.dr 2 C) _).map _=_;rw[h1];rfl
theorem kK.sh{C:Sto}{k:Nat}(R:kK Cn k cs rows):kK (C++Cn.map (shc C.length)) (C.length+k) (cs.map (C.length+ ·)) rows:=by
 refine⟨?_,by simp[R.rows.1],fun i c r hc hr=>?_⟩
 ·rw[aLl R.at_];show some (Kd.l,shs C.length _)=_;rw[aAc]
 ·rw[bJ]at hc;obtain⟨c',hc',rfl⟩:=aL.mp hc;obtain⟨h1,h2⟩:=R.rows.2 i c' r hc' hr
  refine⟨?_,by lia⟩
  rw[aLl h1];show some (Kd.l,shs C.length _)=_;rw[aCw]
theorem kK.app{C G:Sto}{k:Nat}(R:kK C k cs rows):kK (C++G) k cs rows:=
 ⟨by rw[aY (kD R.at_)];exact R.at_,R.rows.1,fun i c r hc hr=>⟨by rw[aY (kD (R.rows.2 i c r hc hr).1)];exact(R.rows.2 i c r hc hr).1,(R.rows.2 i c r hc hr).2⟩⟩
theorem kK.spoil{C:Sto}{k:Nat}(R:kK C k cs rows)(hl:rows.length<395000)(hr:∀r∈rows,r.length<=2000):∃C',kQ [.cell k] C=some C'/\∀d,d≠k->d∉cs->C'[d]?=C[d]?:=by
 refine aHo R.at_ (by rw[R.rows.1];exact hl) fun c hc=>?_
 obtain⟨i,hi⟩:=bN.mp hc;have hlt:i<rows.length:=by rw[<-R.rows.1];exact(aP.mp hi).1
 obtain⟨h1,h2⟩:=R.rows.2 i c _ hi (bA hlt)
 exact⟨h2,_,h1,by rw[aR];exact hr _ (dG hlt)⟩
theorem kK.lt{C:Sto}{k:Nat}(R:kK C k cs rows):k<C.length/\∀c∈cs,c<C.length:=by
 refine⟨kD R.at_,fun c hc=>?_⟩
 obtain⟨i,hi⟩:=bN.mp hc;have hlt:i<rows.length:=by rw[<-R.rows.1];exact(aP.mp hi).1
 exact kD (R.rows.2 i c _ hi (bA hlt)).1
theorem kK.keep{C C':Sto}{k:Nat}(R:kK C k cs rows)(h:∀d,d=k\/d∈cs->C'[d]?=C[d]?):kK C' k cs rows:=
 ⟨by rw[h _ (.inl rfl)];exact R.at_,R.rows.1,fun i c r hc hr=>⟨by rw[h _ (.inr (bB hc))];exact(R.rows.2 i c r hc hr).1,(R.rows.2 i c r hc hr).2⟩⟩
theorem aEN{n:Nat}{G:List T->Sto->Option Sto}{fa:FN}{τ:TSt}{C:Sto}{Q:TL.Fl->TSt->Sto->Prop}:wpS (aBv n G fa) τ C Q↔wpA fa τ C fun ts C1=>ts.length=n/\∃C2,G ts C1=some C2/\Q .nx τ C2:=by
 unfold wpS wpA aBv;constructor
 ·rintro⟨l,t,C',e,q⟩;obtain⟨⟨ts,C1⟩,e1,e⟩:=aK.mp e;dsimp only at e;split at e
  ·obtain⟨C2,e2,e⟩:=aL.mp e;cases e
   exact⟨ts,C1,e1,‹_›,_,e2,q⟩
  ·cases e
 ·rintro⟨ts,C1,e1,h,C2,e2,q⟩
  exact⟨_,_,_,by rw[e1,aU,if_pos h,e2];rfl,q⟩
theorem aFX{n:Nat}{G:List T->Option (T×Sto)}{ts:List T}{r:T}{C:Sto}{Q:T->Sto->Prop}(e:G ts=some (r,Cn))(hl:ts.length=n)(hc:CFs ts=true):wpO (rR n G ts C) Q↔Q (TL.sh C.length r) (C++Cn.map (shc C.length)):=by
 have:rR n G ts C=some (TL.sh C.length r,C++Cn.map (shc C.length)):=by
  unfold rR;rw[if_pos ⟨hl,hc⟩,e];rfl
 rw[this];exact n9
theorem aFR{ws:List (Int×Int×Int)}{pp:Nat->Int}{Cm:Sto}:kK (Cm++(ws.zipIdx.map fun x=>(Kd.l,(rowOf pp x.1 x.2).map T.int))++[(Kd.l,(bK ws.length).map fun i=>T.cell (Cm.length+i))]) (Cm.length+ws.length) ((bK ws.length).map (Cm.length+ ·)) (plT ws pp):=by
 refine⟨?_,by simp[aAV],fun i c r hc hr=>?_⟩
 ·rw[bH (by simp),cD];simp
 ·rw[bJ]at hc;obtain⟨j,hj,rfl⟩:=aL.mp hc;obtain⟨h1,h2⟩:=aP.mp hj;rw[aOp]at h2;subst h2;rw[aOZ]at h1
  refine⟨?_,by lia⟩
  rw[cJ,bH (by lia),show Cm.length+i - Cm.length=i by lia,aY (by simpa using h1)];unfold plT at hr;rw[bJ]at hr|-;obtain⟨x,hx,rfl⟩:=aL.mp hr;rw[hx];rfl
theorem aCj{rl:List (Nat×Int×List Nat)}{rw:Nat}(h1:Cn[rw]?=some (.l,rl.map fun z=>T.cell z.1))(h2:∀z∈rl,Cn[z.1]?=some (aA6 z)):kK Cn rw (rl.map (·.1)) (rl.map rI):=by
 refine⟨by rw[cD];exact h1,by simp,fun i c r hc hr=>?_⟩
 rw[bJ]at hc hr;obtain⟨z,hz,rfl⟩:=aL.mp hc;rw[hz]at hr;cases hr;have h3:=h2 z (bB hz)
 refine⟨?_,fun e=>?_⟩
 ·rw[h3];simp[aA6,rI,nI]
 ·rw[e,h1]at h3;cases rl with
  |nil=>simp at hz
  |cons y rl=>simp[aA6]at h3
end K42
namespace K42
open PySem L2 TL Lib NF
variable{ws:List (Int×Int×Int)}{ps:List (Int×Int)}{e:Int}{Q:T->Sto->Prop}
theorem aMM:CFs [.lst (ws.map w3),.lst (ps.map pT),.int e]=true:=by rw[fT,fT,fT,g8,gJ,gJ,gH,nT,kS];rfl
theorem aK3:CFs [.lst (ws.map w3),.lst (ps.map pT)]=true:=by rw[fT,fT,g8,gJ,gJ,nT,kS];rfl
theorem self2{b:Bool}{C:Sto}:wpO (gEq b (.lst [.lst (ws.map w3),.lst (ps.map pT)]) (.lst [.lst (ws.map w3),.lst (ps.map pT)]) C) Q↔Q (.bl (!b)) C:=by
 have he:eqT 5 (.lst [.lst (ws.map w3),.lst (ps.map pT)]) (.lst [.lst (ws.map w3),.lst (ps.map pT)])=some true:=by
  apply aBh;intro t ht;simp only[bE,cA,or_false]at ht;rcases ht with rfl|rfl
  ·rw[qQ (fun _ _=>aMH)];simp
  ·rw[qQ (fun _ _=>aGR)];simp
 have hc:CF (.lst [.lst (ws.map w3),.lst (ps.map pT)])=true:=by rw[gJ];exact aK3
 rw[aIq,fS (iE hc),fS (iE hc),fS he];cases b<;>rfl
abbrev hdd(ws:List (Int×Int×Int))(ps:List (Int×Int)):T:=.lst [.lst (ws.map w3),.lst (ps.map pT)]
abbrev sR(ws:List (Int×Int×Int))(ps:List (Int×Int))(e z y:Int)(a b:Option T):TSt:=[some (.lst (ws.map w3)),some (.lst (ps.map pT)),some (.int e),some (.int z),some (.int y),some (hdd ws ps),a,b]
theorem aKy{z y:Int}(hl:ws.length<=8)(hp:ps.length<=1000){Q:TL.Fl->TSt->Sto->Prop}(q:Q .nx (sR ws ps e z y none none) []):
 wpS (fY (fV (gK (fB (fV (jQ (fA 0) 1 [] (gN 0) gZ (fV (aCs (fB (fA 0) fJ))))) (fB (fV (jQ (fA 1) 1 [] (gN 0) gZ (fV (aCs (fB (fA 0) fJ))))) fJ)))) (gN 5)) [some (.lst (ws.map w3)),some (.lst (ps.map pT)),some (.int e),some (.int z),some (.int y),none,none,none] [] Q:=by
 refine gB.mpr (gC.mpr (iQ.mpr (fG.mpr (gC.mpr (j8.mpr (fD.mpr ⟨_,rfl,_,rfl,by simp[lim];lia,iB w3 (fun w _=>?_) ?_⟩))))))
 ·exact gD.mpr (gC.mpr (qC.mpr (fG.mpr (fD.mpr ⟨w3 w,rfl,fM.mpr (xH.mpr ⟨_,rfl,rfl,rfl⟩)⟩))))
 ·refine fG.mpr (gC.mpr (j8.mpr (fD.mpr ⟨_,rfl,_,rfl,by simp[lim];lia,iB pT (fun w _=>?_) ?_⟩)))
  ·exact gD.mpr (gC.mpr (qC.mpr (fG.mpr (fD.mpr ⟨pT w,rfl,fM.mpr (xH.mpr ⟨_,rfl,rfl,rfl⟩)⟩))))
  ·exact fM.mpr ⟨by simp[lim],gD.mpr q⟩
theorem call3{τ:TSt}{C Cn:Sto}{r:T}{G:List T->Option (T×Sto)}(h:G [.lst (ws.map w3),.lst (ps.map pT),.int e]=some (r,Cn))(h2:τ[2]?=some (some (.int e)))(h5:τ[5]?=some (some (hdd ws ps)))(q:Q (TL.sh C.length r) (C++Cn.map (shc C.length))):
 wpE (aBe 3 G (fB (fIx (fA 5) (fC (.int 0))) (fB (fIx (fA 5) (fC (.int 1))) (fB (fA 2) fJ)))) τ C Q:=
 gF.mpr (fG.mpr (fU (ix1 h5 rfl rfl) (fG.mpr (fU (ix1 h5 rfl rfl) (fG.mpr (fD.mpr ⟨_,h2,fM.mpr ((aFX h rfl aMM).mpr q)⟩))))))
theorem aEQ{rl:List (Nat×Int×List Nat)}{i:Nat}(h:∀z∈rl,1<=z.2.1/\∀i,z.2.2.count i<=1):0<=(rl.map fun z=>z.2.1*(z.2.2.count i:Int)).sum/\(rl.map fun z=>z.2.1*(z.2.2.count i:Int)).sum<=(rl.map fun z=>z.2.1).sum:=by
 induction rl with
 |nil=>simp
 |cons z rl ih=>
  obtain⟨h1,h2⟩:=ih fun y hy=>h y (aZ _ hy)
  obtain⟨h3,h4⟩:=h z bF;have h5:=h4 i;rw[aM,aM,dX,dX];rcases(show z.2.2.count i=0\/z.2.2.count i=1 by lia)with e|e<;>rw[e]<;>simp<;>lia
theorem mI{n:Nat}{is:List Nat}(h:∀i,is.count i<=1)(hi:∀i∈is,i<n):is.length<=n:=by
 have hn:is.Nodup:=aPp.mpr h;have hs:is ⊆ bK n:=fun i h=>dA.mpr (hi i h)
 have:=hn.length_le_of_subset hs;simpa using this
end K42
namespace K42
open PySem L2 TL Lib NF
variable{ws:List (Int×Int×Int)}{ps:List (Int×Int)}
theorem aIn:dr 3 C (T.lst (ws.map w3))=some (.lst (ws.map w3)):=iE (by rw[gJ,nT])
theorem aNT:dr 3 C (T.lst (ps.map pT))=some (.lst (ps.map pT)):=iE (by rw[gJ,kS])
theorem aIf{nd:List (List Int)}(G:Gvn ws ps nd){bs fs:List Int}(hE:Early ps (ws.map (·.2.1)) bs)(hF:Early ps (ws.map iW) fs){z y:Int}(hz:jD 0 (dones bs (ws.map (·.2.1)))=z)(hy:jD 0 (dones fs (ws.map iW))=y)(hL:iU [.lst (ws.map w3),.lst (ps.map pT)]=some (.int z)){e:Int}(he:e<2^256):
 qN [.lst (ws.map w3),.lst (ps.map pT),.int e,.int z,.int y]=some (.bl true):=by
 have hn:=G.l8;have hpl:=G.pl;have hz0:0<=z:=by rw[<-hz];exact G.zge hE
 have W:=G.wel (bonus:=0) (by decide);subst hz;subst hy;obtain⟨P1,P2⟩:=aDs G hE hF hL (e:=e) (aOw he (by decide));obtain⟨S1,S2⟩:=aAF G hE hF hL (e:=e);generalize hz:jD 0 (dones bs (ws.map (·.2.1)))=z at*;apply iV;unfold aAs;walk_at "b"
 refine fN.mpr (aKy hn hpl (f7.mpr ?_))
 by_cases hez:e<z
 ·have p1:=P1 hez;have s1:=S1 hez
  refine fN.mpr (gB.mpr (call3 p1 rfl rfl (gD.mpr (f7.mpr (fN.mpr (gB.mpr (call3 s1 rfl rfl (gD.mpr (f7.mpr ?_)))))))))
  refine fN.mpr (iY.mpr (gP.mpr (fP.mpr (fD.mpr ⟨_,rfl,gC.mpr (iQ.mpr (fG.mpr (fD.mpr ⟨_,rfl,fG.mpr (fD.mpr ⟨_,rfl,fM.mpr ⟨by simp[lim],self2.mpr ⟨_,rfl,?_⟩⟩⟩)⟩)))⟩))))
  rw[if_neg (by simp)]
  refine gM.mpr (f7.mpr (fN.mpr (iY.mpr (gP.mpr (fP.mpr (fD.mpr ⟨_,rfl,fD.mpr ⟨_,rfl,jH.mpr ⟨_,rfl,?_⟩⟩⟩))))))
  rw[if_pos (decide_eq_true hez)]
  refine iH.mpr (aEF.mpr (fP.mpr (fD.mpr ⟨.non,rfl,iR.mpr (fK.mpr ⟨true,rfl,?_⟩)⟩)))
  rw[if_pos rfl]
  exact fP.mpr (fD.mpr ⟨.non,rfl,iR.mpr (fK.mpr (iE lA))⟩)
 ·have hge:z<=e:=by lia
  obtain⟨f1,a1,pp,Cm,p1,G1,hp1,ha1⟩:=P2 hge;obtain⟨f2,a2,p2,rl,rw,Cn,s1,G2,hp2,ha2,hrl,RO,c1,c2,c3⟩:=S2 hge;have lu:∀i,i<ws.length->0<=(fZ ws).l i/\(fZ ws).l i<=(fZ ws).u i/\(fZ ws).u i<2^252:=fun i hi=>by
   have:=yZ (P:=uH) G.ok hi
   exact⟨this.1,this.2.1,this.2.2.2.1⟩
  obtain⟨k1,k2,k3⟩:=aJF W G1 hp1 ha1 fun i hi=>(lu i hi).2.1
  have k4:=aCo G1 G2 hp1 hp2 (fun i hi=>(lu i hi).2.1) RO;have hzz:∀x∈rl,1<=x.2.1/\∀i,x.2.2.count i<=1:=fun x hx=>⟨(RO.ok x hx).1,(RO.ok x hx).2.2.2.2⟩
  have hsP:=G.sP;have hsum:0<=(rl.map fun z=>z.2.1).sum/\(rl.map fun z=>z.2.1).sum<2^256:=by
   have h1:=aEQ (i:=0) hzz;have h2:=RO.sum
   refine⟨by lia,?_⟩
   have h3:(8*2^252:Int)<2^256:=by decide
   lia
  have eP:=aIo (pp:=pp) hn G.ok fun i hi=>by
   have h1:=k1 i hi;have h2:=lu i hi
   lia
  have eI:=aDf (ps:=ps) (e:=e) (pp:=pp) hn hpl G.inw k1 fun p hp=>k2 _ (aIp G.inw G.ndd hp)
  have eW:=aCT (e:=e) hn G.ok (by lia) hzz (by lia) he hsum fun i hi=>by
   have h1:=aEQ (i:=i) hzz
   lia
  have eS:=aBr (m:=ws.length) (ps:=ps) (rl:=rl) fun x hx=>by
   obtain⟨x1,x2,x3,x4,x5⟩:=RO.ok x hx
   exact⟨x1,x2,by have:=mI x5 x3;lia,x3,fun k a c ha hc=>(zR G.inw G.ndd (aD8 x4 ha hc)).1⟩
  rw[k3]at eP;have R1:=(aFR (ws:=ws) (pp:=pp) (Cm:=Cm)).sh (C:=[]);have R2:=aCj c1 c2;generalize hC1:Cm++(ws.zipIdx.map fun x=>(Kd.l,(rowOf pp x.1 x.2).map T.int))++[(Kd.l,(bK ws.length).map fun i=>T.cell (Cm.length+i))]=C1 at p1 R1;generalize hk1:Cm.length+ws.length=kp at p1 R1;generalize hcs1:(bK ws.length).map (Cm.length+ ·)=cs1 at R1;generalize hD1:([]:Sto)++C1.map (shc ([]:Sto).length)=D1 at R1;have R2:=R2.sh (C:=D1);have R1b:=R1.app (G:=Cn.map (shc D1.length));have lt1:=R1.lt;generalize hk2:([]:Sto).length+kp=kq at R1 R1b lt1;generalize hcs2:cs1.map (([]:Sto).length+ ·)=cq at R1 R1b lt1
  refine fN.mpr (gB.mpr (call3 p1 rfl rfl (gD.mpr (f7.mpr (fN.mpr (gB.mpr (call3 s1 rfl rfl (gD.mpr (f7.mpr ?_)))))))))
  rw[hD1];have e6:TL.sh ([]:Sto).length (.cell kp)=.cell kq:=by rw[<-hk2];rfl
  have e7:TL.sh D1.length (.cell rw)=.cell (D1.length+rw):=rfl;rw[e6,e7];generalize hD2:D1++Cn.map (shc D1.length)=D2 at R2 R1b;generalize hk3:D1.length+rw=kr at R2;show wpS _ (sR ws ps e z _ (some (.cell kq)) (some (.cell kr))) D2 _;generalize hy:jD 0 (dones fs (ws.map iW))=y;have d1:=R1b.dr;have d2:=R2.dr;have hrls:rl.map (fun z=>iT (rI z))=(rl.map rI).map iT:=by rw[cD];rfl
  rw[hrls]at eS eW
  refine fN.mpr (iY.mpr (gP.mpr (fP.mpr (fD.mpr ⟨_,rfl,gC.mpr (iQ.mpr (fG.mpr (fD.mpr ⟨_,rfl,fG.mpr (fD.mpr ⟨_,rfl,fM.mpr ⟨by simp[lim],self2.mpr ⟨_,rfl,?_⟩⟩⟩)⟩)))⟩))))
  rw[if_neg (by simp)]
  refine gM.mpr (f7.mpr (fN.mpr (iY.mpr (gP.mpr (fP.mpr (fD.mpr ⟨_,rfl,fD.mpr ⟨_,rfl,jH.mpr ⟨_,rfl,?_⟩⟩⟩))))))
  rw[if_neg (by simpa using hez)]
  refine gM.mpr (f7.mpr (fN.mpr (iY.mpr (lQ.mpr (kO.mpr (jY.mpr (gF.mpr (fG.mpr (fD.mpr ⟨_,rfl,fG.mpr (fD.mpr ⟨_,rfl,fG.mpr (fD.mpr ⟨_,rfl,fG.mpr (fD.mpr ⟨_,rfl,fM.mpr ?_⟩)⟩)⟩)⟩)))))))))
  refine oH rfl (hJ aIn (hJ aNT (hJ (iE gH) (hJ d1 p9)))) ⟨_,eI,rfl,true,rfl,?_⟩
  rw[if_neg (by simp)]
  refine kO.mpr (jY.mpr (gF.mpr (fG.mpr (gF.mpr (fG.mpr (fD.mpr ⟨_,rfl,fM.mpr (lT.mpr ⟨_,rfl,fG.mpr (fD.mpr ⟨_,rfl,fG.mpr (fD.mpr ⟨_,rfl,fM.mpr ?_⟩)⟩)⟩)⟩))))))
  rw[aR]
  refine oH rfl (hJ (iE gH) (hJ aNT (hJ d2 p9))) ⟨_,eS,rfl,true,rfl,?_⟩
  rw[if_neg (by simp)]
  refine gM.mpr (f7.mpr (fN.mpr (iY.mpr (sV.mpr (gP.mpr (fP.mpr (fD.mpr ⟨_,rfl,fD.mpr ⟨_,rfl,jH.mpr ⟨_,rfl,?_⟩⟩⟩)))))))
  have third:wpS (fO (fIf (iC (fNe (f8 2 oB (fB (fA 0) (fB (fA 6) fJ))) (f8 3 n6 (fB (fA 0) (fB (fA 7) (fB (fA 2) fJ)))))) (gW (fC (.bl false))) iD)
  (fO (aBv 1 kQ (fB (fA 6) fJ))
  (fO (aBv 1 kQ (fB (fA 7) fJ))
  (gW (fEq (fA 5) (fV (gK (fB (fA 0) (fB (fA 1) fJ))))))))) (sR ws ps e z y (some (.cell kq)) (some (.cell kr))) D2 fun l τ' C'=>match l with
   | .rt t=>dr 3 C' t=some (.bl true)
   | .nx=>T.bl true=T.non
   |_=>False:=by
   refine fN.mpr (iY.mpr (gP.mpr (fP.mpr (gF.mpr (fG.mpr (fD.mpr ⟨_,rfl,fG.mpr (fD.mpr ⟨_,rfl,fM.mpr ?_⟩)⟩))))))
   refine oH rfl (hJ aIn (hJ d1 p9)) ⟨_,eP,rfl,?_⟩
   refine gF.mpr (fG.mpr (fD.mpr ⟨_,rfl,fG.mpr (fD.mpr ⟨_,rfl,fG.mpr (fD.mpr ⟨_,rfl,fM.mpr ?_⟩)⟩)⟩))
   refine oH rfl (hJ aIn (hJ d2 (hJ (iE gH) p9))) ⟨_,eW,rfl,v5.mpr ⟨_,rfl,?_⟩⟩
   rw[if_neg (by rw[k4];simp;lia)];have q1:∀r∈plT ws pp,r.length<=2000:=fun r hr=>by
    unfold plT at hr;obtain⟨x,_,rfl⟩:=bL.mp hr;simp[rowOf]
   have q2:∀r∈rl.map rI,r.length<=2000:=fun r hr=>by
    obtain⟨x,hx,rfl⟩:=bL.mp hr;have:=mI (RO.ok x hx).2.2.2.2 (RO.ok x hx).2.2.1;simp[rI,nI];lia
   obtain⟨D3,x3,o3⟩:=R1b.spoil (by rw[aAV];lia) q1;have R3:=R2.keep (C':=D3) fun d hd=>o3 d (by
    rcases hd with rfl|hd
    ·lia
    ·obtain⟨j,_,rfl⟩:=bL.mp hd
     lia) fun hdc=>by
    have h1:=lt1.2 d hdc;rcases hd with rfl|hd
    ·lia
    ·obtain⟨j,_,rfl⟩:=bL.mp hd
     lia
   obtain⟨D4,x4,o4⟩:=R3.spoil (by simp;lia) q2
   refine gM.mpr (f7.mpr (fN.mpr (aEN.mpr (fG.mpr (fD.mpr ⟨_,rfl,fM.mpr ⟨rfl,D3,x3,f7.mpr ?_⟩⟩)))))
   refine fN.mpr (aEN.mpr (fG.mpr (fD.mpr ⟨_,rfl,fM.mpr ⟨rfl,D4,x4,f7.mpr ?_⟩⟩)))
   exact iH.mpr (fP.mpr (fD.mpr ⟨_,rfl,gC.mpr (iQ.mpr (fG.mpr (fD.mpr ⟨_,rfl,fG.mpr (fD.mpr ⟨_,rfl,fM.mpr ⟨by simp[lim],self2.mpr (iE lA)⟩⟩)⟩)))⟩))
  by_cases hfy:y<=e
  ·rw[if_pos (decide_eq_true hfy)];have hrl0:rl=[]:=c3 (by lia)
   refine gP.mpr (fP.mpr (fD.mpr ⟨_,rfl,gC.mpr (iQ.mpr (fM.mpr ⟨by decide,?_⟩))⟩))
   refine(vQ (f:=fun xs:List (List Int)=>T.lst (xs.map iT)) (x:=rl.map rI) (y:=[]) (fun _ _=>qQ fun _ _=>aIh) d2 (iE rfl)).mpr ⟨_,rfl,?_⟩
   rw[if_neg (by simp[hrl0])]
   exact gM.mpr (f7.mpr third)
  ·rw[if_neg (by simpa using hfy),if_neg (by simp)]
   exact gM.mpr (f7.mpr third)
end K42
namespace Lib
open PySem L2 TL NF
variable{ws:List (Int×Int×Int)}{ps:List (Int×Int)}{ns:List Int}
theorem Gvn.early_mono{nd:List (List Int)}(G:Gvn ws ps nd){hs gs bs fs:List Int}(hE:Early ps hs bs)(hF:Early ps gs fs)(hl:hs.length=ws.length)(gl:gs.length=ws.length)(hH:∀i:Nat,i<ws.length->at0 hs i<=at0 gs i)(hp:∀h∈gs,0<=h):jD 0 (dones bs hs)<=jD 0 (dones fs gs):=by
 obtain⟨n0,n1,n2⟩:=hF.mxL hp
 refine G.fst hE hl (B:=fun i=>at0 fs i) n0 (fun i _=>hF.pos _) (fun p hp=>?_) fun i hi=>?_
 ·have h1:=hF.ge p hp;have h2:=G.inw _ hp;have h3:=hH p.1.toNat (by lia);rw[b4 h2.1.1]at h3|-;rw[b4 h2.2.1]
  lia
 ·have h4:=hH i hi;have h5:=n1 _ ⟨i,by rw[gl];exact hi,rfl⟩
  lia
structure Lot(ws:List (Int×Int×Int))(ps:List (Int×Int))(nd:List (List Int))(bs fs:List Int)(z y:Int):Prop where
 g:Gvn ws ps nd
 p63:ps.length<=63
 e:Early ps (ws.map (·.2.1)) bs
 f:Early ps (ws.map iW) fs
 zz:jD 0 (dones bs (ws.map (·.2.1)))=z
 yy:jD 0 (dones fs (ws.map iW))=y
 le:iU [.lst (ws.map w3),.lst (ps.map pT)]=some (.int z)
 fe:wU [.lst (ws.map w3),.lst (ps.map pT)]=some (.int y)
 en:qL [.lst (ws.map w3),.lst (ps.map pT)]=some (.tup [.int z,.int y])
 z0:0<=z
 zy:z<=y
 yb:y<=8*2^252
theorem Lot.of(hwl:ws.length<=8)(hpl:ps.length<=63)(hw0:InW ws.length ps)(hac:Acy ps)(hwo:∀w∈ws,uH w):∃nd bs fs z y,Lot ws ps nd bs fs z y:=by
 obtain⟨nd,G⟩:=Gvn.ex hwl (by lia) hw0 hac hwo;have ends:∀f:Int×Int×Int->Int,(∀w∈ws,0<=f w)->∃bs,Early ps (ws.map f) bs/\lB [.lst ((ws.map f).map T.int),.lst (ps.map pT)]=some (.int (jD 0 (dones bs (ws.map f))))/\j9 [.lst ((ws.map f).map T.int),.lst (ps.map pT)]=some (.int (jD 0 (dones bs (ws.map f)))):=by
  intro f hf;have hp:∀h∈ws.map f,0<=h:=fun h hm=>by
   obtain⟨w,hw,rfl⟩:=bL.mp hm
   exact hf w hw
  have hln:(ws.map f).length=ws.length:=aR _;have hw:InW (ws.map f).length ps:=by rw[hln];exact hw0
  obtain⟨_,e,bs,rfl,hE⟩:=aBD (hs:=ws.map f) (by lia) (by lia) hw hac hp
  exact⟨bs,hE,aFw e (by rw[hE.len];lia),aDt (by lia) (by lia) hw hac hp hE⟩
 have p1:∀w∈ws,0<=w.2.1:=fun w hw=>(hwo w hw).1
 have p2:∀w∈ws,0<=iW w:=fun w hw=>by
  have h:=hwo w hw;unfold iW;split
  ·exact h.1
  ·exact aO9 h.1 h.2.1
 obtain⟨bs,hE,hz1,hz2⟩:=ends (·.2.1) p1;obtain⟨fs,hF,hy1,hy2⟩:=ends iW p2
 refine⟨nd,bs,fs,_,_,G,hpl,hE,hF,rfl,rfl,aBl (by lia) hz1,aB6 (by lia) hy1,aII (by lia) hz2 hy2,G.zge hE,?_,(G.free hF (bonus:=0) (by decide)).1⟩
 refine G.early_mono hE hF (by simp) (by simp) (fun i hi=>?_) fun h hm=>?_
 ·have hw:=hwo _ (dG hi);rw[mR (by simpa using hi),mR (by simpa using hi),aO7,aO7];unfold iW;split
  ·exact bV _
  ·exact hw.2.1
 ·obtain⟨w,hw,rfl⟩:=bL.mp hm;exact p2 w hw
theorem lotM(hl:ns.length<=63){M:Nat}(h4:4<=M)(h8:M<=8){u:Int}(hu0:0<u)(hu:u<=10^20):∃ws ps nd bs fs z y,aE0 [.lst (ns.map T.int),.int M,.int u]=some (.tup [.lst (ws.map w3),.lst (ps.map pT)])/\Lot ws ps nd bs fs z y/\ws.length<=M/\ps.length<=20/\∀w∈ws,aAI w:=by
 obtain⟨_,e1,ws,ps,rfl,hwl,hpl,hwo,rs,hrk,hal⟩:=aJp hl h4 h8 hu0 hu;obtain⟨nd,bs,fs,z,y,L⟩:=Lot.of (ws:=ws) (ps:=ps) (by lia) (by lia) (Al.inW hrk hal) (Al.acy hrk hal) fun w hw=>(hwo w hw).b
 exact⟨ws,ps,nd,bs,fs,z,y,e1,L,hwl,hpl,hwo⟩
theorem lotN(hl:ns.length<=63):∃ws ps nd bs fs z y,aE0 [.lst (ns.map T.int),.int 8,.int (10^20)]=some (.tup [.lst (ws.map w3),.lst (ps.map pT)])/\Lot ws ps nd bs fs z y:=by
 obtain⟨ws,ps,nd,bs,fs,z,y,e,L,_⟩:=lotM hl (M:=8) (by decide) (by decide) (u:=10^20) (by decide) (by decide)
 exact⟨ws,ps,nd,bs,fs,z,y,e,L⟩
end Lib
namespace K42
open PySem L2 TL Lib NF
theorem aHt:∀ns:List Int,ns.length<=63->(∀n∈ns,Builtin.Int.intBits n<=2^20)->aEz [.lst (ns.map T.int)]=some (.bl true):=by
 intro ns hl hb;obtain⟨ws,ps,nd,bs,fs,z,y,e1,L⟩:=lotN hl;have w1:∀{C Q},wpO (jZ 3 sZ [.lst (ns.map T.int),.int 8,.int (10^eL 20)] C) Q↔Q (.tup [.lst (ws.map w3),.lst (ps.map pT)]) C:=by rw[aHD];exact gA e1 rfl (by walk_at "c")
 have w4:∀{C Q},wpO (jZ 2 qL [.lst (ws.map w3),.lst (ps.map pT)] C) Q↔Q (.tup [.int z,.int y]) C:=gA L.en rfl aK3;have hz0:=L.z0;have hzy:=L.zy;have hyb:=L.yb;apply iV;unfold aK8;walk_at "b";have m1:Bt 20 (70:Int):=.sml (by lia) (by lia) (by decide);have m2:Bt 20 (71:Int):=.sml (by lia) (by lia) (by decide);have hd0:Sm (rP (j0 ns 2) 70):=aBx;have hd1:Sm (rP (j0 ns 2) 71):=aBx;obtain⟨far,hfar,hf0,hf1⟩:∃far:Int,atI [T.int 1,T.int (j0 ns 2%10^eL 60)] (j0 ns 2%2)=some (.int far)/\0<=far/\far<10^60:=by
  refine⟨_,tP,?_⟩
  have h1:0<=j0 ns 2%10^eL 60:=aOH _ (by decide);have h2:j0 ns 2%10^eL 60<10^60:=aOq _ (by decide);split
  ·exact⟨by decide,by decide⟩
  ·exact⟨h1,h2⟩
 simp_arith[↓fK,↓fL,↓w1,↓w4,↓m5,↓sD,↓fS hfar];generalize rP (j0 ns 2) 70=d0 at hd0;generalize rP (j0 ns 2) 71=d1 at hd1;have bd1:Bt 31 d1:=Bt.of_lt hd1.1 (aOw hd1.2 (by decide));have bd0:Bt 31 d0:=Bt.of_lt hd0.1 (aOw hd0.2 (by decide));have bp:Bt (31+31+31) (d1^eL 3):=by
  rw[show d1^eL 3=d1*d1*d1 by show d1^3=_;rw[aPF,aPF,aPF,Int.pow_zero,aQe]]
  exact(bd1.mul bd1).mul bd1
 generalize d1^eL 3=d3 at bp;have hm:0<=(d0*d3+j0 ns 62)%(y - z+1)/\(d0*d3+j0 ns 62)%(y - z+1)<y - z+1:=⟨aOH _ (by lia),aOq _ (by lia)⟩;generalize (d0*d3+j0 ns 62)%(y - z+1)=am at hm;have hn1:d1.natAbs<2^64:=by
  have h1:=hd1.1;have h2:=hd1.2
  lia
 refine⟨by decide,by decide,by decide,by simp[lim],by decide,?_,yW bd0 bp (by decide),decide_eq_true (by lia),by simp[lim],?_⟩
 ·exact decide_eq_true ⟨by decide,by decide,hn1⟩
 rw[show[T.int (z+am),T.int z,T.int (z - far),T.int (y+far - 1)]=[z+am,z,z - far,y+far - 1].map T.int from rfl]
 refine jW (fun i τ C=>C=[]/\∃(a:Option T)(b:Option T)(c:Option T)(d:Option T)(e:Option T),τ=[some (T.lst (aPn T.int ns)),some (T.lst (aPn w3 ws)),some (T.lst (aPn pT ps)),some (.int z),some (.int y),a,b,c,d,e]) ⟨rfl,_,_,_,_,_,rfl⟩ ?_ ?_
 ·rintro i e τ C hi ⟨rfl,a,b,c,d,g,rfl⟩;have hem:=bB hi;have he:e<2^256:=by
   have h1:(8*2^252+10^60:Int)<2^256:=by decide
   simp only[bE,cA,or_false]at hem;rcases hem with rfl|rfl|rfl|rfl<;>lia
  have hcf:CFs [T.lst (ws.map w3),.lst (ps.map pT),.int e,.int z,.int y]=true:=by rw[fT,fT,fT,fT,fT,g8,gJ,gJ,gH,gH,gH,nT,kS];rfl
  unfold aEf
  refine gD.mpr (iY.mpr (kO.mpr (jY.mpr (gF.mpr (fG.mpr (fD.mpr ⟨_,rfl,fG.mpr (fD.mpr ⟨_,rfl,fG.mpr (fD.mpr ⟨_,rfl,fG.mpr (fD.mpr ⟨_,rfl,fG.mpr (fD.mpr ⟨_,rfl,fM.mpr ((gA (aIf L.g L.e L.f L.zz L.yy L.le he) rfl hcf).mpr ⟨true,rfl,?_⟩)⟩)⟩)⟩)⟩)⟩))))))
  rw[if_neg (by simp)]
  exact gM.mpr ⟨trivial,rfl,_,_,_,_,_,rfl⟩
 ·rintro τ C ⟨rfl,a,b,c,d,g,rfl⟩
  exact f7.mpr (iH.mpr (iR.mpr (iE lA)))
end K42
end
namespace K42
open PySem L2 TL Lib
open HT (top)
local macro_rules| `(tactic|walk_at "bq")=>`(tactic|first|exact fun _ _ _ _ _ _=>len1 fun _=>rfl|exact fun _ _ _ _ _ _=>zE fun _=>len1 fun _=>rfl|exact fun _ _ _ _ _ _=>zE fun _=>zE fun _=>len1 fun _=>rfl|exact fun _ _ _ _ _ _=>zE fun _=>zE fun _=>zE fun _=>len1 fun _=>rfl|exact fun _ _ _ _ _ _=>zE fun _=>zE fun _=>zE fun _=>zE fun _=>len1 fun _=>rfl)
section
variable {P:Program}{w:World}{K:aO}{mg:Str->Option Value}{base:Heap}{f:Addr}{fd:FuncData}
set_option maxHeartbeats 0
theorem aFt:Ky P w K mg base "_law_mixed" "_law_mixed" (top 40) ["_law_cell","_law_k"] 1 (spT K 2 j4):=fun F=>okB (N:=["_law_cell","_law_k","_law_number"]) F iA (iO hV) fun nd hr=>
 (fE (fR nd 2 (iS (iJ (iJ (lG (eZ 0) fH) (lG (lG (eZ 1) (eZ 1)) fH)) fH) fH))
  (fE (fR nd 2 (iS (lG (eZ 2) (eZ 2)) fH))
  (fI (fW (iS (lG (eZ 2) (eZ 2)) fH)))))
theorem aC0(m60:mg "len"=none):Ky P w K mg base "_law_cell_at" "_law_cell_at" (top 39) ["_law_script","_law_k"] 1 (spT K 2 iK):=fun F=>okB (N:=["_law_script","_law_k"]) F iA (iO hV) fun nd hr=>
 (fE (jT (zJ (eZ 1) (lI m60 (e9 (eZ 0) fF))) (fI (fW (gE (eZ 0) (eZ 1)))) hW)
  (fI (fW fH)))
theorem aCc(d60:jV P w K mg base 1 "_law_mixed" 2 j4)(d61:jV P w K mg base 1 "_law_cell_at" 2 iK)(m61:mg "range"=none)(m62:mg "min"=none)(m60:mg "len"=none):Ky P w K mg base "_law_numbers" "_law_numbers" (top 42) ["_law_cells"] 2 (spT K 1 l9):=fun F=>okB (N:=["_law_cells","_law_numbers_here","_law_k","_law_at"]) F iA (iO hV) fun nd hr=>
 (fE (tW nd 1 m61 rfl (cok ["_law_k"] ["_law_cells"] [0]) fH (jF (by decide)) (fun _ _ _ _=>(jN (show List.Nodup (["_law_k","_law_cells"]:List Str)by decide) 0)) (fun _ _ _ _=>iL) (fun _ _ _ _=>(f9 d60 (rdn hr) (e9 (f9 d61 (rdn hr) (e9 (eZ 1) (e9 fH fF))) (e9 (iJ fH (eZ 0)) fF)))))
  (fE (aCt m61 rfl fH (pW m62 rfl (e9 fH (e9 (lI m60 (e9 (eZ 0) fF)) fF))) (jN nd 2) (fE (fR nd 3 (iS (eZ 2) fH))
  (fI (r6 (f9 d60 (rdn hr) (e9 (iJ (gE (eZ 1) (eZ 3)) (gE (eZ 0) (eZ 2))) (e9 (eZ 2) fF))) (eZ 1) (eZ 3)))))
  (fI (fW (eZ 1)))))
theorem aF6(d60:jV P w K mg base 1 "_law_mixed" 2 j4)(m61:mg "range"=none):Ky P w K mg base "_law_names" "_law_names" (top 41) ["_law_cell","_law_many"] 2 (spT K 2 pZ):=fun F=>okB (N:=["_law_cell","_law_many","_law_points","_law_k"]) F iA (iO hV) fun nd hr=>
 (fE (fR nd 2 (kW (gT fF)))
  (fE (lO m61 rfl (eZ 1) (jN nd 3) (fI (aC4 (eZ 2) (e9 (iS (f9 d60 (rdn hr) (e9 (eZ 0) (e9 (eZ 3) fF))) (iJ (eZ 3) fH)) (e9 (eZ 3) fF)))))
  (fI (fW (eZ 2)))))
theorem aBF(d61:jV P w K mg base 1 "_law_cell_at" 2 iK)(m61:mg "range"=none)(m63:mg "int"=none):Ky P w K mg base "_law_lot_free" "_law_lot_free" (top 44) ["_law_cells","_law_many","_law_unit"] 2 (spT K 3 m4):=fun F=>okB (N:=["_law_cells","_law_many","_law_unit","_law_base","_law_works","_law_k","_law_left","_law_least","_law_more","_law_order","_law_needs","_law_a"]) F iA (iO hV) fun nd hr=>
 (fE (fR nd 3 (gE (f6 (gT (e9 fH (e9 (lG (eZ 2) (aEt fH fH)) fF)))) (iS (lE (f9 d61 (rdn hr) (e9 (eZ 0) (e9 fH fF))) fH) fH)))
  (fE (fR nd 4 (kW (gT fF)))
  (fE (lO m61 rfl (eZ 1) (jN nd 5) (fE (fR nd 6 (f9 d61 (rdn hr) (e9 (eZ 0) (e9 (iJ fH (eZ 5)) fF))))
  (fE (fR nd 7 (iS (eZ 6) (gE (f6 (gT (e9 fH (e9 (eZ 3) fF)))) (qJ m63 (e9 (aFL (eZ 3) fH) fF)))))
  (fE (fR nd 6 (aBz (eZ 6) (gE (f6 (gT (e9 fH (e9 (eZ 3) fF)))) (qJ m63 (e9 (aFL (eZ 3) fH) fF)))))
  (fE (fR nd 8 (iS (eZ 6) (gE (f6 (gT (e9 fH (e9 (eZ 3) fF)))) (qJ m63 (e9 (aFL (eZ 3) fH) fF)))))
  (fE (fR nd 6 (aBz (eZ 6) (gE (f6 (gT (e9 fH (e9 (eZ 3) fF)))) (qJ m63 (e9 (aFL (eZ 3) fH) fF)))))
  (fI (oQ (eZ 4) (e9 (f6 (gT (e9 (iJ (eZ 7) (eZ 8)) (e9 (eZ 7) (e9 (iS (eZ 6) (gE (f6 (gT (e9 fH (e9 (eZ 3) fF)))) (qJ m63 (e9 (aFL (eZ 3) fH) fF)))) fF))))) fF)))))))))
  (fE (fR nd 6 (f9 d61 (rdn hr) (e9 (eZ 0) (e9 fH fF))))
  (fE (fR nd 9 (kW (gT fF)))
  (fE (lO m61 rfl (eZ 1) (jN nd 5) (fE (aC4 (eZ 9) (e9 (iS (eZ 6) (iJ (eZ 5) fH)) (e9 (eZ 5) fF)))
  (fI (fR nd 6 (aBz (eZ 6) (iJ (eZ 5) fH))))))
  (fE (fR nd 10 (kW (gT fF)))
  (fE (lO m61 rfl (eZ 1) (jN nd 5) (fI (l6 rfl (f6 (vN (eZ 9) tI (aAN (eZ 5)))) (jN nd 11) (fE (jT (aA8 (hu20 hr) (iS (eZ 6) fH) fH) (fI (oQ (eZ 10) (e9 (f6 (gT (e9 (eZ 11) (e9 (gE (eZ 9) (eZ 5)) fF)))) fF))) hW)
  (fI (fR nd 6 (lE (eZ 6) fH)))))))
  (fI (fW (aA4 (e9 (eZ 4) (e9 (eZ 10) fF)))))))))))))
theorem aFe(m63:mg "int"=none):Ky P w K mg base "_law_work" "_law_work" (top 43) ["_law_one","_law_two","_law_three","_law_mode","_law_unit"] 1 (spT K 5 y4):=fun F=>okB (N:=["_law_one","_law_two","_law_three","_law_mode","_law_unit","_law_least","_law_more","_law_price_here"]) F iA (iO hV) fun nd hr=>
 (fE (fR nd 5 (iS (eZ 0) fH))
  (fE (fR nd 6 (iS (eZ 1) fH))
  (fE (fR nd 7 (iS (eZ 2) fH))
  (fE (jT (aA8 (hu20 hr) (eZ 3) fH) (fE (fR nd 5 (iJ (lG (eZ 0) (eZ 4)) (iS (eZ 1) fH)))
  (fE (fR nd 6 (lG (lG (eZ 1) (eZ 4)) (qJ m63 (e9 (aFL (iS (eZ 1) fH) fH) fF))))
  (fI (fR nd 7 (iJ (lG (eZ 2) (eZ 4)) (iS (eZ 0) fH)))))) hW)
  (fE (jT (aA8 (hu20 hr) (eZ 3) fH) (fE (fR nd 6 (lG (iS (eZ 1) fH) (iS (lE (eZ 1) fH) fH)))
  (fI (fR nd 7 (gE (f6 (gT (e9 fH (e9 fH (e9 fH (e9 (iJ fH (iS (eZ 2) fH)) fF)))))) (iS (lE (eZ 2) fH) fH))))) hW)
  (fE (jT (t_w (zS (aA8 (hu20 hr) (eZ 3) fH) (tU (aA8 (hu20 hr) (iS (eZ 0) fH) fH)))) (fI (fR nd 5 fH)) hW)
  (fI (fW (f6 (gT (e9 (iJ (eZ 5) (eZ 6)) (e9 (eZ 5) (e9 (eZ 7) fF)))))))))))))
theorem aHb(d62:jV P w K mg base 2 "_law_numbers" 1 l9)(d61:jV P w K mg base 1 "_law_cell_at" 2 iK)(d63:jV P w K mg base 2 "_law_names" 2 pZ)(d64:jV P w K mg base 2 "_law_lot_free" 3 m4)(d65:jV P w K mg base 1 "_law_work" 5 y4)(m61:mg "range"=none)(m62:mg "min"=none)(m63:mg "int"=none)(m60:mg "len"=none):Ky P w K mg base "_law_lot" "_law_lot" (top 45) ["_law_cells","_law_most","_law_unit"] 3 (spT K 3 sZ):=fun F=>okB (N:=["_law_cells","_law_most","_law_unit","_law_numbers_here","_law_first","_law_few","_law_many","_law_cell","_law_works","_law_names_here","_law_needs","_law_k","_law_b","_law_back","_law_a"]) F iA (iO hV) fun nd hr=>
 (fE (fR nd 3 (f9 d62 (rdn hr) (e9 (eZ 0) fF)))
  (fE (fR nd 4 (f9 d61 (rdn hr) (e9 (eZ 0) (e9 fH fF))))
  (fE (fR nd 5 (iS (lE (eZ 4) fH) (pW m62 rfl (e9 fH (e9 (iJ (eZ 1) fH) fF)))))
  (fE (fR nd 6 (gE (f6 (gT (e9 (eZ 5) (e9 (oC (eZ 1) (gE (f6 (gT (e9 fH (e9 fH (e9 fH (e9 fH fF)))))) (iS (lE (eZ 4) fH) fH))) (e9 (eZ 5) (e9 (pW m62 rfl (e9 (eZ 1) (e9 (iJ fH (iS (lE (eZ 4) fH) fH)) fF))) fF)))))) (iS (eZ 4) fH)))
  (fE (fR nd 7 (f9 d61 (rdn hr) (e9 (eZ 0) (e9 fH fF))))
  (fE (jT (aA8 (hu20 hr) (iS (lE (eZ 7) fH) fH) fH) (fI (fW (f9 d64 (rdn hr) (e9 (eZ 0) (e9 (pW m62 rfl (e9 (eZ 6) (e9 (gE (f6 (gT (e9 fH (e9 fH fF)))) (qJ m63 (e9 (aOd (eZ 1) fH) fF))) fF))) (e9 (eZ 2) fF)))))) hW)
  (fE (aFG nd 8 m61 rfl (cok ["_law_k"] ["_law_numbers_here","_law_cell","_law_unit"] [3,7,2]) (eZ 6) (jF (by decide)) (fun _ _ _ _=>(jN (show List.Nodup (["_law_k","_law_numbers_here","_law_cell","_law_unit"]:List Str)by decide) 0)) (fun _ _ _ _=>iL) (fun _ _ _ _=>(f9 d65 (rdn hr) (e9 (gE (eZ 1) (eZ 0)) (e9 (gE (eZ 1) (iJ fH (eZ 0))) (e9 (gE (eZ 1) (iJ fH (eZ 0))) (e9 (iS (eZ 2) fH) (e9 (eZ 3) fF))))))))
  (fE (fR nd 9 (f9 d63 (rdn hr) (e9 (gE (eZ 3) fH) (e9 (eZ 6) fF))))
  (fE (fR nd 10 (kW (gT fF)))
  (fE (aCt m61 rfl fH (iJ fH (pW m62 rfl (e9 fH (e9 (iJ (eZ 6) (iS (lE (eZ 7) fH) fH)) fF)))) (jN nd 11) (fI (jT (aCu (eZ 6) fH) (fE (fR nd 12 (iJ fH (iS (gE (eZ 3) (eZ 11)) (oC (eZ 6) fH))))
  (fE (fR nd 13 (iS (lE (gE (eZ 3) (eZ 11)) fH) (pW m62 rfl (e9 (eZ 12) (e9 (gE (f6 (gT (e9 fH (e9 fH (e9 fH fF))))) (iS (lE (eZ 7) fH) fH)) fF)))))
  (fE (fR nd 14 (gE (f6 (gT (e9 (oC (oC (eZ 12) fH) (eZ 13)) (e9 (eZ 13) fF)))) (iS (lE (eZ 7) fH) fH)))
  (fI (aC4 (eZ 10) (e9 (iS (lE (gE (eZ 3) (eZ 11)) fH) (iJ (lI m60 (e9 (eZ 10) fF)) fH)) (e9 (f6 (gT (e9 (gE (eZ 9) (eZ 14)) (e9 (gE (eZ 9) (eZ 12)) fF)))) fF))))))) hW)))
  (fI (fW (aA4 (e9 (eZ 8) (e9 (f6 (vN (eZ 10) (aAN (iS (lE (eZ 7) fH) fH)) tI)) fF)))))))))))))))
theorem aCW(m61:mg "range"=none)(m64:mg "max"=none)(m60:mg "len"=none):Ky P w K mg base "_law_length" "_law_length" (top 46) ["_law_hours","_law_needs"] 1 (spT K 2 j9):=fun F=>okB (N:=["_law_hours","_law_needs","_law_begins","_law_k","_law_a","_law_b"]) F iA (iO hV) fun nd hr=>
 (fE (fR nd 2 (kW (kB rfl (cok ["_law_one"] [] []) (eZ 0) (jF (by decide)) (fun _ _ _ _=>(jN (show List.Nodup (["_law_one"]:List Str)by decide) 0)) (fun _ _ _ _=>iL) (fun _ _ _ _=>fH))))
  (fE (lO m61 rfl (lI m60 (e9 (eZ 0) fF)) (jN nd 3) (fI (l6 rfl (eZ 1) (p5 rfl (jL nd 4 (jL nd 5 qA))) (fI (r6 (aL2 m64 rfl (e9 (gE (eZ 2) (eZ 5)) (e9 (iJ (gE (eZ 2) (eZ 4)) (gE (eZ 0) (eZ 4))) fF))) (eZ 2) (eZ 5))))))
  (fI (fW (aNe m64 rfl (e9 (f6 (aEd (f6 (aCN m61 rfl (cok ["_law_k"] ["_law_begins","_law_hours"] [2,0]) (lI m60 (e9 (eZ 0) fF)) (jF (by decide)) (fun _ _ _ _=>(jN (show List.Nodup (["_law_k","_law_begins","_law_hours"]:List Str)by decide) 0)) (fun _ _ _ _=>iL) (fun _ _ _ _=>(iJ (gE (eZ 1) (eZ 0)) (gE (eZ 2) (eZ 0)))))) (f6 (gT (e9 fH fF))))) fF))))))
theorem aHS(d66:jV P w K mg base 1 "_law_length" 2 j9)(m63:mg "int"=none):Ky P w K mg base "_law_ends" "_law_ends" (top 47) ["_law_works","_law_needs"] 2 (spT K 2 qL):=fun F=>okB (N:=["_law_works","_law_needs","_law_least"]) F iA (iO hV) fun nd hr=>
 (fE (fR nd 2 (f9 d66 (rdn hr) (e9 (f6 (kB rfl (cok ["_law_work_here"] [] []) (eZ 0) (jF (by decide)) (fun _ _ _ _=>(jN (show List.Nodup (["_law_work_here"]:List Str)by decide) 0)) (fun _ _ _ _=>iL) (fun _ _ _ _=>(gE (eZ 0) fH)))) (e9 (eZ 1) fF))))
  (fI (fW (aA4 (e9 (eZ 2) (e9 (f9 d66 (rdn hr) (e9 (f6 (kB rfl (cok ["_law_work_here"] [] []) (eZ 0) (jF (by decide)) (fun _ _ _ _=>(jN (show List.Nodup (["_law_work_here"]:List Str)by decide) 0)) (fun _ _ _ _=>iL) (fun _ _ _ _=>(gE (eZ 0) (qJ m63 (e9 (aNJ (hu20 hr) (gE (eZ 0) fH) fH) fF)))))) (e9 (eZ 1) fF))) fF))))))
theorem rZ(F60:i9 K "Net" "pipes")(F61:i9 K "Pipe" "back")(F62:i9 K "Pipe" "room"):Ky P w K mg base "open_pipes" "Net.open_pipes" (inClass (top 17) 6) ["self"] 1 (spS K 1 jJ):=fun F=>okB (N:=["self","both"]) F jS kJ fun nd hr=>
 (fE (fR nd 1 (f6 (aEd (kE F60 (eZ 0)) (f6 (kB rfl (cok ["pipe"] [] []) (kE F60 (eZ 0)) (jF (by decide)) (fun _ _ _ _=>(jN (show List.Nodup (["pipe"]:List Str)by decide) 0)) (fun _ _ _ _=>iL) (fun _ _ _ _=>(kE F61 (eZ 0))))))))
  (fI (fW (f6 (kB rfl (cok ["pipe"] [] []) (eZ 1) (jF (by decide)) (fun _ _ _ _=>(jN (show List.Nodup (["pipe"]:List Str)by decide) 0)) (fun _ _ _ _=>(vT (aCu (kE F62 (eZ 0)) fH))) (fun _ _ _ _=>(eZ 0)))))))
theorem uC(F63:i9 K "Pipe" "hours")(F64:i9 K "Pipe" "tail")(F65:i9 K "Pipe" "head"):Ky P w K mg base "raise_moments" "raise_moments" (top 21) ["moments","pipes"] 1 (spS K 2 lC):=fun F=>okB (N:=["moments","pipes","raised","pipe","reached"]) F jS kJ fun nd hr=>
 (fE (fR nd 2 oV)
  (fE (l6 rfl (eZ 1) (jN nd 3) (fE (fR nd 4 (iJ (gE (eZ 0) (kE F64 (eZ 3))) (kE F63 (eZ 3))))
  (fI (jT (aCu (eZ 4) (gE (eZ 0) (kE F65 (eZ 3)))) (fE (r6 (eZ 4) (eZ 0) (kE F65 (eZ 3)))
  (fI (fR nd 2 oV))) hW))))
  (fI (fW (eZ 2)))))
theorem wW(d67:rO P w K mg base 1 "Net" "open_pipes" 1 jJ)(d68:uB P w K mg base 1 "raise_moments" 2 lC)(F66:i9 K "Net" "places")(m61:mg "range"=none)(G60:∃t,mg "SINK"=some (.int 1 t)):Ky P w K mg base "moments" "Net.moments" (inClass (top 17) 4) ["self","end"] 2 (spS K 2 iN):=fun F=>okB (N:=["self","end","found","pipes"]) F jS kJ fun nd hr=>
 (fE (tW nd 2 m61 rfl (cok ["place"] [] []) (kE F66 (eZ 0)) (jF (by decide)) (fun _ _ _ _=>(jN (show List.Nodup (["place"]:List Str)by decide) 0)) (fun _ _ _ _=>iL) (fun _ _ _ _=>fH))
  (fE (r6 (eZ 1) (eZ 2) (nJ G60))
  (fE (fR nd 3 (aIA d67 (rdn hr) (eZ 0)))
  (fE (oK (10^200) (lV (kR d68 (rdn hr) (e9 (eZ 2) (e9 (eZ 3) fF)))) (fI aIZ))
  (fI (fW (eZ 2)))))))
theorem vA(m65:mg "zip"=none):Ky P w K mg base "done_moments" "done_moments" (top 12) ["begins","hours"] 1 (spT K 2 kF):=fun F=>okB (N:=["begins","hours"]) F iA (iO hV) fun nd hr=>
 (fI (fW (f6 (aJd m65 rfl (cok ["begin","took"] [] []) (eZ 0) (eZ 1) (aA5 (by decide)) (fun _ _ _ _=>(p5 rfl (jL (show List.Nodup (["begin","took"]:List Str)by decide) 0 (jL (show List.Nodup (["begin","took"]:List Str)by decide) 1 qA)))) (fun _ _ _ _=>iL) (fun _ _ _ _=>(iJ (eZ 0) (eZ 1)))))))
theorem aDv:Ky P w K mg base "is_work" "is_work" (top 6) ["many","number"] 1 (spT K 2 lJ):=fun F=>okB (N:=["many","number"]) F iA (iO hV) fun nd hr=>
 (fI (fW (zI fH (eZ 1) (eZ 0))))
theorem vF(d69:jV P w K mg base 1 "is_work" 2 lJ)(m61:mg "range"=none):Ky P w K mg base "needed_works" "needed_works" (top 7) ["many","needs"] 2 (spT K 2 gY):=fun F=>okB (N:=["many","needs","needed","first","second"]) F iA (iO hV) fun nd hr=>
 (fE (tW nd 2 m61 rfl (cok ["work"] [] []) (eZ 0) (jF (by decide)) (fun _ _ _ _=>(jN (show List.Nodup (["work"]:List Str)by decide) 0)) (fun _ _ _ _=>iL) (fun _ _ _ _=>(kW (gT fF))))
  (fE (l6 rfl (eZ 1) (p5 rfl (jL nd 3 (jL nd 4 qA))) (fE (jT (t_w (sF (nK (lV (f9 d69 (rdn hr) (e9 (eZ 0) (e9 (eZ 3) fF))))) (yF (nK (lV (f9 d69 (rdn hr) (e9 (eZ 0) (e9 (eZ 4) fF)))))))) (fI aBL) hW)
  (fI (jT (aIC (hu20 hr) (eZ 3) (gE (eZ 2) (eZ 4))) (fI (oQ (gE (eZ 2) (eZ 4)) (e9 (eZ 3) fF))) hW))))
  (fI (fW (eZ 2)))))
theorem xL(m61:mg "range"=none)(m60:mg "len"=none)(m66:mg "all"=none):Ky P w K mg base "least_ready" "least_ready" (top 8) ["needed","told"] 1 (spT K 2 mG):=fun F=>okB (N:=["needed","told","work"]) F iA (iO hV) fun nd hr=>
 (fE (lO m61 rfl (lI m60 (e9 (eZ 0) fF)) (jN nd 2) (fI (jT (t_w (zS (aIC (hu20 hr) (eZ 2) (eZ 1)) (tU (lV (aK2 m66 rfl (e9 (f6 (kB rfl (cok ["first"] ["told"] [1]) (gE (eZ 0) (eZ 2)) (jF (by decide)) (fun _ _ _ _=>(jN (show List.Nodup (["first","told"]:List Str)by decide) 0)) (fun _ _ _ _=>iL) (fun _ _ _ _=>(aOe (hu20 hr) (eZ 0) (eZ 1))))) fF)))))) (fI (fW (eZ 2))) hW)))
  (fI aBL))
theorem aB9(d70:jV P w K mg base 2 "needed_works" 2 gY)(d71:jV P w K mg base 1 "least_ready" 2 mG)(m60:mg "len"=none):Ky P w K mg base "order_of" "order_of" (top 5) ["many","needs"] 3 (spT K 2 mY):=fun F=>okB (N:=["many","needs","needed","order"]) F iA (iO hV) fun nd hr=>
 (fE (fR nd 2 (f9 d70 (rdn hr) (e9 (eZ 0) (e9 (eZ 1) fF))))
  (fE (fR nd 3 (kW (gT fF)))
  (fE (oK 10 (zJ (lI m60 (e9 (eZ 3) fF)) (eZ 0)) (fI (oQ (eZ 3) (e9 (f9 d71 (rdn hr) (e9 (eZ 2) (e9 (eZ 3) fF))) fF))))
  (fI (fW (eZ 3))))))
theorem aCf(d72:jV P w K mg base 3 "order_of" 2 mY)(d70:jV P w K mg base 2 "needed_works" 2 gY)(m60:mg "len"=none)(m64:mg "max"=none):Ky P w K mg base "earliest" "earliest" (top 10) ["hours","needs"] 4 (spT K 2 lX):=fun F=>okB (N:=["hours","needs","order","needed","begins","work"]) F iA (iO hV) fun nd hr=>
 (fE (fR nd 2 (f9 d72 (rdn hr) (e9 (lI m60 (e9 (eZ 0) fF)) (e9 (eZ 1) fF))))
  (fE (fR nd 3 (f9 d70 (rdn hr) (e9 (lI m60 (e9 (eZ 0) fF)) (e9 (eZ 1) fF))))
  (fE (fR nd 4 (kW (kB rfl (cok ["work"] [] []) (eZ 2) (jF (by decide)) (fun _ _ _ _=>(jN (show List.Nodup (["work"]:List Str)by decide) 0)) (fun _ _ _ _=>iL) (fun _ _ _ _=>fH))))
  (fE (l6 rfl (eZ 2) (jN nd 5) (fI (r6 (aIu m64 rfl (f6 (kB rfl (cok ["first"] ["begins","hours"] [4,0]) (gE (eZ 3) (eZ 5)) (jF (by decide)) (fun _ _ _ _=>(jN (show List.Nodup (["first","begins","hours"]:List Str)by decide) 0)) (fun _ _ _ _=>iL) (fun _ _ _ _=>(iJ (gE (eZ 1) (eZ 0)) (gE (eZ 2) (eZ 0)))))) fH) (eZ 4) (eZ 5))))
  (fI (fW (eZ 4)))))))
theorem aE6(d73:jV P w K mg base 1 "done_moments" 2 kF)(d74:jV P w K mg base 4 "earliest" 2 lX)(m64:mg "max"=none):Ky P w K mg base "length" "length" (top 11) ["hours","needs"] 5 (spT K 2 lB):=fun F=>okB (N:=["hours","needs"]) F iA (iO hV) fun nd hr=>
 (fI (fW (aIu m64 rfl (f9 d73 (rdn hr) (e9 (f9 d74 (rdn hr) (e9 (eZ 0) (e9 (eZ 1) fF))) (e9 (eZ 0) fF))) fH)))
theorem wG:Ky P w K mg base "least_hours" "least_hours" (top 34) ["works"] 1 (spT K 1 k8):=fun F=>okB (N:=["works"]) F iA (iO hV) fun nd hr=>
 (fI (fW (f6 (kB rfl (cok ["work"] [] []) (eZ 0) (jF (by decide)) (fun _ _ _ _=>(jN (show List.Nodup (["work"]:List Str)by decide) 0)) (fun _ _ _ _=>iL) (fun _ _ _ _=>(gE (eZ 0) fH))))))
theorem aAW(d75:jV P w K mg base 5 "length" 2 lB)(d76:jV P w K mg base 1 "least_hours" 1 k8):Ky P w K mg base "least_end" "least_end" (top 31) ["works","needs"] 6 (spT K 2 iU):=fun F=>okB (N:=["works","needs"]) F iA (iO hV) fun nd hr=>
 (fI (fW (f9 d75 (rdn hr) (e9 (f9 d76 (rdn hr) (e9 (eZ 0) fF)) (e9 (eZ 1) fF)))))
theorem wL:Ky P w K mg base "begin_place" "begin_place" (top 18) ["work"] 1 (spT K 1 iF):=fun F=>okB (N:=["work"]) F iA (iO hV) fun nd hr=>
 (fI (fW (iJ (lG fH (eZ 0)) fH)))
theorem zK:Ky P w K mg base "done_place" "done_place" (top 19) ["work"] 1 (spT K 1 iP):=fun F=>okB (N:=["work"]) F iA (iO hV) fun nd hr=>
 (fI (fW (iJ (lG fH (eZ 0)) fH)))
theorem aBM(d77:jV P w K mg base 1 "begin_place" 1 iF)(d78:jV P w K mg base 1 "done_place" 1 iP)(m62:mg "min"=none):Ky P w K mg base "plan_row" "plan_row" (top 36) ["number","work","moments"] 2 (spN K 3 oT):=fun F=>okB (N:=["number","work","moments","begin"]) F aKO (aLs aI3) fun nd hr=>
 (fE (fR nd 3 (gE (eZ 2) (f9 d77 (rdn hr) (e9 (eZ 0) fF))))
  (fI (fW (kW (gT (e9 (eZ 3) (e9 (pW m62 rfl (e9 (gE (eZ 1) fH) (e9 (oC (gE (eZ 2) (f9 d78 (rdn hr) (e9 (eZ 0) fF))) (eZ 3)) fF))) fF)))))))
theorem aCB(F64:i9 K "Pipe" "tail")(F65:i9 K "Pipe" "head")(F63:i9 K "Pipe" "hours")(F62:i9 K "Pipe" "room")(F61:i9 K "Pipe" "back"):Ky P w K mg base "__init__" "Pipe.__init__" (inClass (top 16) 0) ["self","tail","head","hours","room"] 1 (spS K 5 lZ):=fun F=>okB (N:=["self","tail","head","hours","room"]) F jS kJ fun nd hr=>
 (fE (o6 F64 (eZ 0) (eZ 1))
  (fE (o6 F65 (eZ 0) (eZ 2))
  (fE (o6 F63 (eZ 0) (eZ 3))
  (fE (o6 F62 (eZ 0) (eZ 4))
  (fI (o6 F61 (eZ 0) aCv))))))
theorem aDj(d79:aH9 P w K mg base 1 "Pipe" 5 lZ [] [])(F61:i9 K "Pipe" "back")(F60:i9 K "Net" "pipes"):Ky P w K mg base "lay" "Net.lay" (inClass (top 17) 1) ["self","tail","head","hours","room"] 3 (spS K 5 jP):=fun F=>okB (N:=["self","tail","head","hours","room","pipe","back"]) F jS kJ fun nd hr=>
 (fE (fR nd 5 (aCV d79 (rdn hr) (e9 (eZ 1) (e9 (eZ 2) (e9 (eZ 3) (e9 (eZ 4) fF))))))
  (fE (fR nd 6 (aCV d79 (rdn hr) (e9 (eZ 2) (e9 (eZ 1) (e9 (aNx (eZ 3)) (e9 fH fF))))))
  (fE (o6 F61 (eZ 5) (eZ 6))
  (fE (o6 F61 (eZ 6) (eZ 5))
  (fI (oQ (kE F60 (eZ 0)) (e9 (eZ 5) fF)))))))
theorem aDb{dV:Value}(d80:rO P w K mg base 3 "Net" "lay" 5 jP)(d70:jV P w K mg base 2 "needed_works" 2 gY)(d77:jV P w K mg base 1 "begin_place" 1 iF)(d78:jV P w K mg base 1 "done_place" 1 iP)(F60:i9 K "Net" "pipes")(F66:i9 K "Net" "places")(m67:mg "enumerate"=none)(m60:mg "len"=none)(m68:mg "sum"=none)(G61:∃t,mg "SOURCE"=some (.int 0 t))(G60:∃t,mg "SINK"=some (.int 1 t))(F:aIz K "__init__" "Net.__init__" (inClass (top 17) 0) f fd dV):mV P w K mg base CX0 4 f fd ["self","works","needs","bonus"] (spS K 4 oI):=okD (N:=["self","works","needs","bonus","plenty","number","work","second","firsts","first"]) F jS kJ fun nd hr=>
 (fE (o6 F60 (eZ 0) (kW (gT fF)))
  (fE (o6 F66 (eZ 0) (iJ (lG fH (lI m60 (e9 (eZ 1) fF))) fH))
  (fE (fR nd 4 (iJ (iJ (aEm m68 rfl (e9 (f6 (kB rfl (cok ["work"] [] []) (eZ 1) (jF (by decide)) (fun _ _ _ _=>(jN (show List.Nodup (["work"]:List Str)by decide) 0)) (fun _ _ _ _=>iL) (fun _ _ _ _=>(gE (eZ 0) fH)))) fF)) (eZ 3)) fH))
  (fE (aEi m67 rfl (eZ 1) (p5 rfl (jL nd 5 (jL nd 6 qA))) (fE (nG (aA0 d80 (rdn hr) (eZ 0) (e9 (nJ G61) (e9 (f9 d77 (rdn hr) (e9 (eZ 5) fF)) (e9 fH (e9 (eZ 4) fF))))))
  (fE (nG (aA0 d80 (rdn hr) (eZ 0) (e9 (f9 d77 (rdn hr) (e9 (eZ 5) fF)) (e9 (f9 d78 (rdn hr) (e9 (eZ 5) fF)) (e9 (gE (eZ 6) fH) (e9 (gE (eZ 6) fH) fF))))))
  (fE (nG (aA0 d80 (rdn hr) (eZ 0) (e9 (f9 d77 (rdn hr) (e9 (eZ 5) fF)) (e9 (f9 d78 (rdn hr) (e9 (eZ 5) fF)) (e9 (gE (eZ 6) fH) (e9 (eZ 4) fF))))))
  (fI (nG (aA0 d80 (rdn hr) (eZ 0) (e9 (f9 d78 (rdn hr) (e9 (eZ 5) fF)) (e9 (nJ G60) (e9 fH (e9 (eZ 4) fF)))))))))))
  (fI (aEi m67 rfl (f9 d70 (rdn hr) (e9 (lI m60 (e9 (eZ 1) fF)) (e9 (eZ 2) fF))) (p5 rfl (jL nd 7 (jL nd 8 qA))) (fI (l6 rfl (eZ 8) (jN nd 9) (fI (nG (aA0 d80 (rdn hr) (eZ 0) (e9 (f9 d78 (rdn hr) (e9 (eZ 9) fF)) (e9 (f9 d77 (rdn hr) (e9 (eZ 7) fF)) (e9 fH (e9 (eZ 4) fF)))))))))))))))
theorem wO(F64:i9 K "Pipe" "tail")(F65:i9 K "Pipe" "head"):Ky P w K mg base "next_routes" "next_routes" (top 23) ["routes","pipes"] 1 (spS K 2 mH):=fun F=>okB (N:=["routes","pipes","fresh","pipe"]) F jS kJ fun nd hr=>
 (fE (fR nd 2 aKN)
  (fE (l6 rfl (eZ 1) (jN nd 3) (fI (jT (t_w (zS (aNX (hu20 hr) (kE F64 (eZ 3)) (eZ 0)) (tU (aHK (hu20 hr) (kE F65 (eZ 3)) (eZ 0))))) (fI (aD9 (hu20 hr) (eZ 2) (kE F65 (eZ 3)) (f6 (aEd (aAS (hu20 hr) (eZ 0) (kE F64 (eZ 3))) (f6 (gT (e9 (eZ 3) fF))))))) hW)))
  (fI (fW (eZ 2)))))
theorem yQ(d81:uB P w K mg base 1 "next_routes" 2 mH)(F63:i9 K "Pipe" "hours")(F65:i9 K "Pipe" "head")(F64:i9 K "Pipe" "tail")(G61:∃t,mg "SOURCE"=some (.int 0 t))(G60:∃t,mg "SINK"=some (.int 1 t)):Ky P w K mg base "tight_route" "tight_route" (top 22) ["pipes","moments"] 2 (spS K 2 mE):=fun F=>okB (N:=["pipes","moments","tight","routes"]) F jS kJ fun nd hr=>
 (fE (aJt nd 2 rfl (cok ["pipe"] ["moments"] [1]) (eZ 0) (jF (by decide)) (fun _ _ _ _=>(jN (show List.Nodup (["pipe","moments"]:List Str)by decide) 0)) (fun _ _ _ _=>(vT (aA8 (hu20 hr) (iJ (gE (eZ 1) (kE F64 (eZ 0))) (kE F63 (eZ 0))) (gE (eZ 1) (kE F65 (eZ 0)))))) (fun _ _ _ _=>(eZ 0)))
  (fE (fR nd 3 (aJe (nJ G61) (f6 (gT fF))))
  (fE (oK 40 (aHK (hu20 hr) (nJ G60) (eZ 3)) (fI (nG (aLP (eZ 3) (kR d81 (rdn hr) (e9 (eZ 3) (e9 (eZ 2) fF)))))))
  (fI (fW (aAS (hu20 hr) (eZ 3) (nJ G60)))))))
theorem aJM(F62:i9 K "Pipe" "room")(F61:i9 K "Pipe" "back"):Ky P w K mg base "pour" "pour" (top 25) ["route","amount"] 1 (spS K 2 aBi):=fun F=>okB (N:=["route","amount","pipe"]) F jS kJ fun nd hr=>
 (fI (l6 rfl (eZ 0) (jN nd 2) (fE (aF3 F62 (eZ 2) (eZ 1))
  (fI (aF0 F62 (kE F61 (eZ 2)) (eZ 1))))))
theorem aDK(F62:i9 K "Pipe" "room")(m62:mg "min"=none):Ky P w K mg base "room_on" "room_on" (top 24) ["route"] 1 (spS K 1 qV):=fun F=>okB (N:=["route"]) F jS kJ fun nd hr=>
 (fI (fW (aG1 m62 rfl (e9 (f6 (kB rfl (cok ["pipe"] [] []) (eZ 0) (jF (by decide)) (fun _ _ _ _=>(jN (show List.Nodup (["pipe"]:List Str)by decide) 0)) (fun _ _ _ _=>iL) (fun _ _ _ _=>(kE F62 (eZ 0))))) fF))))
theorem aBT(d82:rO P w K mg base 2 "Net" "moments" 2 iN)(d83:uB P w K mg base 2 "tight_route" 2 mE)(d84:uB P w K mg base 1 "pour" 2 aBi)(d67:rO P w K mg base 1 "Net" "open_pipes" 1 jJ)(d85:uB P w K mg base 1 "room_on" 1 qV)(G60:∃t,mg "SINK"=some (.int 1 t)):Ky P w K mg base "fill" "Net.fill" (inClass (top 17) 2) ["self","end"] 3 (spS K 2 oO):=fun F=>okB (N:=["self","end","moments","route"]) F jS kJ fun nd hr=>
 (fE (fR nd 2 (aA0 d82 (rdn hr) (eZ 0) (e9 fH fF)))
  (fI (oK (10^200) (aCu (gE (eZ 2) (nJ G60)) (eZ 1)) (fE (fR nd 3 (kR d83 (rdn hr) (e9 (aIA d67 (rdn hr) (eZ 0)) (e9 (eZ 2) fF))))
  (fE (nG (kR d84 (rdn hr) (e9 (eZ 3) (e9 (kR d85 (rdn hr) (e9 (eZ 3) fF)) fF))))
  (fI (fR nd 2 (aA0 d82 (rdn hr) (eZ 0) (e9 fH fF)))))))))
theorem zM(d86:aH9 P w K mg base 4 "Net" 4 oI [.int 0] [.int 0])(d87:rO P w K mg base 3 "Net" "fill" 2 oO):Ky P w K mg base "filled_net" "filled_net" (top 35) ["works","needs","end"] 6 (spS K 3 kP):=fun F=>okB (N:=["works","needs","end","net"]) F jS kJ fun nd hr=>
 (fE (fR nd 3 (aCV d86 (rdn hr) (e9 (eZ 0) (e9 (eZ 1) fF))))
  (fE (nG (aA0 d87 (rdn hr) (eZ 3) (e9 (eZ 2) fF)))
  (fI (fW (eZ 3)))))
theorem aDi(d82:rO P w K mg base 2 "Net" "moments" 2 iN)(d88:jV P w K mg base 6 "least_end" 2 iU)(d89:aML P w K mg base 2 "plan_row" 3 oT)(d90:uB P w K mg base 6 "filled_net" 3 kP)(m67:mg "enumerate"=none):Ky P w K mg base "plan_at" "plan_at" (top 32) ["works","needs","end"] 7 (aCH K 3 mB):=fun F=>okB (N:=["works","needs","end","moments"]) F aCp (aEX aCA) fun nd hr=>
 (fE (jT (zJ (eZ 2) (f9 d88 (rdn hr) (e9 (eZ 0) (e9 (eZ 1) fF)))) (fI (fW aCv)) hW)
  (fE (fR nd 3 (aA0 d82 (rdn hr) (kR d90 (rdn hr) (e9 (eZ 0) (e9 (eZ 1) (e9 (eZ 2) fF)))) (e9 (eZ 2) fF)))
  (fI (fW (kW (aI2 m67 rfl (cok ["number","work"] ["moments"] [3]) (eZ 0) (aA5 (by decide)) (fun _ _ _ _=>(p5 rfl (jL (show List.Nodup (["number","work","moments"]:List Str)by decide) 0 (jL (show List.Nodup (["number","work","moments"]:List Str)by decide) 1 qA)))) (fun _ _ _ _=>iL) (fun _ _ _ _=>(kW (aMG d89 (rdn hr) (e9 (eZ 0) (e9 (eZ 1) (e9 (eZ 2) fF))))))))))))
theorem zB:Ky P w K mg base "steps_from" "steps_from" (top 27) ["place","flows"] 1 (spS K 2 lP):=fun F=>okB (N:=["place","flows"]) F jS kJ fun nd hr=>
 (fI (fW (f6 (aJk rfl (cok ["step"] ["place","flows"] [0,1]) (eZ 1) (jF (by decide)) (fun _ _ _ _=>(jN (show List.Nodup (["step","place","flows"]:List Str)by decide) 0)) (fun _ _ _ _=>(vT (t_w (zS (aA8 (hu20 hr) (gE (eZ 0) fH) (eZ 1)) (tU (aCu (aAS (hu20 hr) (eZ 2) (eZ 0)) fH)))))) (fun _ _ _ _=>(eZ 0))))))
theorem uN(d91:uB P w K mg base 1 "steps_from" 2 lP)(G61:∃t,mg "SOURCE"=some (.int 0 t)):Ky P w K mg base "flowing_route" "flowing_route" (top 26) ["flows"] 2 (spS K 1 j5):=fun F=>okB (N:=["flows","route","steps"]) F jS kJ fun nd hr=>
 (fE (fR nd 1 (kW (gT fF)))
  (fE (fR nd 2 (kR d91 (rdn hr) (e9 (nJ G61) (e9 (eZ 0) fF))))
  (fE (oK 40 (lV (eZ 2)) (fE (oQ (eZ 1) (e9 (gE (eZ 2) fH) fF))
  (fI (fR nd 2 (kR d91 (rdn hr) (e9 (gE (gE (eZ 2) fH) fH) (e9 (eZ 0) fF)))))))
  (fI (fW (eZ 1))))))
theorem aDY:Ky P w K mg base "work_at" "work_at" (top 20) ["place"] 1 (spT K 1 qW):=fun F=>okB (N:=["place"]) F iA (iO hV) fun nd hr=>
 (fI (fW (oC (lE (eZ 0) fH) fH)))
theorem aCg(d92:jV P w K mg base 1 "work_at" 1 qW):Ky P w K mg base "works_on" "works_on" (top 29) ["route"] 2 (spS K 1 oS):=fun F=>okB (N:=["route"]) F jS kJ fun nd hr=>
 (fI (fW (f6 (kB rfl (cok ["tail","head"] [] []) (f6 (aNR (eZ 0))) (aA5 (by decide)) (fun _ _ _ _=>(p5 rfl (jL (show List.Nodup (["tail","head"]:List Str)by decide) 0 (jL (show List.Nodup (["tail","head"]:List Str)by decide) 1 qA)))) (fun _ _ _ _=>iL) (fun _ _ _ _=>(f9 d92 (rdn hr) (e9 (eZ 0) fF)))))))
theorem aBV(m62:mg "min"=none):Ky P w K mg base "take_out" "take_out" (top 28) ["flows","route"] 1 (spS K 2 o7):=fun F=>okB (N:=["flows","route","amount","step"]) F jS kJ fun nd hr=>
 (fE (fR nd 2 (aG1 m62 rfl (e9 (f6 (kB rfl (cok ["step"] ["flows"] [0]) (eZ 1) (jF (by decide)) (fun _ _ _ _=>(jN (show List.Nodup (["step","flows"]:List Str)by decide) 0)) (fun _ _ _ _=>iL) (fun _ _ _ _=>(aAS (hu20 hr) (eZ 1) (eZ 0))))) fF)))
  (fE (l6 rfl (eZ 1) (jN nd 3) (fI (aDl (hu20 hr) (eZ 0) (eZ 3) (eZ 2))))
  (fI (fW (eZ 2)))))
theorem zD(d93:uB P w K mg base 2 "flowing_route" 1 j5)(d94:uB P w K mg base 2 "works_on" 1 oS)(d95:uB P w K mg base 1 "take_out" 2 o7)(F60:i9 K "Net" "pipes")(F64:i9 K "Pipe" "tail")(F65:i9 K "Pipe" "head")(F62:i9 K "Pipe" "room")(F61:i9 K "Pipe" "back"):Ky P w K mg base "stream" "Net.stream" (inClass (top 17) 8) ["self"] 3 (spS K 1 mU):=fun F=>okB (N:=["self","flows","pipe","step","rows","route"]) F jS kJ fun nd hr=>
 (fE (fR nd 1 aJb)
  (fE (l6 rfl (kE F60 (eZ 0)) (jN nd 2) (fE (fR nd 3 (aA4 (e9 (kE F64 (eZ 2)) (e9 (kE F65 (eZ 2)) fF))))
  (fI (aD9 (hu20 hr) (eZ 1) (eZ 3) (iJ (aJw (hu20 hr) (eZ 1) (eZ 3) fH) (kE F62 (kE F61 (eZ 2))))))))
  (fE (fR nd 4 (kW (gT fF)))
  (fE (fR nd 5 (kR d93 (rdn hr) (e9 (eZ 1) fF)))
  (fE (oK (10^200) (lV (eZ 5)) (fE (oQ (eZ 4) (e9 (kW (aEd (f6 (gT (e9 (kR d95 (rdn hr) (e9 (eZ 1) (e9 (eZ 5) fF))) fF))) (kR d94 (rdn hr) (e9 (eZ 5) fF)))) fF))
  (fI (fR nd 5 (kR d93 (rdn hr) (e9 (eZ 1) fF))))))
  (fI (fW (eZ 4))))))))
theorem aAH(d96:rO P w K mg base 3 "Net" "stream" 1 mU)(d88:jV P w K mg base 6 "least_end" 2 iU)(d90:uB P w K mg base 6 "filled_net" 3 kP):Ky P w K mg base "stream_at" "stream_at" (top 33) ["works","needs","end"] 7 (aCH K 3 kG):=fun F=>okB (N:=["works","needs","end"]) F aCp (aEX aCA) fun nd hr=>
 (fE (jT (zJ (eZ 2) (f9 d88 (rdn hr) (e9 (eZ 0) (e9 (eZ 1) fF)))) (fI (fW aCv)) hW)
  (fI (fW (aIA d96 (rdn hr) (kR d90 (rdn hr) (e9 (eZ 0) (e9 (eZ 1) (e9 (eZ 2) fF))))))))
theorem aDP:Ky P w K mg base "_law_spoil" "_law_spoil" (top 53) ["_law_rows"] 1 (aDJ K 1 kQ):=fun F=>okB (N:=["_law_rows","_law_row"]) F aGt aKw fun nd hr=>
 (fE (l6 rfl (eZ 0) (jN nd 1) (fI (oQ (eZ 1) (e9 fH fF))))
  (fI (oQ (eZ 0) (e9 (f6 (gT (e9 fH fF))) fF))))
theorem aDd(m68:mg "sum"=none)(m61:mg "range"=none)(m60:mg "len"=none):Ky P w K mg base "_law_price" "_law_price" (top 49) ["_law_works","_law_plan"] 1 (spT K 2 oB):=fun F=>okB (N:=["_law_works","_law_plan"]) F iA (iO hV) fun nd hr=>
 (fI (fW (aEm m68 rfl (e9 (f6 (aCN m61 rfl (cok ["_law_k"] ["_law_works","_law_plan"] [0,1]) (lI m60 (e9 (eZ 0) fF)) (jF (by decide)) (fun _ _ _ _=>(jN (show List.Nodup (["_law_k","_law_works","_law_plan"]:List Str)by decide) 0)) (fun _ _ _ _=>iL) (fun _ _ _ _=>(lG (gE (gE (eZ 1) (eZ 0)) fH) (oC (gE (gE (eZ 1) (eZ 0)) fH) (gE (gE (eZ 2) (eZ 0)) fH)))))) fF))))
theorem aDx(m61:mg "range"=none)(m60:mg "len"=none)(m68:mg "sum"=none)(m62:mg "min"=none):Ky P w K mg base "_law_worth" "_law_worth" (top 52) ["_law_works","_law_rows","_law_end"] 1 (spT K 3 n6):=fun F=>okB (N:=["_law_works","_law_rows","_law_end","_law_total","_law_k","_law_usual","_law_least","_law_price_here","_law_amount"]) F iA (iO hV) fun nd hr=>
 (fE (fR nd 3 (oC fH (lG (eZ 2) (aEm m68 rfl (e9 (f6 (kB rfl (cok ["_law_row"] [] []) (eZ 1) (jF (by decide)) (fun _ _ _ _=>(jN (show List.Nodup (["_law_row"]:List Str)by decide) 0)) (fun _ _ _ _=>iL) (fun _ _ _ _=>(gE (eZ 0) fH)))) fF)))))
  (fE (lO m61 rfl (lI m60 (e9 (eZ 0) fF)) (jN nd 4) (fE (aDk (gE (eZ 0) (eZ 4)) (p5 rfl (jL nd 5 (jL nd 6 (jL nd 7 qA)))))
  (fE (fR nd 8 (aEm m68 rfl (e9 (f6 (kB rfl (cok ["_law_row"] ["_law_k"] [4]) (eZ 1) (jF (by decide)) (fun _ _ _ _=>(jN (show List.Nodup (["_law_row","_law_k"]:List Str)by decide) 0)) (fun _ _ _ _=>(vT (aOh (hu20 hr) (eZ 1) (f6 (vN (eZ 0) (aAN fH) tI))))) (fun _ _ _ _=>(gE (eZ 0) fH)))) fF)))
  (fI (fR nd 3 (iJ (eZ 3) (pW m62 rfl (e9 (lG (eZ 8) (eZ 5)) (e9 (iJ (lG (eZ 7) (oC (eZ 5) (eZ 6))) (lG (eZ 8) (eZ 6))) fF)))))))))
  (fI (fW (eZ 3)))))
theorem aGE(m69:mg "isinstance"=none)(m63:mg "int"=none)(m70:mg "bool"=none):Ky P w K mg base "_law_whole" "_law_whole" (top 38) ["_law_found"] 1 (spT K 1 mC):=fun F=>okB (N:=["_law_found"]) F iA (iO hV) fun nd hr=>
 (fI (fW (aLj (aE9 m69 m63 (eZ 0)) (aK5 (aNY (aDX m69 m70 (eZ 0)))))))
theorem aBm(d97:jV P w K mg base 1 "_law_whole" 1 mC)(m61:mg "range"=none)(m66:mg "all"=none)(m60:mg "len"=none)(m69:mg "isinstance"=none)(m71:mg "list"=none):Ky P w K mg base "_law_is_plan" "_law_is_plan" (top 48) ["_law_works","_law_needs","_law_end","_law_plan"] 2 (spT K 4 nQ):=fun F=>okB (N:=["_law_works","_law_needs","_law_end","_law_plan","_law_k","_law_row"]) F iA (iO hV) fun nd hr=>
 (fE (jT (t_w (sF (nK (lV (o0 m69 m71 (eZ 3)))) (yF (aH0 (hu20 hr) (lI m60 (e9 (eZ 3) fF)) (lI m60 (e9 (eZ 0) fF)))))) (fI (fW oV)) hW)
  (fE (lO m61 rfl (lI m60 (e9 (eZ 0) fF)) (jN nd 4) (fE (fR nd 5 (gE (eZ 3) (eZ 4)))
  (fE (jT (t_w (sF (nK (lV (o0 m69 m71 (eZ 5)))) (sF (aH0 (hu20 hr) (lI m60 (e9 (eZ 5) fF)) fH) (sF (nK (lV (f9 d97 (rdn hr) (e9 (gE (eZ 5) fH) fF)))) (yF (nK (lV (f9 d97 (rdn hr) (e9 (gE (eZ 5) fH) fF))))))))) (fI (fW oV)) hW)
  (fI (jT (t_w (sF (zJ (gE (eZ 5) fH) fH) (sF (zJ (gE (eZ 5) fH) (gE (gE (eZ 0) (eZ 4)) fH)) (sF (aCu (gE (eZ 5) fH) (gE (gE (eZ 0) (eZ 4)) fH)) (yF (aCu (iJ (gE (eZ 5) fH) (gE (eZ 5) fH)) (eZ 2))))))) (fI (fW oV)) hW)))))
  (fI (fW (aK2 m66 rfl (e9 (f6 (kB rfl (cok ["_law_a","_law_b"] ["_law_plan"] [3]) (eZ 1) (aA5 (by decide)) (fun _ _ _ _=>(p5 rfl (jL (show List.Nodup (["_law_a","_law_b","_law_plan"]:List Str)by decide) 0 (jL (show List.Nodup (["_law_a","_law_b","_law_plan"]:List Str)by decide) 1 qA)))) (fun _ _ _ _=>iL) (fun _ _ _ _=>(aOl (gE (gE (eZ 2) (eZ 1)) fH) (iJ (gE (gE (eZ 2) (eZ 0)) fH) (gE (gE (eZ 2) (eZ 0)) fH)))))) fF))))))
theorem aBR(d97:jV P w K mg base 1 "_law_whole" 1 mC)(m61:mg "range"=none)(m60:mg "len"=none):Ky P w K mg base "_law_is_way" "_law_is_way" (top 50) ["_law_many","_law_needs","_law_some"] 2 (spT K 3 oR):=fun F=>okB (N:=["_law_many","_law_needs","_law_some","_law_k"]) F iA (iO hV) fun nd hr=>
 (fE (jT (aA8 (hu20 hr) (eZ 2) (f6 (gT fF))) (fI (fW oV)) hW)
  (fE (lO m61 rfl (lI m60 (e9 (eZ 2) fF)) (jN nd 3) (fE (jT (t_w (sF (nK (lV (f9 d97 (rdn hr) (e9 (gE (eZ 2) (eZ 3)) fF)))) (sF (zJ (gE (eZ 2) (eZ 3)) fH) (yF (aND (gE (eZ 2) (eZ 3)) (eZ 0)))))) (fI (fW oV)) hW)
  (fI (jT (t_w (zS (aCu (eZ 3) fH) (tU (aIC (hu20 hr) (f6 (gT (e9 (gE (eZ 2) (oC (eZ 3) fH)) (e9 (gE (eZ 2) (eZ 3)) fF)))) (eZ 1))))) (fI (fW oV)) hW))))
  (fI (fW oV))))
theorem xZ(d98:jV P w K mg base 2 "_law_is_way" 3 oR)(d97:jV P w K mg base 1 "_law_whole" 1 mC)(m69:mg "isinstance"=none)(m71:mg "list"=none)(m60:mg "len"=none):Ky P w K mg base "_law_is_stream" "_law_is_stream" (top 51) ["_law_many","_law_needs","_law_rows"] 3 (spT K 3 mD):=fun F=>okB (N:=["_law_many","_law_needs","_law_rows","_law_row"]) F iA (iO hV) fun nd hr=>
 (fE (jT (nK (lV (o0 m69 m71 (eZ 2)))) (fI (fW oV)) hW)
  (fE (l6 rfl (eZ 2) (jN nd 3) (fE (jT (t_w (sF (nK (lV (o0 m69 m71 (eZ 3)))) (sF (zJ (lI m60 (e9 (eZ 3) fF)) fH) (sF (nK (lV (f9 d97 (rdn hr) (e9 (gE (eZ 3) fH) fF)))) (yF (zJ (gE (eZ 3) fH) fH)))))) (fI (fW oV)) hW)
  (fI (jT (nK (lV (f9 d98 (rdn hr) (e9 (eZ 0) (e9 (eZ 1) (e9 (f6 (vN (eZ 3) (aAN fH) tI)) fF)))))) (fI (fW oV)) hW))))
  (fI (fW oV))))
theorem aDQ(d99:aEO P w K mg base 7 "plan_at" 3 mB)(d100:aEO P w K mg base 7 "stream_at" 3 kG)(d101:aGu P w K mg base 1 "_law_spoil" 1 kQ)(d102:jV P w K mg base 1 "_law_price" 2 oB)(d103:jV P w K mg base 1 "_law_worth" 3 n6)(d104:jV P w K mg base 2 "_law_is_plan" 4 nQ)(d105:jV P w K mg base 3 "_law_is_stream" 3 mD)(m71:mg "list"=none)(m60:mg "len"=none):Ky P w K mg base "_law_right" "_law_right" (top 54) ["_law_works","_law_needs","_law_end","_law_least","_law_free"] 8 (spT K 5 qN):=fun F=>okB (N:=["_law_works","_law_needs","_law_end","_law_least","_law_free","_law_handed","_law_plan","_law_rows"]) F iA (iO hV) fun nd hr=>
 (fE (fR nd 5 (f6 (gT (e9 (f6 (kB rfl (cok ["_law_work_here"] [] []) (eZ 0) (jF (by decide)) (fun _ _ _ _=>(jN (show List.Nodup (["_law_work_here"]:List Str)by decide) 0)) (fun _ _ _ _=>iL) (fun _ _ _ _=>(f6 (aIL m71 (e9 (eZ 0) fF)))))) (e9 (f6 (kB rfl (cok ["_law_pair"] [] []) (eZ 1) (jF (by decide)) (fun _ _ _ _=>(jN (show List.Nodup (["_law_pair"]:List Str)by decide) 0)) (fun _ _ _ _=>iL) (fun _ _ _ _=>(f6 (aIL m71 (e9 (eZ 0) fF)))))) fF)))))
  (fE (fR nd 6 (aE2 d99 (rdn hr) (e9 (gE (eZ 5) fH) (e9 (gE (eZ 5) fH) (e9 (eZ 2) fF)))))
  (fE (fR nd 7 (aE2 d100 (rdn hr) (e9 (gE (eZ 5) fH) (e9 (gE (eZ 5) fH) (e9 (eZ 2) fF)))))
  (fE (jT (aH0 (hu20 hr) (eZ 5) (f6 (gT (e9 (eZ 0) (e9 (eZ 1) fF))))) (fI (fW oV)) hW)
  (fE (jT (zJ (eZ 2) (eZ 3)) (fI (fW (aLj (aLh (eZ 6) aCv) (aK5 (aLh (eZ 7) aCv))))) hW)
  (fE (jT (t_w (sF (nK (lV (f9 d104 (rdn hr) (e9 (eZ 0) (e9 (eZ 1) (e9 (eZ 2) (e9 (eZ 6) fF))))))) (yF (nK (lV (f9 d105 (rdn hr) (e9 (lI m60 (e9 (eZ 0) fF)) (e9 (eZ 1) (e9 (eZ 7) fF))))))))) (fI (fW oV)) hW)
  (fE (jT (t_w (zS (aND (eZ 2) (eZ 4)) (tU (aH0 (hu20 hr) (eZ 7) (f6 (gT fF)))))) (fI (fW oV)) hW)
  (fE (jT (aH0 (hu20 hr) (f9 d102 (rdn hr) (e9 (eZ 0) (e9 (eZ 6) fF))) (f9 d103 (rdn hr) (e9 (eZ 0) (e9 (eZ 7) (e9 (eZ 2) fF))))) (fI (fW oV)) hW)
  (fE (aIc d101 (rdn hr) (e9 (eZ 6) fF))
  (fE (aIc d101 (rdn hr) (e9 (eZ 7) fF))
  (fI (fW (aNJ (hu20 hr) (eZ 5) (f6 (gT (e9 (eZ 0) (e9 (eZ 1) fF)))))))))))))))))
theorem aMn(d106:jV P w K mg base 3 "_law_lot" 3 sZ)(d107:jV P w K mg base 2 "_law_ends" 2 qL)(d61:jV P w K mg base 1 "_law_cell_at" 2 iK)(d60:jV P w K mg base 1 "_law_mixed" 2 j4)(d108:jV P w K mg base 8 "_law_right" 5 qN):Ky P w K mg base "law" "law" (top 55) ["_law_script"] 9 (spT K 1 aEz):=fun F=>okB (N:=["_law_script","_law_works","_law_needs","_law_least","_law_free","_law_cell","_law_far","_law_drawn","_law_amid","_law_end"]) F iA (iO hV) fun nd hr=>
 (fE (aDk (f9 d106 (rdn hr) (e9 (eZ 0) (e9 fH (e9 (aEt fH fH) fF)))) (p5 rfl (jL nd 1 (jL nd 2 qA))))
  (fE (aDk (f9 d107 (rdn hr) (e9 (eZ 1) (e9 (eZ 2) fF))) (p5 rfl (jL nd 3 (jL nd 4 qA))))
  (fE (fR nd 5 (f9 d61 (rdn hr) (e9 (eZ 0) (e9 fH fF))))
  (fE (fR nd 6 (gE (f6 (gT (e9 fH (e9 (iS (eZ 5) (aEt fH fH)) fF)))) (iS (eZ 5) fH)))
  (fE (fR nd 7 (iJ (lG (f9 d60 (rdn hr) (e9 (eZ 5) (e9 fH fF))) (aEt (f9 d60 (rdn hr) (e9 (eZ 5) (e9 fH fF))) fH)) (f9 d61 (rdn hr) (e9 (eZ 0) (e9 fH fF)))))
  (fE (fR nd 8 (iJ (eZ 3) (iS (eZ 7) (iJ (oC (eZ 4) (eZ 3)) fH))))
  (fE (l6 rfl (f6 (gT (e9 (eZ 8) (e9 (eZ 3) (e9 (oC (eZ 3) (eZ 6)) (e9 (oC (iJ (eZ 4) (eZ 6)) fH) fF)))))) (jN nd 9) (fI (jT (nK (lV (f9 d108 (rdn hr) (e9 (eZ 1) (e9 (eZ 2) (e9 (eZ 9) (e9 (eZ 3) (e9 (eZ 4) fF)))))))) (fI (fW oV)) hW)))
  (fI (fW oV)))))))))
end
set_option maxHeartbeats 0 in
theorem aLX{l:aPN}{w:World}{K:aO}{h:Heap}{mg:Str->Option Value}{fa:Addr}(X:K.In h)(G:h.Ns mainGlobals mg)(hfa:mg "law"=some (.ref fa))
 {C60:Addr}(h60:Cm K "Pipe" C60)
 {C61:Addr}(h61:Cm K "Net" C61)
 (v60:bQ K (.ref C61) "pipes"=some none)
 (v61:bQ K (.ref C60) "back"=some none)
 (v62:bQ K (.ref C60) "room"=some none)
 (v63:bQ K (.ref C60) "hours"=some none)
 (v64:bQ K (.ref C60) "tail"=some none)
 (v65:bQ K (.ref C60) "head"=some none)
 (v66:bQ K (.ref C61) "places"=some none)
 (a1:Nm K "_law_mixed" (top 40))
 (a2:Nm K "_law_cell_at" (top 39))
 (a3:Nm K "_law_numbers" (top 42))
 (a4:Nm K "_law_names" (top 41))
 (a5:Nm K "_law_lot_free" (top 44))
 (a6:Nm K "_law_work" (top 43))
 (a7:Nm K "_law_lot" (top 45))
 (a8:Nm K "_law_length" (top 46))
 (a9:Nm K "_law_ends" (top 47))
 (a10:Mm K C61 "open_pipes" "Net.open_pipes" (inClass (top 17) 6))
 (a11:Nm K "raise_moments" (top 21))
 (a12:Mm K C61 "moments" "Net.moments" (inClass (top 17) 4))
 (a13:Nm K "done_moments" (top 12))
 (a14:Nm K "is_work" (top 6))
 (a15:Nm K "needed_works" (top 7))
 (a16:Nm K "least_ready" (top 8))
 (a17:Nm K "order_of" (top 5))
 (a18:Nm K "earliest" (top 10))
 (a19:Nm K "length" (top 11))
 (a20:Nm K "least_hours" (top 34))
 (a21:Nm K "least_end" (top 31))
 (a22:Nm K "begin_place" (top 18))
 (a23:Nm K "done_place" (top 19))
 (a24:Nm K "plan_row" (top 36))
 (a25:Mm K C60 "__init__" "Pipe.__init__" (inClass (top 16) 0))
 (a26:Mm K C61 "lay" "Net.lay" (inClass (top 17) 1))
 {f27:Addr}{od27 an27:Option Addr}{sl27:Array (Option Value)}{oc27 kV27 dc27 pm27 cd27 ct27:Value}
 {T27:Addr}
 (a27:bQ K (.ref C61) "__init__"=some (some (.ref f27)))(l27:K.lookup f27=some ⟨oc27,od27,.func (cK "__init__" "Net.__init__" (jX (inClass (top 17) 0)) (jE (inClass (top 17) 0)) (gQ (inClass (top 17) 0)) (.ref T27) kV27 dc27 pm27 an27 cd27 ct27),sl27⟩)(c27:dL K cd27 "Net.__init__"=true)(k27:cF K (.ref f27)=true)
 (n27:aOs K (.ref f27)=true)
 {toc27:Value}{tod27:Option Addr}{tn27:Nat}{tsl27:Array (Option Value)}{tt27:Tok}(d27:K.lookup T27=some ⟨toc27,tod27,.seq #[.int 0 tt27] tn27,tsl27⟩)
 (a28:Nm K "next_routes" (top 23))
 (a29:Nm K "tight_route" (top 22))
 (a30:Nm K "pour" (top 25))
 (a31:Nm K "room_on" (top 24))
 (a32:Mm K C61 "fill" "Net.fill" (inClass (top 17) 2))
 (a33:Nm K "filled_net" (top 35))
 (a34:Nm K "plan_at" (top 32))
 (a35:Nm K "steps_from" (top 27))
 (a36:Nm K "flowing_route" (top 26))
 (a37:Nm K "work_at" (top 20))
 (a38:Nm K "works_on" (top 29))
 (a39:Nm K "take_out" (top 28))
 (a40:Mm K C61 "stream" "Net.stream" (inClass (top 17) 8))
 (a41:Nm K "stream_at" (top 33))
 (a42:Nm K "_law_spoil" (top 53))
 (a43:Nm K "_law_price" (top 49))
 (a44:Nm K "_law_worth" (top 52))
 (a45:Nm K "_law_whole" (top 38))
 (a46:Nm K "_law_is_plan" (top 48))
 (a47:Nm K "_law_is_way" (top 50))
 (a48:Nm K "_law_is_stream" (top 51))
 (a49:Nm K "_law_right" (top 54))
 {f50:Addr}{od50 an50:Option Addr}{sl50:Array (Option Value)}{oc50 kV50 dc50 pm50 cd50 ct50:Value}
 (a50:bU K mainGlobals "law"=some (some (.ref f50)))(l50:K.lookup f50=some ⟨oc50,od50,.func (cK "law" "law" (jX (top 55)) (jE (top 55)) (gQ (top 55)) .none kV50 dc50 pm50 an50 cd50 ct50),sl50⟩)(c50:dL K cd50 "law"=true)(k50:cF K (.ref f50)=true)
 (z60:bU K mainGlobals "len"=some none)
 (z61:bU K mainGlobals "range"=some none)
 (z62:bU K mainGlobals "min"=some none)
 (z63:bU K mainGlobals "int"=some none)
 (z64:bU K mainGlobals "max"=some none)
 (z65:bU K mainGlobals "zip"=some none)
 (z66:bU K mainGlobals "all"=some none)
 (z67:bU K mainGlobals "enumerate"=some none)
 (z68:bU K mainGlobals "sum"=some none)
 (z69:bU K mainGlobals "isinstance"=some none)
 (z70:bU K mainGlobals "bool"=some none)
 (z71:bU K mainGlobals "list"=some none)
 {u60:Tok}(y60:bU K mainGlobals "SINK"=some (some (.int 1 u60)))
 {u61:Tok}(y61:bU K mainGlobals "SOURCE"=some (some (.int 0 u61))):
 ∃fd:FuncData,(∀(s:Shared)(v:Value),BindsTo s fd ⟨[v],[]⟩ [("_law_script",v)])/\∀base:Heap,K.In base->base.Ns mainGlobals mg->mV l.prog w K mg base CX0 9 fa fd ["_law_script"] (spT K 1 aEz):=by
 have e:=hfa.symm.trans (eY X G a50);cases e;have F60:i9 K "Net" "pipes":=i9.of h61.e h61.c v60;have F61:i9 K "Pipe" "back":=i9.of h60.e h60.c v61;have F62:i9 K "Pipe" "room":=i9.of h60.e h60.c v62;have F63:i9 K "Pipe" "hours":=i9.of h60.e h60.c v63;have F64:i9 K "Pipe" "tail":=i9.of h60.e h60.c v64;have F65:i9 K "Pipe" "head":=i9.of h60.e h60.c v65;have F66:i9 K "Net" "places":=i9.of h61.e h61.c v66;have m60:=cH X G z60;have m61:=cH X G z61;have m62:=cH X G z62;have m63:=cH X G z63;have m64:=cH X G z64;have m65:=cH X G z65;have m66:=cH X G z66;have m67:=cH X G z67;have m68:=cH X G z68;have m69:=cH X G z69;have m70:=cH X G z70;have m71:=cH X G z71;have G60:∃t,mg "SINK"=some (.int 1 t):=⟨_,eY X G y60⟩;have G61:∃t,mg "SOURCE"=some (.int 0 t):=⟨_,eY X G y61⟩
 refine⟨cK "law" "law" (jX (top 55)) (jE (top 55)) (gQ (top 55)) .none kV50 dc50 pm50 an50 cd50 ct50,fun s v=>.of_eq rfl,fun base _ _=>?_⟩
 have xT:= @mkT l.prog w K mg base h;have xMe:= @mkMe l.prog w K mg base;have xS:= @mkS l.prog w K mg base h;have xN:= @mkN l.prog w K mg base h;have xI:= @mkI l.prog w K mg base h;have xRc:= @mkRc l.prog w K mg base h;have xWc:= @mkWc l.prog w K mg base h;have d60:=xT X G a1 aFt;have d61:=xT X G a2 (aC0 m60);have d62:=xT X G a3 (aCc d60 d61 m61 m62 m60);have d63:=xT X G a4 (aF6 d60 m61);have d64:=xT X G a5 (aBF d61 m61 m63);have d65:=xT X G a6 (aFe m63);have d106:=xT X G a7 (aHb d62 d61 d63 d64 d65 m61 m62 m63 m60);have d66:=xT X G a8 (aCW m61 m64 m60);have d107:=xT X G a9 (aHS d66 m63);have d67:=xMe h61 a10 (rZ F60 F61 F62);have d68:=xS X G a11 (uC F63 F64 F65);have d82:=xMe h61 a12 (wW d67 d68 F66 m61 G60);have d73:=xT X G a13 (vA m65);have d69:=xT X G a14 aDv;have d70:=xT X G a15 (vF d69 m61);have d71:=xT X G a16 (xL m61 m60 m66);have d72:=xT X G a17 (aB9 d70 d71 m60);have d74:=xT X G a18 (aCf d72 d70 m60 m64);have d75:=xT X G a19 (aE6 d73 d74 m64);have d76:=xT X G a20 wG;have d88:=xT X G a21 (aAW d75 d76);have d77:=xT X G a22 wL;have d78:=xT X G a23 zK;have d89:=xN X G a24 (aBM d77 d78 m62);have d79:=xI X G h60 a25 (aCB F64 F65 F63 F62 F61);have d80:=xMe h61 a26 (aDj d79 F61 F60);have F27:=aKp (st:=(inClass (top 17) 0)) l27 c27;have d86:aH9 l.prog w K mg base 4 "Net" 4 oI [.int 0] [.int 0]:=⟨⟨C61,f27,_,["self","works","needs","bonus"],[.int 0 tt27],h61.e,eY X G h61.e,⟨h61.mi,a27,n27,h61.kp⟩,aDb d80 d70 d77 d78 F60 F66 m67 m60 m68 G61 G60 F27,aDI 3 rfl d27 rfl (fun us hl=>match us,hl with| [_,_,_],_=>⟨_,rfl,rfl⟩),(.cons ⟨_,rfl⟩ .nil)⟩,fun _ _=>(.cons .int .nil)⟩;have d81:=xS X G a28 (wO F64 F65);have d83:=xS X G a29 (yQ d81 F63 F65 F64 G61 G60);have d84:=xS X G a30 (aJM F62 F61);have d85:=xS X G a31 (aDK F62 m62);have d87:=xMe h61 a32 (aBT d82 d83 d84 d67 d85 G60);have d90:=xS X G a33 (zM d86 d87);have d99:=xRc X G a34 (aDi d82 d88 d89 d90 m67);have d91:=xS X G a35 zB;have d93:=xS X G a36 (uN d91 G61);have d92:=xT X G a37 aDY;have d94:=xS X G a38 (aCg d92);have d95:=xS X G a39 (aBV m62);have d96:=xMe h61 a40 (zD d93 d94 d95 F60 F64 F65 F62 F61);have d100:=xRc X G a41 (aAH d96 d88 d90);have d101:=xWc X G a42 aDP;have d102:=xT X G a43 (aDd m68 m61 m60);have d103:=xT X G a44 (aDx m61 m60 m68 m62);have d97:=xT X G a45 (aGE m69 m63 m70);have d104:=xT X G a46 (aBm d97 m61 m66 m60 m69 m71);have d98:=xT X G a47 (aBR d97 m61 m60);have d105:=xT X G a48 (xZ d98 d97 m69 m71 m60);have d108:=xT X G a49 (aDQ d99 d100 d101 d102 d103 d104 d105 m71 m60)
 exact(aMn d106 d107 d61 d60 d108) (aDH l50 c50 k50)
end K42
open PySem PySem.W PyProof.Rows
local macro_rules| `(tactic|walk_at "kN")=>`(tactic| (refine' TL.Nm.of ?a ?l ?c ?k;(case a=>k_is);(case l=>k_is);(case c=>k_is);(case k=>k_is)))
local macro_rules| `(tactic|walk_at "kM")=>`(tactic| (refine' TL.Mm.of ?a ?l ?c ?k ?n;(case a=>k_is);(case l=>k_is);(case c=>k_is);(case k=>k_is);(case n=>k_is)))
local macro_rules| `(tactic|walk_at "kC")=>`(tactic| (refine'⟨?e,⟨?p,?h,?o,?s⟩,?m,?k⟩;(case e=>k_is);(case p=>k_is);(case h=>k_is);(case o=>k_is);(case s=>k_is);(case m=>k_is);(case k=>k_is)))
set_option maxRecDepth 100000 in
set_option maxHeartbeats 0 in
theorem PySem.Challenge.cw_hastebook_k42_whole_plan_and_stream_holds : PySem.Challenge.rw_hastebook_k42_whole_plan_and_stream.Holds := by
 refine holds_law (by decide+kernel) fun said=>?_;refine holds_open (q:=HT.vw) (YP:=Hook.says (kHook HT.KH HT.KA HT.ka)) (N:=4080) HT.left (Hook.of (kHook HT.KH HT.KA HT.ka)) (Hook.keeps _) HT.xs XL.keeps rfl rfl rfl HT.rs rfl (by first|assumption|decide+kernel) (by decide+kernel) ⟨rfl,rfl,rfl,rfl,rfl,by decide+kernel⟩ ?hw ?hc;(case hw=>w_witness2)
 k_fill
 refine TL.aFb (l:=PySem.Challenge.rw_hastebook_k42_whole_plan_and_stream) (x:="_law_script") (R:=K42.aEz) (k:=9) rfl rfl ⟨rfl,by decide,by decide⟩ (fun w h Y=>PySem.W.kIn_of Y) K42.aHt ?F
 case F=>
  intro w mg fa h KX G hmg;refine' K42.aLX KX G hmg ?h60 ?h61 ?v60 ?v61 ?v62 ?v63 ?v64 ?v65 ?v66 ?a1 ?a2 ?a3 ?a4 ?a5 ?a6 ?a7 ?a8 ?a9 ?a10 ?a11 ?a12 ?a13 ?a14 ?a15 ?a16 ?a17 ?a18 ?a19 ?a20 ?a21 ?a22 ?a23 ?a24 ?a25 ?a26 ?a27 ?l27 ?c27 ?k27 ?n27 ?d27 ?a28 ?a29 ?a30 ?a31 ?a32 ?a33 ?a34 ?a35 ?a36 ?a37 ?a38 ?a39 ?a40 ?a41 ?a42 ?a43 ?a44 ?a45 ?a46 ?a47 ?a48 ?a49 ?a50 ?l50 ?c50 ?k50 ?z60 ?z61 ?z62 ?z63 ?z64 ?z65 ?z66 ?z67 ?z68 ?z69 ?z70 ?z71 ?y60 ?y61
  (case h60=>walk_at "kC")
  (case h61=>walk_at "kC")
  (case v60=>k_is)
  (case v61=>k_is)
  (case v62=>k_is)
  (case v63=>k_is)
  (case v64=>k_is)
  (case v65=>k_is)
  (case v66=>k_is)
  (case a1=>walk_at "kN")
  (case a2=>walk_at "kN")
  (case a3=>walk_at "kN")
  (case a4=>walk_at "kN")
  (case a5=>walk_at "kN")
  (case a6=>walk_at "kN")
  (case a7=>walk_at "kN")
  (case a8=>walk_at "kN")
  (case a9=>walk_at "kN")
  (case a10=>walk_at "kM")
  (case a11=>walk_at "kN")
  (case a12=>walk_at "kM")
  (case a13=>walk_at "kN")
  (case a14=>walk_at "kN")
  (case a15=>walk_at "kN")
  (case a16=>walk_at "kN")
  (case a17=>walk_at "kN")
  (case a18=>walk_at "kN")
  (case a19=>walk_at "kN")
  (case a20=>walk_at "kN")
  (case a21=>walk_at "kN")
  (case a22=>walk_at "kN")
  (case a23=>walk_at "kN")
  (case a24=>walk_at "kN")
  (case a25=>walk_at "kM")
  (case a26=>walk_at "kM")
  (case a27=>k_is)
  (case l27=>k_is)
  (case c27=>k_is)
  (case k27=>k_is)
  (case n27=>k_is)
  (case d27=>k_is)
  (case a28=>walk_at "kN")
  (case a29=>walk_at "kN")
  (case a30=>walk_at "kN")
  (case a31=>walk_at "kN")
  (case a32=>walk_at "kM")
  (case a33=>walk_at "kN")
  (case a34=>walk_at "kN")
  (case a35=>walk_at "kN")
  (case a36=>walk_at "kN")
  (case a37=>walk_at "kN")
  (case a38=>walk_at "kN")
  (case a39=>walk_at "kN")
  (case a40=>walk_at "kM")
  (case a41=>walk_at "kN")
  (case a42=>walk_at "kN")
  (case a43=>walk_at "kN")
  (case a44=>walk_at "kN")
  (case a45=>walk_at "kN")
  (case a46=>walk_at "kN")
  (case a47=>walk_at "kN")
  (case a48=>walk_at "kN")
  (case a49=>walk_at "kN")
  (case a50=>k_is)
  (case l50=>k_is)
  (case c50=>k_is)
  (case k50=>k_is)
  (case z60=>k_is)
  (case z61=>k_is)
  (case z62=>k_is)
  (case z63=>k_is)
  (case z64=>k_is)
  (case z65=>k_is)
  (case z66=>k_is)
  (case z67=>k_is)
  (case z68=>k_is)
  (case z69=>k_is)
  (case z70=>k_is)
  (case z71=>k_is)
  (case y60=>k_is)
  (case y61=>k_is)
