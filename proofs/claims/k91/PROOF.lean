import PyProof.Rows.All
import Wide.All
import OpenK.AllK
import Wide.FinOn
import Lean
import PyProof.EqAt
import PyProof.EqKinds
import PyProof.TupleCall
import PyProof.ExcClass3
import PyProof.NeKinds
import PyProof.ZipIter
import PyProof.ExcArgsOwn
import PyProof.EnumFor
import PyProof.EnumMake
import PyProof.DictUpdate
import PyProof.DictWalks
import PySem.Challenge.RW_hastebook_k91_whole_lots_beside
open Option renaming bind_eq_some_iff->aK,map_eq_some_iff->aL,bind_some->aX,getD_some->cC,some->cH,isSome_iff_exists->cT,toList_some->dI,map_some->aOp,isSome_map->aOU,getD_none->aPB,none->aP4
open List renaming map_cons->aM,length_cons->aN,length_map->aP,length_nil->aQ,getElem?_eq_some_iff->aR,getElem?_set_ne->aS,replicate->aT,length_append->aU,cons_append->aV,append_nil->aW,nil_append->aY,getElem?_append_left->aZ,mem_cons_of_mem->bA,getElem?_eq_getElem->bB,map_nil->bC,mem_of_getElem?->bD,mem_cons->bE,size_toArray->bF,getElem?_append_right->bH,range->bI,mem_cons_self->bJ,getElem?_map->bK,mem_map->bL,mem_append->bM,getElem?_set_self->bO,map_append->bQ,getElem?_cons_zero->bR,getElem?_cons_succ->bS,mem_iff_getElem?->bT,mem_singleton->bU,nodup_cons->bX,lookup_cons->b4,map_map->b7,set_append_right->b8,not_mem_nil->cA,mem_append_right->cD,zip_cons_cons->cE,map_congr_left->cI,length_set->cJ,getElem?_eq_none->cK,mem_map_of_mem->cM,getElem?_replicate->cO,append_assoc->cP,take_length->cV,mem_range->cW,getD_eq_getElem?_getD->cY,set->c7,filterMap_cons->c8,mem_filter->dB,find?_cons->dC,length_zip->dG,lookup->dJ,getElem?_range->dN,take_of_length_le->dO,idxOf_lt_length_of_mem->dP,length_take->dR,getElem_mem->dS,getElem?_zip_eq_some->dU,nodup_append->dX,nodup_iff_count->d0,getElem?_take_of_lt->d3,sum_cons->d7,getElem_map->d9,getElem_range->eA,drop_eq_nil_of_le->eC,set_set->eG,count_cons->eN,length_replicate->eO,set_getElem_self->eQ,take_add_one->eR,mem_append_left->aOc,take_succ->aOe,all_eq_true->aOf,drop_eq_getElem_cons->aOk,length_pos_iff->aOl,length_erase_of_mem->aOn,of_mem_zip->aOo,range_succ_eq_map->aOr,length_range->aOs,length_filter_le->aOu,getElem_inj->aOv,any_cons->aOy,getElem?_zipIdx->aOz,foldl_cons->aOC,sum_append->aOD,map_eq_nil_iff->aOF,count_eq_zero->aOM,getElem_idxOf->aOO,getElem?_eq_none_iff->aOP,mem_or_eq_of_mem_set->aOQ,length_drop->aOX,ext_getElem->aO0,range_succ->aO7,set_append_left->aPe,count_singleton->aPf,take_succ_cons->aPi,mem_filterMap->aPj,foldl->aPk,filterMap_map->aPl,map_replicate->aPm,length_zipIdx->aPn,count_pos_iff->aPo,getElem?_inj->aPt,ext_getElem?->aPu,count_append->aPv,pairwise_map->aPx,any_eq_true->aPC,filter_cons->aPE,length->aPF,map_const'->aPI,nodup_nil->aPJ,drop_zero->aPK,map_drop->aPN,map_take->aPO,cons->aPP,all_map->aPS,map_set->aPW,map->aP6,tail->aP9,sum->aQb
open PySem.W renaming Frag->aO,nsIn->bW,findIn->b5,mg_none_of->cG,fnOf->cL,keepIn->cN,kitOne->cX,emptyDict->c9,codeIn->dL,instObj->dM,kia_one->eL,mg_of->aOm,isFn->aOq,plainGet->aOw,plainGet_of->aOE,lookIn->aOI,callWith_K->aOJ,methodObj->aOR,hasDictIn->aOS,cellsFrom_some->aO1,takerIn->aO3,makesIn->aO4,methodCall_KW->aO9,kl_ins->aPc,plainOver->aPr,handedIn->aPz,OpenLaw->aPH
open Nat renaming le_refl->bG,lt_of_lt_of_le->bP,ne_of_lt->bV,le_trans->cB,lt_irrefl->cU,sub_self->dF,zero_le->dQ,lt_succ_self->d8,lt_of_le_of_lt->eB,le_add_right->aOg,zero_add->aOh,le_of_not_lt->aOx,pow_le_pow_right->aOA,lt_succ_of_lt->aOT,add_assoc->aOW,min_eq_right->aOZ,min_eq_left->aO5,mul_le_mul_right->aPg,le_of_lt->aPq,lt_trans->aPs,le_of_eq->aPR,add_zero->aPV,sub_zero->aPX,le_succ->aP3,log2_lt->aP5
open Int renaming toNat_of_nonneg->bN,le_refl->bZ,toNat_natCast->cF,mul_le_mul_of_nonneg_right->cZ,mul_nonneg->dA,mul_sub->dD,le_antisymm->dW,zero_mul->dY,le_trans->dZ,zero_add->eE,lt_of_le_of_lt->eI,lt_trans->eJ,add_mul->aOd,toNat->aOi,sub_zero->aOj,mul_zero->aOt,sub_mul->aOB,add_zero->aOG,fdiv_eq_ediv_of_nonneg->aOH,lt_of_lt_of_le->aOK,emod_lt_of_pos->aOL,mul_le_mul->aON,le_of_lt->aO2,emod_nonneg->aO6,min_le_left->aO8,natAbs_of_nonneg->aPd,one_mul->aPh,add_sub_cancel->aPp,le_of_eq->aPw,pow_succ->aPy,natCast_succ->aPD,mul_add->aPG,ofNat_lt->aPU,sub_self->aPY,mul_one->aP2,not_le->aP7
open Bool renaming false_ne_true->bY,false_eq_true->b9,and_true->cQ,and_self->cR,eq_iff_iff->eK,and_eq_true_iff->eS,and_eq_true->aOY,false_and->aPb
open Array renaming length_toList->b6,mk->aPa
open Classical renaming byContradiction->cS,choose_spec->dH,axiomOfChoice->aPQ,choose->aQa
open PyProof.Rows renaming callWith_type1->dE,callWith_builtin1->aPA,callWith_kw->aPM,iadd_int->aPZ,isub_int->aP0
open Function renaming comp->d4
open Iff renaming rfl->aOV
open Or renaming inr->aPL,inl->aPT
open Prod renaming ext->aP1,mk->aP8
set_option hygiene false in
local macro_rules|`(tactic|walk_at "a")=>`(tactic|(first | exact j3 (by lia) | lia | (simp only [aP, aU, aN, aQ, lim]; lia) | (first | (apply gJ <;> lia) | (apply gR <;> lia) | (apply fZ; assumption) | (apply gE; assumption)) | decide))
set_option hygiene false in
local macro_rules|`(tactic|walk_at "b")=>`(tactic|(simp only [st0, aM, bC, aN, aQ, Nat.reduceAdd, Nat.reduceSub, aT, aW, aV, aY]))
set_option hygiene false in
local macro_rules|`(tactic|walk_at "c")=>`(tactic|(simp only [fL, gB, f7, lI, f9, jU, gZ, cQ, cR]))
set_option Elab.async false
set_option linter.all false
set_option bootstrap.genMatcherCode false
set_option compiler.extract_closed false
namespace L2
open PySem
def jM(s:Stmt):Arguments:=match s with
 | .FunctionDef _ a _ _ _ _ _ _ _ _=>a
 |_=>{posonlyargs:=[],args:=[],vararg:=none,kwonlyargs:=[],kw_defaults:=[],kwarg:=none,defaults:=[]}
def iU(s:Stmt):List Stmt:=match s with
 | .FunctionDef _ _ b _ _ _ _ _ _ _=>b
 |_=>[]
def gC(s:Stmt):Scope:=match s with
 | .FunctionDef _ _ _ _ _ _ sc _ _ _=>sc
 |_=>{kind:=.function,names:=[],isGenerator:=false,isCoroutine:=false}
def inClass(s:Stmt)(j:Nat):Stmt:=match s with
 | .ClassDef _ _ _ body _ _ _ _ _ _ _=>body.getD j (.Pass ⟨0,0,0,0⟩)
 |_=>.Pass ⟨0,0,0,0⟩
end L2
namespace HT
open PySem PySem.W PyProof.Rows
abbrev so(x:String):Str:=Str.ofString x
abbrev de:=PySem.DictEntry.mk
abbrev ob:=PySem.Obj.mk
abbrev kh:=PySem.PyData.keyHash
abbrev vs(x:String)(n:Tok):Value:=.str (so x) n
abbrev vi(i:Int):Value:=.int i 0
abbrev vr(a:Addr):Value:=.ref a
abbrev vn:Value:=.none
abbrev vb:Value:=.bool true
abbrev vt(x:String):Value:=.type x
abbrev dx(P:Params)(x:String)(n:Tok)(v:Value):DictEntry:=.mk (kh P (so x)) (vs x n) v
abbrev oc(x q:String)(i j k:Tok)(l a b:Int)(r:Addr)(h:Int)(s t u v:Addr)(z m:Int)(n:Tok):Obj:=ob (vt "code") none (Data.fields #[vs x i,vs q j,vs "/claim/cut.py" k,vi l,vi a,vi 0,vi 0,vi b,vr r,vb,vi h,vr s,vn,vr t,vr u,vr v,vi z,vi m,vs "/claim/cut.py" n]) #[]
open L2 (jM iU gC inClass)
abbrev PR:Program:=PySem.Challenge.pw_hastebook_k91_whole_lots_beside
def top(i:Nat):Stmt:=PR.main.body.getD i (.Pass ⟨0,0,0,0⟩)
abbrev of(x q:String)(s:Stmt)(p:String)(n:Tok)(c:Addr):Obj:=ob (vt "function") none (Data.func (cL x q (jM s) (iU s) (gC s) vn vn vn (vs p n) none (vr c) vn)) #[]
noncomputable def KH:Params->aO:=fun P=>
 (nat_lit 2,ob vn none (Data.dict #[]) #[])::
 (nat_lit 3,ob (vt "dict") none (Data.dict #[dx P "__name__" 165 (vs "law_hastebook_k91_whole_lots_beside" 594),dx P "__doc__" 166 vn,dx P "__package__" 167 vn,dx P "__loader__" 168 (Value.builtin "__main__.__loader__#opaque"),dx P "__spec__" 169 vn,dx P "__annotations__" 170 (vr 6),dx P "__builtins__" 171 (vr 4),dx P "__file__" 173 (vs "/claim/cut.py" 172),dx P "__cached__" 174 vn,dx P "_wall" 193 (vr 21),dx P "BookError" 213 (vr 31),dx P "NoOrder" 229 (vr 44),dx P "order_of" 241 (vr 53),dx P "is_work" 249 (vr 60),dx P "needed_works" 255 (vr 65),dx P "least_ready" 261 (vr 70),dx P "earliest" 269 (vr 75),dx P "length" 277 (vr 82),dx P "done_moments" 283 (vr 87),dx P "SOURCE" 287 (Value.int 0 286),dx P "SINK" 289 (Value.int 1 288),dx P "Pipe" 325 (vr 104),dx P "Net" 422 (vr 174),dx P "begin_place" 429 (vr 185),dx P "done_place" 436 (vr 192),dx P "work_at" 443 (vr 199),dx P "raise_moments" 454 (vr 206),dx P "tight_route" 460 (vr 211),dx P "next_routes" 470 (vr 218),dx P "room_on" 476 (vr 223),dx P "pour" 485 (vr 230),dx P "flowing_route" 494 (vr 237),dx P "steps_from" 500 (vr 242),dx P "take_out" 506 (vr 247),dx P "works_on" 512 (vr 252),dx P "least_end" 522 (vr 259),dx P "free_end" 528 (vr 264),dx P "stream_at" 537 (vr 271),dx P "least_hours" 543 (vr 276),dx P "free_hours" 550 (vr 283),dx P "filled_net" 560 (vr 290),dx P "through" 568 (vr 295),dx P "worth" 574 (vr 300),dx P "work_worth" 582 (vr 307),dx P "price_at" 593 (vr 314),dx P "_law_whole" 602 (vr 321),dx P "_law_cell_at" 610 (vr 328),dx P "_law_mixed" 619 (vr 335),dx P "_law_names" 629 (vr 342),dx P "_law_numbers" 635 (vr 347),dx P "_law_work" 649 (vr 354),dx P "_law_lot_free" 667 (vr 361),dx P "_law_lot" 673 (vr 366),dx P "_law_length" 679 (vr 371),dx P "_law_ends" 685 (vr 376),dx P "_law_put" 691 (vr 381),dx P "_law_lots" 701 (vr 388),dx P "law" 707 (vr 393)] 58) #[])::
 (nat_lit 22,ob (vt "tuple") none (Data.seq #[vt "ValueError"]) #[])::
 (nat_lit 29,ob (vt "tuple") none (Data.seq #[]) #[])::
 (nat_lit 30,ob (vt "dict") none (Data.dict #[dx P "__module__" 203 (vs "hastebook.errors" 194),dx P "__firstlineno__" 207 (Value.int 5 206),dx P "__static_attributes__" 208 (vr 29),dx P "__weakref__" 210 (vr 32),dx P "__doc__" 211 vn] 3) #[])::
 (nat_lit 31,ob (vt "type") none (Data.cls (PySem.ClassData.mk (so "BookError") [vt "ValueError"] [vr 31,vt "ValueError",vt "Exception",vt "BaseException",vt "object"] 30 (so "BookError") true [] [vr 44] false none false)) #[some (vr 22),none,some (vs "BookError" 196),some (vs "BookError" 204),some (Value.builtin "ValueError.__new__"),some (vb)])::
 (nat_lit 32,ob (vt "getset_descriptor") none (Data.fields #[vs "__weakref__" 209,vr 31,Value.builtin "ExceptionGroup.__weakref__",vn]) #[])::
 (nat_lit 35,ob (vt "tuple") none (Data.seq #[vr 31]) #[])::
 (nat_lit 42,ob (vt "tuple") none (Data.seq #[]) #[])::
 (nat_lit 43,ob (vt "dict") none (Data.dict #[dx P "__module__" 221 (vs "hastebook.errors" 194),dx P "__firstlineno__" 225 (Value.int 7 224),dx P "__static_attributes__" 226 (vr 42),dx P "__doc__" 227 vn] 2) #[])::
 (nat_lit 44,ob (vt "type") none (Data.cls (PySem.ClassData.mk (so "NoOrder") [vr 31] [vr 44,vr 31,vt "ValueError",vt "Exception",vt "BaseException",vt "object"] 43 (so "NoOrder") true [] [] false none false)) #[some (vr 35),none,some (vs "NoOrder" 214),some (vs "NoOrder" 222),some (Value.builtin "ValueError.__new__"),some (vb)])::
 (nat_lit 52,oc "order_of" "order_of" 232 233 234 10 2 3 47 181 48 49 50 51 239 10 240)::
 (nat_lit 53,of "order_of" "order_of" (top 5) "hastebook.needs" 230 52)::
 (nat_lit 59,oc "is_work" "is_work" 242 243 244 16 2 3 54 181 55 56 57 58 247 16 248)::
 (nat_lit 60,of "is_work" "is_work" (top 6) "hastebook.needs" 230 59)::
 (nat_lit 64,ob (vt "code") none (Data.fields #[vs "needed_works" 250,vs "needed_works" 251,vs "/claim/cut.py" 252,vi 18,vi 2,vi 0,vi 0,vi 3,vr 61,vb,vi 181,vr 62,vn,vn,vn,vr 63,vi 253,vi 18,vs "/claim/cut.py" 254]) #[])::
 (nat_lit 65,of "needed_works" "needed_works" (top 7) "hastebook.needs" 230 64)::
 (nat_lit 69,ob (vt "code") none (Data.fields #[vs "least_ready" 256,vs "least_ready" 257,vs "/claim/cut.py" 258,vi 26,vi 2,vi 0,vi 0,vi 3,vr 66,vb,vi 181,vr 67,vn,vn,vn,vr 68,vi 259,vi 26,vs "/claim/cut.py" 260]) #[])::
 (nat_lit 70,of "least_ready" "least_ready" (top 8) "hastebook.needs" 230 69)::
 (nat_lit 74,ob (vt "code") none (Data.fields #[vs "earliest" 264,vs "earliest" 265,vs "/claim/cut.py" 266,vi 32,vi 2,vi 0,vi 0,vi 3,vr 71,vb,vi 181,vr 72,vn,vn,vn,vr 73,vi 267,vi 32,vs "/claim/cut.py" 268]) #[])::
 (nat_lit 75,of "earliest" "earliest" (top 10) "hastebook.moments" 262 74)::
 (nat_lit 81,oc "length" "length" 270 271 272 39 2 3 76 181 77 78 79 80 275 39 276)::
 (nat_lit 82,of "length" "length" (top 11) "hastebook.moments" 262 81)::
 (nat_lit 86,ob (vt "code") none (Data.fields #[vs "done_moments" 278,vs "done_moments" 279,vs "/claim/cut.py" 280,vi 41,vi 2,vi 0,vi 0,vi 3,vr 83,vb,vi 181,vr 84,vn,vn,vn,vr 85,vi 281,vi 41,vs "/claim/cut.py" 282]) #[])::
 (nat_lit 87,of "done_moments" "done_moments" (top 12) "hastebook.moments" 262 86)::
 (nat_lit 100,oc "__init__" "Pipe.__init__" 302 303 304 48 5 3 95 181 96 97 98 99 310 48 311)::
 (nat_lit 101,of "__init__" "Pipe.__init__" (inClass (top 16) 0) "hastebook.nets" 284 100)::
 (nat_lit 102,ob (vt "tuple") none (Data.seq #[vs "back" 313,vs "head" 314,vs "hours" 315,vs "room" 316,vs "tail" 317]) #[])::
 (nat_lit 103,ob (vt "dict") none (Data.dict #[dx P "__module__" 297 (vs "hastebook.nets" 284),dx P "__firstlineno__" 301 (Value.int 46 300),dx P "__init__" 312 (vr 101),dx P "__static_attributes__" 318 (vr 102),dx P "__dict__" 320 (vr 105),dx P "__weakref__" 322 (vr 106),dx P "__doc__" 323 vn] 4) #[])::
 (nat_lit 104,ob (vt "type") none (Data.cls (PySem.ClassData.mk (so "Pipe") [vt "object"] [vr 104,vt "object"] 103 (so "Pipe") true [] [] false none false)) #[none,none,some (vs "Pipe" 290),some (vs "Pipe" 298),some (Value.builtin "object.__new__"),some (vb)])::
 (nat_lit 105,ob (vt "getset_descriptor") none (Data.fields #[vs "__dict__" 319,vr 104,Value.builtin "function.__dict__",Value.builtin "function.__dict__#set"]) #[])::
 (nat_lit 106,ob (vt "getset_descriptor") none (Data.fields #[vs "__weakref__" 321,vr 104,Value.builtin "ExceptionGroup.__weakref__",vn]) #[])::
 (nat_lit 116,ob (vt "tuple") none (Data.seq #[Value.int 0 338]) #[])::
 (nat_lit 120,ob (vt "code") none (Data.fields #[vs "__init__" 339,vs "Net.__init__" 340,vs "/claim/cut.py" 341,vi 56,vi 4,vi 0,vi 0,vi 3,vr 117,vb,vi 181,vr 118,vn,vn,vn,vr 119,vi 342,vi 56,vs "/claim/cut.py" 343]) #[])::
 (nat_lit 121,ob (vt "function") (none) (Data.func (cL "__init__" "Net.__init__" (jM (inClass (top 17) 0)) (iU (inClass (top 17) 0)) (gC (inClass (top 17) 0)) (vr 116) (vn) (vn) (vs "hastebook.nets" 284) (none) (vr 120) (vn))) (#[]))::
 (nat_lit 127,oc "lay" "Net.lay" 345 346 347 69 5 3 122 181 123 124 125 126 355 69 356)::
 (nat_lit 128,of "lay" "Net.lay" (inClass (top 17) 1) "hastebook.nets" 284 127)::
 (nat_lit 134,oc "fill" "Net.fill" 358 359 360 76 2 3 129 181 130 131 132 133 365 76 366)::
 (nat_lit 135,of "fill" "Net.fill" (inClass (top 17) 2) "hastebook.nets" 284 134)::
 (nat_lit 146,ob (vt "code") none (Data.fields #[vs "moments" 376,vs "Net.moments" 377,vs "/claim/cut.py" 378,vi 86,vi 2,vi 0,vi 0,vi 3,vr 143,vb,vi 181,vr 144,vn,vn,vn,vr 145,vi 379,vi 86,vs "/claim/cut.py" 380]) #[])::
 (nat_lit 147,of "moments" "Net.moments" (inClass (top 17) 4) "hastebook.nets" 284 146)::
 (nat_lit 158,ob (vt "code") none (Data.fields #[vs "open_pipes" 389,vs "Net.open_pipes" 390,vs "/claim/cut.py" 391,vi 97,vi 1,vi 0,vi 0,vi 3,vr 155,vb,vi 181,vr 156,vn,vn,vn,vr 157,vi 392,vi 97,vs "/claim/cut.py" 393]) #[])::
 (nat_lit 159,of "open_pipes" "Net.open_pipes" (inClass (top 17) 6) "hastebook.nets" 284 158)::
 (nat_lit 170,oc "stream" "Net.stream" 401 402 403 104 1 3 165 181 166 167 168 169 410 104 411)::
 (nat_lit 171,of "stream" "Net.stream" (inClass (top 17) 8) "hastebook.nets" 284 170)::
 (nat_lit 172,ob (vt "tuple") none (Data.seq #[vs "pipes" 413,vs "places" 414]) #[])::
 (nat_lit 173,ob (vt "dict") none (Data.dict #[dx P "__module__" 333 (vs "hastebook.nets" 284),dx P "__firstlineno__" 337 (Value.int 54 336),dx P "__init__" 344 (vr 121),dx P "lay" 357 (vr 128),dx P "fill" 367 (vr 135),dx P "lead" 375 (vr 142),dx P "moments" 381 (vr 147),dx P "open_length" 388 (vr 154),dx P "open_pipes" 394 (vr 159),dx P "amount" 400 (vr 164),dx P "stream" 412 (vr 171),dx P "__static_attributes__" 415 (vr 172),dx P "__dict__" 417 (vr 175),dx P "__weakref__" 419 (vr 176),dx P "__doc__" 420 vn] 4) #[])::
 (nat_lit 174,ob (vt "type") none (Data.cls (PySem.ClassData.mk (so "Net") [vt "object"] [vr 174,vt "object"] 173 (so "Net") true [] [] false none false)) #[none,none,some (vs "Net" 326),some (vs "Net" 334),some (Value.builtin "object.__new__"),some (vb)])::
 (nat_lit 175,ob (vt "getset_descriptor") none (Data.fields #[vs "__dict__" 416,vr 174,Value.builtin "function.__dict__",Value.builtin "function.__dict__#set"]) #[])::
 (nat_lit 176,ob (vt "getset_descriptor") none (Data.fields #[vs "__weakref__" 418,vr 174,Value.builtin "ExceptionGroup.__weakref__",vn]) #[])::
 (nat_lit 184,oc "begin_place" "begin_place" 423 424 425 115 1 3 179 181 180 181 182 183 427 115 428)::
 (nat_lit 185,of "begin_place" "begin_place" (top 18) "hastebook.nets" 284 184)::
 (nat_lit 191,oc "done_place" "done_place" 430 431 432 117 1 3 186 181 187 188 189 190 434 117 435)::
 (nat_lit 192,of "done_place" "done_place" (top 19) "hastebook.nets" 284 191)::
 (nat_lit 198,oc "work_at" "work_at" 437 438 439 119 1 3 193 181 194 195 196 197 441 119 442)::
 (nat_lit 199,of "work_at" "work_at" (top 20) "hastebook.nets" 284 198)::
 (nat_lit 205,oc "raise_moments" "raise_moments" 444 445 446 121 2 3 200 181 201 202 203 204 452 121 453)::
 (nat_lit 206,of "raise_moments" "raise_moments" (top 21) "hastebook.nets" 284 205)::
 (nat_lit 210,ob (vt "code") none (Data.fields #[vs "tight_route" 455,vs "tight_route" 456,vs "/claim/cut.py" 457,vi 129,vi 2,vi 0,vi 0,vi 3,vr 207,vb,vi 181,vr 208,vn,vn,vn,vr 209,vi 458,vi 129,vs "/claim/cut.py" 459]) #[])::
 (nat_lit 211,of "tight_route" "tight_route" (top 22) "hastebook.nets" 284 210)::
 (nat_lit 217,oc "next_routes" "next_routes" 461 462 463 135 2 3 212 181 213 214 215 216 468 135 469)::
 (nat_lit 218,of "next_routes" "next_routes" (top 23) "hastebook.nets" 284 217)::
 (nat_lit 222,ob (vt "code") none (Data.fields #[vs "room_on" 471,vs "room_on" 472,vs "/claim/cut.py" 473,vi 141,vi 1,vi 0,vi 0,vi 3,vr 219,vb,vi 181,vr 220,vn,vn,vn,vr 221,vi 474,vi 141,vs "/claim/cut.py" 475]) #[])::
 (nat_lit 223,of "room_on" "room_on" (top 24) "hastebook.nets" 284 222)::
 (nat_lit 229,oc "pour" "pour" 477 478 479 143 2 3 224 181 225 226 227 228 483 143 484)::
 (nat_lit 230,of "pour" "pour" (top 25) "hastebook.nets" 284 229)::
 (nat_lit 236,oc "flowing_route" "flowing_route" 486 487 488 147 1 3 231 181 232 233 234 235 492 147 493)::
 (nat_lit 237,of "flowing_route" "flowing_route" (top 26) "hastebook.nets" 284 236)::
 (nat_lit 241,ob (vt "code") none (Data.fields #[vs "steps_from" 495,vs "steps_from" 496,vs "/claim/cut.py" 497,vi 154,vi 2,vi 0,vi 0,vi 3,vr 238,vb,vi 181,vr 239,vn,vn,vn,vr 240,vi 498,vi 154,vs "/claim/cut.py" 499]) #[])::
 (nat_lit 242,of "steps_from" "steps_from" (top 27) "hastebook.nets" 284 241)::
 (nat_lit 246,ob (vt "code") none (Data.fields #[vs "take_out" 501,vs "take_out" 502,vs "/claim/cut.py" 503,vi 156,vi 2,vi 0,vi 0,vi 3,vr 243,vb,vi 181,vr 244,vn,vn,vn,vr 245,vi 504,vi 156,vs "/claim/cut.py" 505]) #[])::
 (nat_lit 247,of "take_out" "take_out" (top 28) "hastebook.nets" 284 246)::
 (nat_lit 251,ob (vt "code") none (Data.fields #[vs "works_on" 507,vs "works_on" 508,vs "/claim/cut.py" 509,vi 161,vi 1,vi 0,vi 0,vi 3,vr 248,vb,vi 181,vr 249,vn,vn,vn,vr 250,vi 510,vi 161,vs "/claim/cut.py" 511]) #[])::
 (nat_lit 252,of "works_on" "works_on" (top 29) "hastebook.nets" 284 251)::
 (nat_lit 258,oc "least_end" "least_end" 515 516 517 164 2 3 253 181 254 255 256 257 520 164 521)::
 (nat_lit 259,of "least_end" "least_end" (top 31) "hastebook.haste" 513 258)::
 (nat_lit 263,ob (vt "code") none (Data.fields #[vs "free_end" 523,vs "free_end" 524,vs "/claim/cut.py" 525,vi 166,vi 2,vi 0,vi 0,vi 3,vr 260,vb,vi 181,vr 261,vn,vn,vn,vr 262,vi 526,vi 166,vs "/claim/cut.py" 527]) #[])::
 (nat_lit 264,of "free_end" "free_end" (top 32) "hastebook.haste" 513 263)::
 (nat_lit 270,oc "stream_at" "stream_at" 529 530 531 168 3 3 265 181 266 267 268 269 535 168 536)::
 (nat_lit 271,of "stream_at" "stream_at" (top 33) "hastebook.haste" 513 270)::
 (nat_lit 275,ob (vt "code") none (Data.fields #[vs "least_hours" 538,vs "least_hours" 539,vs "/claim/cut.py" 540,vi 172,vi 1,vi 0,vi 0,vi 3,vr 272,vb,vi 181,vr 273,vn,vn,vn,vr 274,vi 541,vi 172,vs "/claim/cut.py" 542]) #[])::
 (nat_lit 276,of "least_hours" "least_hours" (top 34) "hastebook.haste" 513 275)::
 (nat_lit 282,oc "free_hours" "free_hours" 544 545 546 174 1 3 277 181 278 279 280 281 548 174 549)::
 (nat_lit 283,of "free_hours" "free_hours" (top 35) "hastebook.haste" 513 282)::
 (nat_lit 289,oc "filled_net" "filled_net" 551 552 553 176 3 3 284 181 285 286 287 288 558 176 559)::
 (nat_lit 290,of "filled_net" "filled_net" (top 36) "hastebook.haste" 513 289)::
 (nat_lit 294,ob (vt "code") none (Data.fields #[vs "through" 563,vs "through" 564,vs "/claim/cut.py" 565,vi 181,vi 2,vi 0,vi 0,vi 3,vr 291,vb,vi 181,vr 292,vn,vn,vn,vr 293,vi 566,vi 181,vs "/claim/cut.py" 567]) #[])::
 (nat_lit 295,of "through" "through" (top 38) "hastebook.streams" 561 294)::
 (nat_lit 299,ob (vt "code") none (Data.fields #[vs "worth" 569,vs "worth" 570,vs "/claim/cut.py" 571,vi 187,vi 3,vi 0,vi 0,vi 3,vr 296,vb,vi 181,vr 297,vn,vn,vn,vr 298,vi 572,vi 187,vs "/claim/cut.py" 573]) #[])::
 (nat_lit 300,of "worth" "worth" (top 39) "hastebook.streams" 561 299)::
 (nat_lit 306,oc "work_worth" "work_worth" 575 576 577 191 2 3 301 181 302 303 304 305 580 191 581)::
 (nat_lit 307,of "work_worth" "work_worth" (top 40) "hastebook.streams" 561 306)::
 (nat_lit 313,oc "price_at" "price_at" 585 586 587 196 3 3 308 181 309 310 311 312 591 196 592)::
 (nat_lit 314,of "price_at" "price_at" (top 42) "hastebook.curves" 583 313)::
 (nat_lit 320,oc "_law_whole" "_law_whole" 596 597 598 201 1 3 315 181 316 317 318 319 600 201 601)::
 (nat_lit 321,of "_law_whole" "_law_whole" (top 44) "law_hastebook_k91_whole_lots_beside" 594 320)::
 (nat_lit 327,oc "_law_cell_at" "_law_cell_at" 603 604 605 203 2 3 322 181 323 324 325 326 608 203 609)::
 (nat_lit 328,of "_law_cell_at" "_law_cell_at" (top 45) "law_hastebook_k91_whole_lots_beside" 594 327)::
 (nat_lit 334,oc "_law_mixed" "_law_mixed" 611 612 613 207 2 3 329 181 330 331 332 333 617 207 618)::
 (nat_lit 335,of "_law_mixed" "_law_mixed" (top 46) "law_hastebook_k91_whole_lots_beside" 594 334)::
 (nat_lit 341,oc "_law_names" "_law_names" 620 621 622 211 2 3 336 181 337 338 339 340 627 211 628)::
 (nat_lit 342,of "_law_names" "_law_names" (top 47) "law_hastebook_k91_whole_lots_beside" 594 341)::
 (nat_lit 346,ob (vt "code") none (Data.fields #[vs "_law_numbers" 630,vs "_law_numbers" 631,vs "/claim/cut.py" 632,vi 216,vi 1,vi 0,vi 0,vi 3,vr 343,vb,vi 181,vr 344,vn,vn,vn,vr 345,vi 633,vi 216,vs "/claim/cut.py" 634]) #[])::
 (nat_lit 347,of "_law_numbers" "_law_numbers" (top 48) "law_hastebook_k91_whole_lots_beside" 594 346)::
 (nat_lit 353,oc "_law_work" "_law_work" 636 637 638 222 5 3 348 181 349 350 351 352 647 222 648)::
 (nat_lit 354,of "_law_work" "_law_work" (top 49) "law_hastebook_k91_whole_lots_beside" 594 353)::
 (nat_lit 360,oc "_law_lot_free" "_law_lot_free" 650 651 652 236 3 3 355 181 356 357 358 359 665 236 666)::
 (nat_lit 361,of "_law_lot_free" "_law_lot_free" (top 50) "law_hastebook_k91_whole_lots_beside" 594 360)::
 (nat_lit 365,ob (vt "code") none (Data.fields #[vs "_law_lot" 668,vs "_law_lot" 669,vs "/claim/cut.py" 670,vi 258,vi 3,vi 0,vi 0,vi 3,vr 362,vb,vi 181,vr 363,vn,vn,vn,vr 364,vi 671,vi 258,vs "/claim/cut.py" 672]) #[])::
 (nat_lit 366,of "_law_lot" "_law_lot" (top 51) "law_hastebook_k91_whole_lots_beside" 594 365)::
 (nat_lit 370,ob (vt "code") none (Data.fields #[vs "_law_length" 674,vs "_law_length" 675,vs "/claim/cut.py" 676,vi 276,vi 2,vi 0,vi 0,vi 3,vr 367,vb,vi 181,vr 368,vn,vn,vn,vr 369,vi 677,vi 276,vs "/claim/cut.py" 678]) #[])::
 (nat_lit 371,of "_law_length" "_law_length" (top 52) "law_hastebook_k91_whole_lots_beside" 594 370)::
 (nat_lit 375,ob (vt "code") none (Data.fields #[vs "_law_ends" 680,vs "_law_ends" 681,vs "/claim/cut.py" 682,vi 282,vi 2,vi 0,vi 0,vi 3,vr 372,vb,vi 181,vr 373,vn,vn,vn,vr 374,vi 683,vi 282,vs "/claim/cut.py" 684]) #[])::
 (nat_lit 376,of "_law_ends" "_law_ends" (top 53) "law_hastebook_k91_whole_lots_beside" 594 375)::
 (nat_lit 380,ob (vt "code") none (Data.fields #[vs "_law_put" 686,vs "_law_put" 687,vs "/claim/cut.py" 688,vi 285,vi 4,vi 0,vi 0,vi 3,vr 377,vb,vi 181,vr 378,vn,vn,vn,vr 379,vi 689,vi 285,vs "/claim/cut.py" 690]) #[])::
 (nat_lit 381,of "_law_put" "_law_put" (top 54) "law_hastebook_k91_whole_lots_beside" 594 380)::
 (nat_lit 387,oc "_law_lots" "_law_lots" 692 693 694 299 1 3 382 181 383 384 385 386 699 299 700)::
 (nat_lit 388,of "_law_lots" "_law_lots" (top 55) "law_hastebook_k91_whole_lots_beside" 594 387)::
 (nat_lit 392,ob (vt "code") none (Data.fields #[vs "law" 702,vs "law" 703,vs "/claim/cut.py" 704,vi 305,vi 1,vi 0,vi 0,vi 3,vr 389,vb,vi 181,vr 390,vn,vn,vn,vr 391,vi 705,vi 305,vs "/claim/cut.py" 706]) #[])::
 (nat_lit 393,of "law" "law" (top 56) "law_hastebook_k91_whole_lots_beside" 594 392)::[]
def KA:List Addr:=[2,3,22,29,30,31,32,35,42,43,44,52,53,59,60,64,65,69,70,74,75,81,82,86,87,100,101,102,103,104,105,106,116,120,121,127,128,134,135,146,147,158,159,170,171,172,173,174,175,176,184,185,191,192,198,199,205,206,210,211,217,218,222,223,229,230,236,237,241,242,246,247,251,252,258,259,263,264,270,271,275,276,282,283,289,290,294,295,299,300,306,307,313,314,320,321,327,328,334,335,341,342,346,347,353,354,360,361,365,366,370,371,375,376,380,381,387,388,392,393]
noncomputable def insAll:Nat->List Obj->BT->BT
 |_,[],t=>t
 |i,o::os,t=>insAll (i+1) os (t.ins i o)
noncomputable def jA(p:Program)(w:World)(m:Nat)(an:Option Value):Nat->SharedT->Thread->Option SharedT
 |0,_,_=>none
 |n+1,s,t=>match through t with
  |true=>some s
  |false=>match stepOk m an t with
   |false=>none
   |true=>match stepT (denote treeTable) p w s t with
    |some r=>jA p w m an n r.1 r.2
    |none=>none
theorem aGq{p:Program}{w:World}{m:Nat}{an:Option Value}:∀{n:Nat}{s s':SharedT}{t:Thread},jA p w m an n s t=some s'->topRun treeTable p w m an n s.abs t=some s'.abs
 |0,_,_,_,h=>by cases h
 |n+1,s,s',t,h=>by
  unfold jA at h;unfold topRun;cases h1:through t with
  |true=>rw[h1]at h;cases h;rfl
  |false=>
   rw[h1]at h;cases h2:stepOk m an t with
   |false=>rw[h2]at h;cases h
   |true=>
    rw[h2]at h;cases h3:stepT (denote treeTable) p w s t with
    |none=>rw[h3]at h;cases h
    |some r=>
     rw[h3]at h;rw[show step (denote treeTable) p w s.abs t=.go r.1.abs r.2 from stepT_spec h3]
     exact aGq h
theorem leftOf{p q:Program}{Xt:Shared->Bool}{α:Type}{Yf:Shared->α}{Ya:World->α}{N:Nat}{s0:World->OsState->SharedT}{ran:World->OsState->Option SharedT}{fin:World->OsState->Shared}
 (hf:∀w os,fin w os=((ran w os).getD (s0 w os)).abs)
 (hr:∀w os,ran w os=jA p w (boot_heap w.params).objs.size ((boot_heap w.params).nsMap mainGlobals "__annotations__") N (s0 w os) (topStub p))
 (c0:(fun(w:World) (os:OsState)=>(s0 w os).abs)=fun w os=>⟨boot_heap w.params,aPa [],boot_drawn,boot_toks,os⟩)
 (c1:(fun w:World=>(boot_heap w.params).isNs mainGlobals)=fun _=>true)
 (c2:(fun(w:World) (os:OsState)=>(ran w os).isSome)=fun _ _=>true)
 (c3:(fun(w:World) (os:OsState)=>(staticsOk (importedModules p.main.body) (boot_heap w.params) (fin w os).heap&&namesBound p (fin w os).heap&&gensDone (fin w os))&&laidKept (boot_heap w.params) (fin w os).heap)=fun _ _=>true)
 (c4:(fun(w:World) (os:OsState)=>openSeen q [] (importedModules p.main.body) Xt true (fin w os))=fun _ _=>openGood q [])
 (c5:(fun(w:World) (os:OsState)=>Yf (fin w os))=fun w _=>Ya w)
 (c6:opening p=plainProg p.main.scope.names)(hN:Nat.ble 600 N=true)(hm:∀s,fenceModules? p s=some s):LeftO p q [] Xt Yf Ya N:=fun w=>by
 obtain⟨⟨h,gs,d,k,os⟩,e,e'⟩:=aL.mp (boot_open (p:=p) (N:=N) c6 hN hm w);obtain⟨rfl,rfl,rfl,rfl⟩:h=boot_heap w.params/\gs=aPa []/\d=boot_drawn/\k=boot_toks:=by simpa using e'
 have r:topRun treeTable p w (boot_heap w.params).objs.size ((boot_heap w.params).nsMap mainGlobals "__annotations__") N ⟨boot_heap w.params,aPa [],boot_drawn,boot_toks,os⟩ (topStub p)=some (fin w os):=by
  have q0:(s0 w os).abs=⟨boot_heap w.params,aPa [],boot_drawn,boot_toks,os⟩:=congrFun (congrFun c0 w) os;have q2:(ran w os).isSome=true:=congrFun (congrFun c2 w) os;rw[<-q0];obtain⟨x,hx⟩:=cT.mp q2;have:fin w os=x.abs:=by rw[hf,hx];rfl
  rw[this];rw[hr]at hx
  exact aGq hx
 have t:topFrom treeTable p w N ⟨boot_heap w.params,aPa [],boot_drawn,boot_toks,os⟩=some (fin w os):=by
  unfold topFrom;dsimp only;rw[show(boot_heap w.params).isNs mainGlobals=true from congrFun c1 w,r];have q3:((staticsOk (importedModules p.main.body) (boot_heap w.params) (fin w os).heap&&namesBound p (fin w os).heap&&gensDone (fin w os))&&laidKept (boot_heap w.params) (fin w os).heap)=true:=congrFun (congrFun c3 w) os;show(match((staticsOk (importedModules p.main.body) (boot_heap w.params) (fin w os).heap&&namesBound p (fin w os).heap&&gensDone (fin w os))&&laidKept (boot_heap w.params) (fin w os).heap)with|true=>some (fin w os)|false=>none)=_;rw[q3]
 unfold openEnds;rw[e];show(topFrom treeTable p w N _).map _=_;rw[t]
 exact congrArg some (aP1 (congrFun (congrFun c4 w) os) (congrFun (congrFun c5 w) os))
noncomputable def s0(w:World)(os:OsState):SharedT:=⟨insAll 0 (boot_heap w.params).objs.toList .nil,(boot_heap w.params).objs.size,(boot_heap w.params).life,#[],boot_drawn,boot_toks,os⟩
noncomputable def ran(w:World)(os:OsState):Option SharedT:=jA PR w (boot_heap w.params).objs.size ((boot_heap w.params).nsMap mainGlobals "__annotations__") 4080 (s0 w os) (topStub PR)
noncomputable def fin(w:World)(os:OsState):Shared:=((ran w os).getD (s0 w os)).abs
def vw:Program:=view PR [0,2,3,5,6,7,8,10,11,12,14,15,16,17,18,19,20,21,22,23,24,25,26,27,28,29,31,32,33,34,35,36,38,39,40,42,44,45,46,47,48,49,50,51,52,53,54,55,56]
noncomputable def xt(s:Shared):Bool:=xlAt vw [] s&&recOk (RowW.records (OpenRow.toRowW (OpenLaw.row PySem.Challenge.rw_hastebook_k91_whole_lots_beside))) s
set_option maxHeartbeats 0 in
theorem c0:(fun(w:World) (os:OsState)=>(s0 w os).abs)=fun w os=>⟨boot_heap w.params,aPa [],boot_drawn,boot_toks,os⟩:=by kernel_rfl
theorem c1:(fun w:World=>(boot_heap w.params).isNs mainGlobals)=fun _=>true:=by kernel_rfl
set_option maxHeartbeats 0 in
theorem c2:(fun(w:World) (os:OsState)=>(ran w os).isSome)=fun _ _=>true:=by kernel_rfl
set_option maxHeartbeats 0 in
theorem c3:(fun(w:World) (os:OsState)=>(staticsOk (importedModules PR.main.body) (boot_heap w.params) (fin w os).heap&&namesBound PR (fin w os).heap&&gensDone (fin w os))&&laidKept (boot_heap w.params) (fin w os).heap)=fun _ _=>true:=by kernel_rfl
set_option maxHeartbeats 0 in
theorem c4:(fun(w:World) (os:OsState)=>openSeen vw [] (importedModules PR.main.body) xt true (fin w os))=fun _ _=>openGood vw []:=by kernel_rfl
set_option maxHeartbeats 0 in
theorem c5:(fun(w:World) (os:OsState)=>KA.map (fin w os).heap.get?)=fun w _=>(KH w.params).map fun p=>some p.2:=by kernel_rfl
theorem c6:opening PR=plainProg PR.main.scope.names:=by kernel_rfl
theorem left:LeftO PR vw [] xt (fun s=>KA.map s.heap.get?) (fun w=>(KH w.params).map fun p=>some p.2) 4080:=
 leftOf (s0:=s0) (ran:=ran) (fin:=fin) (fun _ _=>rfl) (fun _ _=>rfl) c0 c1 c2 c3 c4 c5 c6 rfl (fun _=>rfl)
theorem ka(P:Params):KA=(KH P).map (·.1):=by kernel_rfl
theorem xs:∀s,xt s=true->XL vw [] (s.heap.nsMap mainGlobals) s.heap:=fun s e=>xl_of s (eS.mp e).1
theorem rs:∀s,xt s=true->RecFacts (RowW.records (OpenRow.toRowW (OpenLaw.row PySem.Challenge.rw_hastebook_k91_whole_lots_beside))) s.heap:=fun s e=>recFacts_of (eS.mp e).2
end HT
noncomputable section
set_option maxRecDepth 100000
namespace L2
open PySem PySem.Spec PyProof.Rows
variable{H:Hp}{a b:Addr}{o:HO}
noncomputable abbrev Key:=Sum Int Str
noncomputable def yN:Key->Value->Bool
 | .inl k,v=>Value.isInt k v
 | .inr x,v=>Value.isStrOf x v
noncomputable def keyH(w:World):Key->Int
 | .inl k=>hashInt k
 | .inr x=>hashStr w x
theorem jD:∀{k:Key}{v:Value},yN k v=true->(∃i t,k=Sum.inl i/\v=Value.int i t)\/(∃x t,k=Sum.inr x/\v=Value.str x t)
 | .inl i,v,h=>by
   obtain⟨t,e⟩:=Value.isInt_shape (k:=i) (v:=v) h
   exact .inl ⟨i,t,rfl,e⟩
 | .inr x,v,h=>by
   obtain⟨t,e⟩:=Value.isStrOf_shape (x:=x) (v:=v) h
   exact .inr ⟨x,t,rfl,e⟩
theorem aFo(i:Int)(t:Tok):yN (.inl i) (.int i t)=true:=by simp[yN,Value.isInt]
theorem aE5(x:Str)(t:Tok):yN (.inr x) (.str x t)=true:=by simp[yN,Value.isStrOf]
theorem aK8(a b:Int):decide ((Sum.inl a:Key)=Sum.inl b)=(a==b):=by
 by_cases e:a=b
 ·subst e;simp
 ·have h:¬(Sum.inl a:Key)=Sum.inl b:=fun q=>e (Sum.inl.inj q)
  rw[decide_eq_false h]
  exact(beq_eq_false_iff_ne.mpr e).symm
theorem aLw(a b:Str):decide ((Sum.inr a:Key)=Sum.inr b)=decide (a=b):=by
 by_cases e:a=b
 ·subst e;simp
 ·have h:¬(Sum.inr a:Key)=Sum.inr b:=fun q=>e (Sum.inr.inj q)
  rw[decide_eq_false h,decide_eq_false e]
theorem aMU(a:Int)(b:Str):decide ((Sum.inl a:Key)=Sum.inr b)=false:=decide_eq_false (fun q=>nomatch q)
theorem aMc(a:Str)(b:Int):decide ((Sum.inr a:Key)=Sum.inl b)=false:=decide_eq_false (fun q=>nomatch q)
def iN(prog:Program)(w:World):PySem.KeyKind prog w Key where
 is:=yN
 hash:=keyH w
 inj:=fun v a b ha hb=>by
  rcases jD ha with⟨i,t,rfl,rfl⟩| ⟨x,t,rfl,rfl⟩
  ·rcases jD hb with⟨j,u,rfl,e⟩| ⟨y,u,rfl,e⟩
   ·injection e with e1 _;rw[e1]
   ·exact nomatch e
  ·rcases jD hb with⟨j,u,rfl,e⟩| ⟨y,u,rfl,e⟩
   ·exact nomatch e
   ·injection e with e1 _;rw[e1]
 byValue:=fun k v h=>by
  rcases jD h with⟨i,t,rfl,rfl⟩| ⟨x,t,rfl,rfl⟩<;>rfl
 pyHash:=fun hv h=>by
  rcases jD hv with⟨i,t,rfl,rfl⟩| ⟨x,t,rfl,rfl⟩
  ·exact wpAny_pyHash_int h
  ·exact wpAny_pyHash_str h
 eqBool:=fun hu hv h=>by
  rcases jD hu with⟨i,t,rfl,rfl⟩| ⟨x,t,rfl,rfl⟩
  ·rcases jD hv with⟨j,u,rfl,rfl⟩| ⟨y,u,rfl,rfl⟩
   ·rw[aK8]at h;exact wpAny_eqBool_int h
   ·rw[aMU]at h;exact SeqAt.EqAt.int_str i t y u _ _ _ _ h
  ·rcases jD hv with⟨j,u,rfl,rfl⟩| ⟨y,u,rfl,rfl⟩
   ·rw[aMc]at h;exact SeqAt.EqAt.str_int x t j u _ _ _ _ h
   ·rw[aLw]at h;exact wpAny_eqBool_str h
 «strs»:=fun k x t v h=>by
  rcases jD h with⟨i,u,rfl,e⟩| ⟨y,u,rfl,e⟩
  ·exact nomatch e
  ·injection e with e1 _
   subst e1;cases v<;>rfl
theorem aCj(prog:Program)(w:World)(i:Int)(t:Tok):(iN prog w).is (.inl i) (.int i t)=true:=aFo i t
theorem aBc(prog:Program)(w:World)(x:Str)(t:Tok):(iN prog w).is (.inr x) (.str x t)=true:=aE5 x t
inductive V where
 |non|bl (b:Bool)|int (i:Int)|str (x:Str)|byt (b:Array UInt8)|flt (b:UInt64)|ref (a:Addr)|ty (n:String)
 deriving DecidableEq
def RelV:V->Value->Prop
 | .non,u=>u=Value.none
 | .bl b,u=>u=Value.bool b
 | .int i,u=>∃t,u=Value.int i t
 | .str x,u=>∃t,u=Value.str x t
 | .byt b,u=>∃t,u=Value.bytes b t
 | .flt b,u=>∃t,u=Value.float b t
 | .ref a,u=>u=Value.ref a
 | .ty n,u=>u=Value.type n
abbrev Vals:List V->List Value->Prop:=Paired RelV
theorem Vals.length{xs:List V}{us:List Value}(r:Vals xs us):xs.length=us.length:=Paired.length r
theorem Vals.get:∀{xs:List V}{us:List Value}{i:Nat}{x:V},Vals xs us->xs[i]?=some x->∃u,us[i]?=some u/\RelV x u
 |_,_,_,_,.nil,e=>by simp at e
 |_,_,0,_,.cons r _,e=>by simp at e;subst e;exact⟨_,rfl,r⟩
 |_,_,i+1,x,.cons _ t,e=>by
  obtain⟨u,h1,h2⟩:=Vals.get (i:=i) (x:=x) t (by simpa using e)
  exact⟨u,by simpa using h1,h2⟩
theorem Vals.set{x:V}{u:Value}(r:RelV x u):∀{xs:List V}{us:List Value}(i:Nat),Vals xs us->Vals (xs.set i x) (us.set i u)
 |_,_,_,.nil=>.nil
 |_,_,0,.cons _ t=>.cons r t
 |_,_,i+1,.cons q t=>.cons q (Vals.set r i t)
theorem Vals.append:∀{xs ys:List V}{us ws:List Value},Vals xs us->Vals ys ws->Vals (xs++ys) (us++ws)
 |_,_,_,_,.nil,s=>s
 |_,_,_,_,.cons r t,s=>.cons r (Vals.append t s)
theorem Vals.take:∀{xs:List V}{us:List Value}(n:Nat),Vals xs us->Vals (xs.take n) (us.take n)
 |_,_,0,_=>.nil
 |_,_,_+1,.nil=>.nil
 |_,_,n+1,.cons r t=>.cons r (Vals.take n t)
theorem Vals.drop:∀{xs:List V}{us:List Value}(n:Nat),Vals xs us->Vals (xs.drop n) (us.drop n)
 |_,_,0,r=>r
 |_,_,_+1,.nil=>.nil
 |_,_,n+1,.cons _ t=>Vals.drop n t
def oU:Option V->Option Value->Prop
 |some v,some u=>RelV v u
 |none,none=>True
 |_,_=>False
def KV{κ:Type}:List (κ×V)->List (κ×Value)->Prop:=Paired fun(p:κ×V) (q:κ×Value)=>p.1=q.1/\RelV p.2 q.2
noncomputable def kV:Key->V
 | .inl i=>.int i
 | .inr x=>.str x
inductive HO where
 |lst (xs:List V)
 |tup (xs:List V)
 |dK (kvs:List (Key×V))|dT (kvs:List (List Key×V))
 |set (S:Int->Bool) (n:Nat)
 |ins (C dx:Addr) (fs:List (Str×V))
 |own (x:Addr)
 |xd (fs:List (Str×V))
 |met (f x:Addr)
 |rng (lo hi:Int)
 |frz (o:Obj) (u:HO)
 |tbl (ps:Array Value)
 |ext (φ:Heap->Prop)
noncomputable abbrev Hp:=Addr->Option HO
noncomputable def upd(H:Hp)(a:Addr)(o:HO):Hp:=fun b=>if b=a then some o else H b
theorem iP:upd H a o a=some o:=by unfold upd;rw[if_pos rfl]
theorem fG(h:b≠a):upd H a o b=H b:=by unfold upd;rw[if_neg h]
theorem mZ{u:HO}(h:H a=some o)(h':H b=some u)(d:o≠u):a≠b:=by
 intro e;subst e;rw[h]at h';exact d (cH.inj h')
theorem mR(h:H a=some o)(h':H b=none):a≠b:=by
 intro e;subst e;rw[h]at h';cases h'
section
variable (P:Program)(w:World)
def jK(H:Hp)(h:Heap)(a:Addr):HO->Prop
 | .lst xs=>xs.length<=sizeLine/\∃(its:List Value)(n:Nat),Vals xs its/\h.get? a=some {cls:=.type "list",data:=.seq its.toArray n}
 | .tup xs=>xs.length<=sizeLine/\∃its:List Value,Vals xs its/\IsTup h a its.toArray
 | .dK kvs=>kvs.length<=sizeLine/\(a==sysModules)=false/\∃vs,KV kvs vs/\h.DictOf (iN P w) a vs
 | .dT kvs=>kvs.length<=sizeLine/\(a==sysModules)=false/\∃xs:List (List Key×Addr×Value),
  Paired (fun(p:List Key×V) (q:List Key×Addr×Value)=>p.1=q.1/\H q.2.1=some (.tup (p.1.map kV))/\RelV p.2 q.2.2) kvs xs/\
  ∃o es ep,h.get? a=some o/\o.ExactDict/\o.data=.dict es ep/\es.toList=xs.map (entryOfKey (tupleKind (iN P w)))/\(xs.map (·.1)).Nodup
 | .set S n=>h.SetOf (intKind P w) a S n
 | .ins C dx fs=>H dx=some (.own a)/\fs.length<=1000/\dx≠a/\h.get? a=some (dM C dx)/\
  ∃mA,h.Ns1 dx mA/\(∀f,oU (fs.lookup f) (mA f))/\PySem.Within mA (fs.map (·.1))
 | .own _=>∃o,h.get? a=some o
 | .xd fs=>∃mA,h.Ns1 a mA/\∀f,oU (fs.lookup f) (mA f)
 | .rng lo hi=>∃t u v,h.get? a=some {cls:=.type "range",data:=.fields #[.int lo t,.int hi u,.int 1 v]}
 | .frz o u=>h.get? a=some o/\jK H h a u
 | .tbl ps=>h.get? a=some {cls:=.none,data:=.fields ps}
 | .met f x=>h.get? a=some (aOR (.ref f) (.ref x))
 | .ext φ=>φ h/\(∃o,h.get? a=some o)/\∀h1 h2:Heap,φ h1->(∀o,h1.get? a=some o->h2.get? a=some o)->φ h2
def HOk(H:Hp)(h:Heap):Prop:=∀a o,H a=some o->jK P w H h a o
end
section
variable {P:Program}{w:World}{H H':Hp}{h h':Heap}{a:Addr}{o:HO}
theorem jK.lt(x:jK P w H h a o):a<h.objs.size:=by
 cases o with
 |lst xs=>obtain⟨_,_,_,_,e⟩:=x;exact Heap.lt_size e
 |tup xs=>obtain⟨_,_,_,p⟩:=x;exact p.lt
 |dK kvs=>obtain⟨_,_,_,_,o,_,_,e,_⟩:=x;exact Heap.lt_size e
 |dT kvs=>obtain⟨_,_,_,_,o,_,_,e,_⟩:=x;exact Heap.lt_size e
 |set S n=>obtain⟨o,_,_,_,e,_⟩:=x;exact Heap.lt_size e
 |ins C dx fs=>obtain⟨_,_,_,e,_⟩:=x;exact Heap.lt_size e
 |own y=>obtain⟨_,e⟩:=x;exact Heap.lt_size e
 |xd fs=>obtain⟨_,⟨_,_,_,e,_⟩,_⟩:=x;exact Heap.lt_size e
 |rng lo hi=>obtain⟨_,_,_,e⟩:=x;exact Heap.lt_size e
 |frz ob u=>obtain⟨e,_⟩:=x;exact Heap.lt_size e
 |tbl ps=>exact Heap.lt_size (show h.get? a=some _ from x)
 |met f y=>exact Heap.lt_size (show h.get? a=some _ from x)
 |ext φ=>obtain⟨_,⟨_,e⟩,_⟩:=x;exact Heap.lt_size e
theorem Paired.mapP{α β:Type}{F G:α->β->Prop}:∀{gu:List α}{gr:List β},Paired F gu gr->(∀a b,F a b->G a b)->Paired G gu gr
 |_,_,.nil,_=>.nil
 |_,_,.cons r t,f=>.cons (f _ _ r) (Paired.mapP t f)
theorem jK.stay(x:jK P w H h a o)(k:∀b u,(b=a\/H b=some (.own a))->h.get? b=some u->h'.get? b=some u)
 (ho:∀b,H b=some (.own a)->H' b=some (.own a))(ht:∀b xs,H b=some (.tup xs)->H' b=some (.tup xs)):jK P w H' h' a o:=by
 induction o with
 |lst xs=>obtain⟨z,its,n,r,e⟩:=x;exact⟨z,its,n,r,k _ _ (.inl rfl) e⟩
 |tup xs=>obtain⟨z,its,r,ob,e,c⟩:=x;exact⟨z,its,r,ob,k _ _ (.inl rfl) e,c⟩
 |dK kvs=>obtain⟨z,y,vs,r,ob,es,ep,e,c⟩:=x;exact⟨z,y,vs,r,ob,es,ep,k _ _ (.inl rfl) e,c⟩
 |dT kvs=>
  obtain⟨z,y,xs,r,ob,es,ep,e,c⟩:=x
  exact⟨z,y,xs,Paired.mapP r fun p q z=>⟨z.1,ht _ _ z.2.1,z.2.2⟩,ob,es,ep,k _ _ (.inl rfl) e,c⟩
 |set S n=>obtain⟨ob,es,ep,t,e,c⟩:=x;exact⟨ob,es,ep,t,k _ _ (.inl rfl) e,c⟩
 |ins C dx fs=>
  obtain⟨d,z,ne,e,mA,⟨od,es,ep,e2,c⟩,r⟩:=x
  exact⟨ho _ d,z,ne,k _ _ (.inl rfl) e,mA,⟨od,es,ep,k _ _ (.inr d) e2,c⟩,r⟩
 |own y=>obtain⟨ob,e⟩:=x;exact⟨ob,k _ _ (.inl rfl) e⟩
 |xd fs=>obtain⟨mA,⟨od,es,ep,e,c⟩,r⟩:=x;exact⟨mA,⟨od,es,ep,k _ _ (.inl rfl) e,c⟩,r⟩
 |rng lo hi=>obtain⟨t,u,v,e⟩:=x;exact⟨t,u,v,k _ _ (.inl rfl) e⟩
 |frz ob u ih=>obtain⟨e,q⟩:=x;exact⟨k _ _ (.inl rfl) e,ih q⟩
 |tbl ps=>
  have e:h.get? a=some {cls:=.none,data:=.fields ps}:=x;show h'.get? a=some {cls:=.none,data:=.fields ps}
  exact k a _ (.inl rfl) e
 |met f y=>
  have e:h.get? a=some (aOR (.ref f) (.ref y)):=x;show h'.get? a=some (aOR (.ref f) (.ref y))
  exact k a _ (.inl rfl) e
 |ext φ=>obtain⟨p,⟨o,e⟩,st⟩:=x;exact⟨st _ _ p fun o q=>k _ _ (.inl rfl) q,⟨o,k _ _ (.inl rfl) e⟩,st⟩
theorem HOk.lt(x:HOk P w H h)(e:H a=some o):a<h.objs.size:=(x a o e).lt
theorem HOk.fresh(x:HOk P w H h)(e:h.objs.size<=a):H a=none:=by
 cases q:H a with
 |none=>rfl
 |some u=>exact absurd (bP (x.lt q) e) (cU _)
theorem HOk.kept(x:HOk P w H h)(k:∀b u,h.get? b=some u->h'.get? b=some u):HOk P w H h':=fun a o e=>
 (x a o e).stay (fun b u _ q=>k b u q) (fun _ q=>q) fun _ _ q=>q
theorem HOk.laid(x:HOk P w H h)(k:∀b u,h.get? b=some u->h'.get? b=some u)(hp:h.objs.size<=a)(new:jK P w (upd H a o) h' a o):HOk P w (upd H a o) h':=fun b u e=>by
 have hn:=x.fresh hp;by_cases hb:b=a
 ·subst hb;rw[iP]at e;cases e;exact new
 ·rw[fG hb]at e
  exact(x b u e).stay (fun c v _ q=>k c v q) (fun c q=>by rw[fG (mR q hn)];exact q) fun c xs q=>by rw[fG (mR q hn)];exact q
end
def Rd(H:Hp)(a:Addr)(u:HO):Prop:=H a=some u\/∃o,H a=some (.frz o u)
theorem Rd.ok{P:Program}{w:World}{H:Hp}{h:Heap}{a:Addr}{u:HO}(r:Rd H a u)(x:HOk P w H h):jK P w H h a u:=by
 rcases r with r| ⟨o,r⟩
 ·exact x a u r
 ·obtain⟨_,q⟩:=x a _ r
  exact q
def Mut:Option HO->Prop
 |some (.lst _)=>True
 |some (.dK _)=>True
 |some (.dT _)=>True
 |some (.set _ _)=>True
 |some (.ins _ _ _)=>True
 |some (.ext _)=>True
 |_=>False
section
variable {P:Program}{w:World}{H:Hp}{h h':Heap}{x e:Addr}{o':HO}
theorem HOk.write(ok:HOk P w H h)(mu:Mut (H x))(he:e=x\/H e=some (.own x))(k:∀b u,b≠e->h.get? b=some u->h'.get? b=some u)(ot:∃u,h'.get? e=some u)
 (new:jK P w (upd H x o') h' x o'):HOk P w (upd H x o') h':=fun b u q=>by
 have qq:∀c y,H c=some (.own y)->c≠x:=fun c y r z=>by subst z;rw[r]at mu;exact mu
 have ww:∀c xs,H c=some (.tup xs)->c≠x:=fun c xs r z=>by subst z;rw[r]at mu;exact mu
 by_cases hb:b=x
 ·subst hb;rw[iP]at q;cases q;exact new
 ·rw[fG hb]at q;by_cases jx:b=e
  ·have q':H b=some (.own x):=by
    rcases he with z|z
    ·exact absurd (jx.trans z) hb
    ·rw[jx];exact z
   rw[q]at q';cases q';obtain⟨v,hv⟩:=ot
   exact⟨v,by rw[jx];exact hv⟩
  ·refine(ok b u q).stay (fun c v hc r=>k c v ?_ r) (fun c r=>by rw[fG (qq c b r)];exact r) fun c xs r=>by rw[fG (ww c xs r)];exact r
   rcases hc with rfl|hc
   ·exact jx
   ·rintro rfl;rcases he with z|z
    ·exact qq c b hc z
    ·rw[hc]at z;cases z;exact hb rfl
end
structure Un(fs ex:List Addr)(H H':Hp)(h h':Heap):Prop where
 keep:∀b o,h.get? b=some o->H b=none->b∉fs->b∉ex->h'.get? b=some o
 slot:∀b o,h.get? b=some o->H b=none->b∈fs->b∉ex->∃sl,h'.get? b=some {o with slots:=sl}
 free:∀b o,h.get? b=some o->H b=none->b∉ex->H' b=none
 there:∀b o,h.get? b=some o->b∉ex->∃o',h'.get? b=some o'
 tups:∀b xs,H b=some (.tup xs)->H' b=some (.tup xs)
 frzs:∀b o u,H b=some (.frz o u)->H' b=some (.frz o u)
 tbls:∀b ps,H b=some (.tbl ps)->∃more,H' b=some (.tbl (ps++more))
section
variable {fs kz ex zj:List Addr}{H H1 H2:Hp}{h h1 h2 h':Heap}{a x e:Addr}{o:HO}
theorem Un.any(u:Un fs ex H H1 h h1){b:Addr}{ob:Obj}(q:h.get? b=some ob)(n:H b=none)(hx:b∉ex):∃sl,h1.get? b=some {ob with slots:=sl}:=by
 by_cases hb:b∈fs
 ·exact u.slot b ob q n hb hx
 ·exact⟨ob.slots,u.keep b ob q n hb hx⟩
theorem Un.kept(k:∀b u,h.get? b=some u->h'.get? b=some u):Un fs ex H H h h':=
 ⟨fun b ob q _ _ _=>k b ob q,fun b ob q _ _ _=>⟨ob.slots,k b ob q⟩,fun _ _ _ n _=>n,fun b ob q _=>⟨ob,k b ob q⟩,fun _ _ q=>q,fun _ _ _ q=>q,fun _ ps q=>⟨#[],by rw[q];simp⟩⟩
theorem Un.refl:Un fs ex H H h h:=Un.kept fun _ _ q=>q
theorem Un.laid(k:∀b u,h.get? b=some u->h'.get? b=some u)(hp:h.objs.size<=a)(hn:H a=none):Un fs ex H (upd H a o) h h' where
 keep:=fun b u q _ _ _=>k b u q
 slot:=fun b u q _ _ _=>⟨u.slots,k b u q⟩
 free:=fun b u q n _=>by rw[fG (bV (bP (Heap.lt_size q) hp))];exact n
 there:=fun b u q _=>⟨u,k b u q⟩
 tups:=fun b xs q=>by rw[fG (mR q hn)];exact q
 frzs:=fun b u xs q=>by rw[fG (mR q hn)];exact q
 tbls:=fun b ps q=>⟨#[],by rw[fG (mR q hn),q];simp⟩
theorem Un.write(mu:Mut (H x))(he:e=x\/H e=some (.own x))(k:∀b u,b≠e->h.get? b=some u->h'.get? b=some u)(ot:∃u,h'.get? e=some u):Un fs ex H (upd H x o) h h':=by
 have hx:∀b,H b=none->b≠x:=fun b n z=>by subst z;rw[n]at mu;exact mu
 have hb:∀b,H b=none->b≠e:=fun b n z=>by
  subst z;rcases he with r|r
  ·exact hx b n r
  ·rw[n]at r;cases r
 have hm:∀b u,H b=some u->¬Mut (some u)->b≠x:=fun b u q nm z=>by subst z;rw[q]at mu;exact nm mu
 refine⟨fun b u q n _ _=>k b u (hb b n) q,fun b u q n _ _=>⟨u.slots,k b u (hb b n) q⟩,fun b u q n _=>by rw[fG (hx b n)];exact n,fun b u q _=>?_,
  fun b xs q=>by rw[fG (hm b _ q fun z=>z)];exact q,fun b u xs q=>by rw[fG (hm b _ q fun z=>z)];exact q,fun b ps q=>⟨#[],by rw[fG (hm b _ q fun z=>z),q];simp⟩⟩
 by_cases jx:b=e
 ·subst jx;exact ot
 ·exact⟨u,k b u jx q⟩
end
noncomputable def trk(h:Heap)(H:Hp):List Addr:=(bI h.objs.size).filter fun a=>(H a).isSome
def aA1(h:Heap)(H:Hp):Heap:=PySem.W.hideAll h (trk h H)
theorem aFw(h:Heap)(H:Hp):(aA1 h H).objs.size=h.objs.size:=PySem.W.hideAll_size _ _
theorem aHS{h:Heap}{H:Hp}{b:Addr}{o:Obj}(e:h.get? b=some o)(n:H b=none):(aA1 h H).get? b=some o:=
 PySem.W.hideAll_get _ e fun hm=>by
  have q:(H b).isSome=true:=(dB.mp hm).2;rw[n]at q;simp at q
theorem aJX{h:Heap}{H:Hp}{b:Addr}{o:Obj}(e:(aA1 h H).get? b=some o):h.get? b=some o/\H b=none:=by
 have e':h.get? b=some o:=PySem.W.of_hideAll (trk h H) e
 refine⟨e',?_⟩
 cases q:H b with
 |none=>rfl
 |some x=>
  have hm:b∈trk h H:=dB.mpr ⟨cW.mpr (Heap.lt_size e'),by simp[q]⟩;have z:(aA1 h H).get? b=none:=PySem.W.hideAll_none (trk h H) hm;rw[z]at e;cases e
noncomputable def allNews(g h:Heap)(L:Addr):List (Addr×Obj):=(bI h.objs.size).filterMap fun a=>if a=L\/(g.get? a).isSome=true then none else(h.get? a).map fun o=>(a,o)
def rest(g h:Heap)(L d:Addr):List (Addr×Obj):=(allNews g h L).filter fun p=>decide (p.1≠d)
structure Mod(K:aO)(mg:Str->Option Value)(base:Heap):Prop where
 kin:K.In base
 glob:base.Ns mainGlobals mg
 blt:∃mb,base.Ns builtinsNs mb/\∀x:Str,x≠"__name__"->mb x=bootBuiltins x
 nolimit:base.NoLimit
structure Cx where
 prog:Program
 w:World
 K:aO
 mg:Str->Option Value
 base:Heap
 A:Around
 N:List Str
 s₀:Shared
 H₀:Hp
 env:Env
 outer:List Env
 stack:List Env
 ex:List Addr
 fn:Str->Bool
 calm:Bool
 pn:List (Addr×Obj)
 xe:Value->Shared->Prop
noncomputable def frs(l:List Env):List Addr:=l.filterMap (·.frame)
abbrev Cx.fs(X:Cx):List Addr:=frs X.outer
def Vis(sc:Scope)(x:Str):Prop:=sc.names.lookup x=some .local\/sc.names.lookup x=some .cell\/sc.names.lookup x=some .free
def Loc(sc:Scope)(x:Str):Prop:=sc.names.lookup x=some .local\/sc.names.lookup x=some .cell
def Look(env:Env)(h:Heap)(m:Str->Option Value)(x:Str)(u:Value):Prop:=
 (env.kindOf x=some .local/\m x=some u)\/((env.kindOf x=some .cell\/env.kindOf x=some .free)/\∃c,env.cells.lookup x=some c/\h.IsCell c (some u))
structure Cx.Ok(X:Cx):Prop where
 mod:Mod X.K X.mg X.base
 kind:X.env.scope.kind=.function
 glob:X.env.globals=mainGlobals
 blt:X.env.builtins=builtinsNs
 above:X.s₀.heap.objs.size<=X.env.locals
 inj:∀x y c,X.env.cells.lookup x=some c->X.env.cells.lookup y=some c->x=y
 has:∀x,(X.env.kindOf x=some .cell\/X.env.kindOf x=some .free)->∃c,X.env.cells.lookup x=some c
 cab:∀x c,X.fn x=true->X.env.cells.lookup x=some c->X.s₀.heap.objs.size<=c
 hd:X.calm=true->X.A.handled=none
 frames:X.A.frames=some X.stack
 stk:X.stack=X.outer\/(X.stack=X.env::X.outer/\X.env.frame=some X.env.locals)
 exf:∀b∈X.ex,b≠X.env.locals/\∀x c,X.env.cells.lookup x=some c->c≠b
 bs:∀b o,X.base.get? b=some o->X.s₀.heap.get? b=some o/\X.H₀ b=none
 bsz:X.base.objs.size<=X.s₀.heap.objs.size
 noex:∀b o,X.base.get? b=some o->b∉X.ex
 exfs:∀b∈X.ex,b∉X.fs
 funs:X.s₀.heap.FunFrames X.base X.outer
 frf:∀b∈X.fs,X.H₀ b=none
structure Inv(X:Cx)(aa:List (Addr×Obj))(σ:List (Option V))(H:Hp)(s:Shared):Prop where
 ok:X.Ok
 os:s.os=X.s₀.os
 bare:AllBare s.gens
 base:Un X.fs X.ex X.H₀ H X.s₀.heap s.heap
 loc:∃m,s.heap.Ns X.env.locals m/\∀(i:Nat)(x:Str)(v:V),X.N[i]?=some x->σ[i]?=some (some v)->Vis X.env.scope x->∃u,RelV v u/\Look X.env s.heap m x u
 cell:∀x c,X.env.cells.lookup x=some c->∃v,s.heap.IsCell c v
 free:H X.env.locals=none
 freeC:∀x c,X.env.cells.lookup x=some c->H c=none
 pin:∀p∈X.pn++aa,s.heap.get? p.1=some p.2/\H p.1=none/\p.1≠X.env.locals/\p.1∉X.fs/\∀v,p.2.data≠ .cell v
 hok:HOk X.prog X.w H s.heap
 len:σ.length=X.N.length
section
variable {X:Cx}{aa:List (Addr×Obj)}{σ:List (Option V)}{H H':Hp}{s:Shared}{h':Heap}
variable{g':Array GenState}{t' i:Nat}{d':Drawn}{ch:List Addr}{x:Str}{M:Model}{A:Around}{E:Value->Shared->Prop}{v:V}{u:Value}{Q:Unit->Shared->Prop}
theorem Cx.Ok.nofr(ok:X.Ok){b:Addr}{o:Obj}(e:X.base.get? b=some o):b∉X.fs:=fun hb=>by
 have:=(ok.funs.mem hb).1;rw[e]at this;cases this
theorem Inv.bs(I:Inv X aa σ H s):∀b o,X.base.get? b=some o->s.heap.get? b=some o/\H b=none:=fun b o e=>
 ⟨I.base.keep b o (I.ok.bs b o e).1 (I.ok.bs b o e).2 (I.ok.nofr e) (I.ok.noex b o e),I.base.free b o (I.ok.bs b o e).1 (I.ok.bs b o e).2 (I.ok.noex b o e)⟩
theorem Inv.bk(I:Inv X aa σ H s):∀b o,X.base.get? b=some o->s.heap.get? b=some o:=fun b o e=>(I.bs b o e).1
theorem Inv.mod(I:Inv X aa σ H s):Mod X.K X.mg X.base:=I.ok.mod
theorem Inv.kIn(I:Inv X aa σ H s):X.K.In s.heap:=I.ok.mod.kin.keeps I.bk
theorem Inv.lt(I:Inv X aa σ H s):X.env.locals<s.heap.objs.size:=let ⟨_,hn,_⟩:=I.loc;hn.lt
theorem Inv.sz(I:Inv X aa σ H s):X.s₀.heap.objs.size<=s.heap.objs.size:=cB I.ok.above (aPq I.lt)
theorem Inv.nofs(I:Inv X aa σ H s){a:Addr}(h:s.heap.objs.size<=a):a∉X.fs:=fun hb=>by
 obtain⟨_,o,ho,_⟩:=I.ok.funs.mem hb
 exact absurd (bP (Heap.lt_size ho) (cB I.sz h)) (cU _)
theorem Inv.cne(I:Inv X aa σ H s):∀x c,X.env.cells.lookup x=some c->c≠X.env.locals:=fun x c e z=>by
 obtain⟨v,o,ho,hd⟩:=I.cell x c e;obtain⟨m,⟨o',es,ep,ir,jh,_⟩,_⟩:=I.loc;rw[z,ir]at ho;cases ho;rw[jh]at hd;cases hd
theorem Inv.funs(I:Inv X aa σ H s):s.heap.FunFrames X.base X.outer:=by
 have all:∀(l:List Env),(∀b∈frs l,b∈X.fs)->X.s₀.heap.FunFrames X.base l->s.heap.FunFrames X.base l:=by
  intro l;induction l with
  |nil=>intro _ _;trivial
  |cons env r ih=>
   intro hs hl;obtain⟨hk,⟨L,o,hf,hn,ho,hd⟩,hr⟩:=hl;have hL:L∈X.fs:=hs L (by unfold frs;rw[c8,hf];exact bJ);obtain⟨sl,e⟩:=I.base.slot L o ho (I.ok.frf L hL) hL fun z=>I.ok.exfs L z hL
   exact⟨hk,⟨L,_,hf,hn,e,hd⟩,ih (fun b hb=>hs b (by unfold frs;rw[c8,hf];exact bA _ hb)) hr⟩
 exact all X.outer (fun _ hb=>hb) I.ok.funs
theorem Inv.stack(I:Inv X aa σ H s):s.heap.FunFrames X.base X.stack:=by
 rcases I.ok.stk with e| ⟨e,hf⟩
 ·rw[e];exact I.funs
 ·rw[e];obtain⟨m,hn,_⟩:=I.loc
  refine .cons (by rw[I.ok.kind];decide) hf hn ?_ I.funs
  exact Heap.get?_none_of_le (cB I.ok.bsz I.ok.above)
theorem Inv.stkSub(I:Inv X aa σ H s):∀b∈frs X.stack,b∈X.env.locals::X.fs:=fun b hb=>by
 rcases I.ok.stk with e| ⟨e,hf⟩
 ·rw[e]at hb;exact bA _ hb
 ·rw[e]at hb;unfold frs at hb;rw[c8,hf]at hb
  exact hb
theorem Inv.stkFree(I:Inv X aa σ H s):∀b∈frs X.stack,H b=none:=fun b hb=>by
 rcases bE.mp (I.stkSub b hb)with e|hb
 ·rw[e];exact I.free
 ·obtain⟨_,o,ho,_⟩:=I.ok.funs.mem hb
  exact I.base.free b o ho (I.ok.frf b hb) fun z=>I.ok.exfs b z hb
theorem Inv.step(I:Inv X aa σ H s)
 (br:∀b∈ch,(b∈X.ex\/X.s₀.heap.objs.size<=b)/\b≠X.env.locals/\(∀x c,X.env.cells.lookup x=some c->c≠b)/\∀p∈X.pn++aa,p.1≠b)
 (keep:∀b o,b≠X.env.locals->b∉X.fs->b∉ch->s.heap.get? b=some o->H b=none->h'.get? b=some o)
 (slot:∀b o,b≠X.env.locals->b∈X.fs->b∉ch->s.heap.get? b=some o->H b=none->∃sl,h'.get? b=some {o with slots:=sl})(free:∀b o,b∉ch->s.heap.get? b=some o->H b=none->H' b=none)
 (there:∀b o,b∉ch->s.heap.get? b=some o->∃o',h'.get? b=some o')
 (tups:∀b xs,H b=some (.tup xs)->H' b=some (.tup xs))(frzs:∀b o u,H b=some (.frz o u)->H' b=some (.frz o u))(tbls:∀b ps,H b=some (.tbl ps)->∃more,H' b=some (.tbl (ps++more)))
 (ns:∀m,s.heap.Ns X.env.locals m->h'.Ns X.env.locals m)(hok:HOk X.prog X.w H' h')(hg:AllBare g'):
 Inv X aa σ H' {s with heap:=h',gens:=g',drawn:=d',toks:=t'}:=by
 have neL:∀b o,X.s₀.heap.get? b=some o->b≠X.env.locals:=fun b o e=>bV (bP (Heap.lt_size e) I.ok.above)
 have uv:∀b o,X.s₀.heap.get? b=some o->b∉X.ex->b∉ch:=fun b o e hx hb=>by
  rcases(br b hb).1 with z|z
  ·exact hx z
  ·exact absurd (bP (Heap.lt_size e) z) (cU _)
 have cellK:∀x c,X.env.cells.lookup x=some c->∀v,s.heap.IsCell c v->h'.IsCell c v:=fun x c e v ⟨o,ho,hd⟩=>by
  have ik:c∉ch:=fun z=>(br c z).2.2.1 x c e rfl
  by_cases hc:c∈X.fs
  ·obtain⟨sl,q⟩:=slot c o (I.cne x c e) hc ik ho (I.freeC x c e)
   exact⟨_,q,hd⟩
  ·exact⟨o,keep c o (I.cne x c e) hc ik ho (I.freeC x c e),hd⟩
 refine⟨I.ok,I.os,hg,⟨fun b o e n hb hx=>?_,fun b o e n hb hx=>?_,fun b o e n hx=>?_,fun b o e hx=>?_,fun b xs e=>tups b xs (I.base.tups b xs e),fun b o xs e=>frzs b o xs (I.base.frzs b o xs e),fun b ps e=>?_⟩,?_,fun x c e=>?_,?_,fun x c e=>?_,fun p hp=>?_,hok,I.len⟩
 ·exact keep b o (neL b o e) hb (uv b o e hx) (I.base.keep b o e n hb hx) (I.base.free b o e n hx)
 ·obtain⟨sl,e1⟩:=I.base.slot b o e n hb hx;obtain⟨sl',e2⟩:=slot b _ (neL b o e) hb (uv b o e hx) e1 (I.base.free b o e n hx)
  exact⟨sl',e2⟩
 ·obtain⟨o',e1⟩:=I.base.there b o e hx
  exact free b o' (uv b o e hx) e1 (I.base.free b o e n hx)
 ·obtain⟨o',e1⟩:=I.base.there b o e hx
  exact there b o' (uv b o e hx) e1
 ·obtain⟨m1,e1⟩:=I.base.tbls b ps e;obtain⟨m2,e2⟩:=tbls b _ e1
  exact⟨m1++m2,by rw[e2,Array.append_assoc]⟩
 ·obtain⟨m,hn,hl⟩:=I.loc
  refine⟨m,ns m hn,fun i x v e1 e2 e3=>?_⟩
  obtain⟨u,r,l⟩:=hl i x v e1 e2 e3
  refine⟨u,r,?_⟩
  rcases l with l| ⟨k,c,e,z⟩
  ·exact .inl l
  ·exact .inr ⟨k,c,e,cellK x c e _ z⟩
 ·obtain⟨v,z⟩:=I.cell x c e
  exact⟨v,cellK x c e v z⟩
 ·obtain⟨m,⟨o,_,_,ho,_⟩,_⟩:=I.loc
  exact free _ o (fun z=>(br _ z).2.1 rfl) ho I.free
 ·obtain⟨v,o,ho,hd⟩:=I.cell x c e
  exact free c o (fun z=>(br c z).2.2.1 x c e rfl) ho (I.freeC x c e)
 ·obtain⟨e,n,ne,nf,d⟩:=I.pin p hp;have ik:p.1∉ch:=fun z=>(br p.1 z).2.2.2 p hp rfl
  exact⟨keep p.1 p.2 ne nf ik e n,free p.1 p.2 ik e n,ne,nf,d⟩
theorem Inv.un(I:Inv X aa σ H s)(u:Un X.fs [] H H' s.heap h')(hok:HOk X.prog X.w H' h'):Inv X aa σ H' {s with heap:=h',toks:=t'}:=by
 obtain⟨m,⟨o,es,ep,ho,r⟩,_⟩:=id I.loc;obtain⟨sl,hL⟩:=u.any ho I.free (by simp)
 exact I.step (g':=s.gens) (d':=s.drawn) (ch:=[]) (fun _ z=>nomatch z) (fun b o _ hb _ e n=>u.keep b o e n hb (by simp)) (fun b o _ hb _ e n=>u.slot b o e n hb (by simp)) (fun b o _ e n=>u.free b o e n (by simp)) (fun b o _ e=>u.there b o e (by simp)) u.tups u.frzs u.tbls (fun m' hm=>by
  obtain⟨o',zk,zl,ir,r'⟩:=hm;rw[ho]at ir;cases ir
  exact⟨_,zk,zl,hL,r'⟩) hok I.bare
theorem Inv.call(I:Inv X aa σ H s)(u:Un (frs X.stack) ch H H' s.heap h')(hok:HOk X.prog X.w H' h')(hg:AllBare g')
 (br:∀b∈ch,(b∈X.ex\/X.s₀.heap.objs.size<=b)/\b≠X.env.locals/\(∀x c,X.env.cells.lookup x=some c->c≠b)/\∀p∈X.pn++aa,p.1≠b):
 Inv X aa σ H' {s with heap:=h',gens:=g',drawn:=d',toks:=t'}:=by
 obtain⟨m,⟨o,es,ep,ho,r⟩,_⟩:=id I.loc;obtain⟨sl,hL⟩:=u.any ho I.free fun z=>(br _ z).2.1 rfl
 exact I.step (ch:=ch) br (fun b o hL hb hc e n=>u.keep b o e n (fun z=>(bE.mp (I.stkSub b z)).elim hL hb) hc) (fun b o _ _ hc e n=>u.any e n hc) (fun b o hc e n=>u.free b o e n hc) (fun b o hc e=>u.there b o e hc) u.tups u.frzs u.tbls (fun m' hm=>by
  obtain⟨o',zk,zl,ir,r'⟩:=hm;rw[ho]at ir;cases ir
  exact⟨_,zk,zl,hL,r'⟩) hok hg
theorem Inv.turned{it:Addr}(I:Inv X aa σ H s)(k:∀b o,b≠it->s.heap.get? b=some o->h'.get? b=some o)(hn:H it=none)(hL:it≠X.env.locals)
 (h1:it∈X.ex\/X.s₀.heap.objs.size<=it)(h2:∀x c,X.env.cells.lookup x=some c->c≠it)(h3:∀p∈X.pn++aa,p.1≠it):Inv X aa σ H {s with heap:=h',toks:=t'}:=by
 have nit:∀b u,H b=some u->b≠it:=fun b u e z=>by rw[z,hn]at e;cases e
 refine I.step (g':=s.gens) (d':=s.drawn) (ch:=[it]) (fun b hb=>?_) (fun b o _ _ hc e _=>k b o (fun z=>hc (by simp[z])) e) (fun b o _ _ hc e _=>⟨o.slots,k b o (fun z=>hc (by simp[z])) e⟩) (fun _ _ _ _ n=>n)
  (fun b o hc e=>⟨o,k b o (fun z=>hc (by simp[z])) e⟩) (fun _ _ e=>e) (fun _ _ _ e=>e) (fun b ps e=>⟨#[],by rw[e];simp⟩) (fun m hm=>?_) (fun b u e=>?_) I.bare
 ·have e:b=it:=by simpa using hb
  subst e
  exact⟨h1,hL,h2,h3⟩
 ·obtain⟨o,es,ep,ho,r⟩:=hm
  exact⟨o,es,ep,k _ o (Ne.symm hL) ho,r⟩
 ·refine(I.hok b u e).stay (fun c v hc q=>k c v ?_ q) (fun _ q=>q) fun _ _ q=>q
  rcases hc with z|z
  ·rw[z];exact nit b u e
  ·exact nit c _ z
theorem Inv.tok(I:Inv X aa σ H s)(t:Nat):Inv X aa σ H {s with toks:=t}:=I.un (h':=s.heap) (t':=t) Un.refl I.hok
theorem Inv.kept(I:Inv X aa σ H s)(k:∀b u,s.heap.get? b=some u->h'.get? b=some u):Inv X aa σ H {s with heap:=h',toks:=t'}:=I.un (Un.kept k) (I.hok.kept k)
theorem Inv.laid{a:Addr}{o:HO}(I:Inv X aa σ H s)(k:∀b u,s.heap.get? b=some u->h'.get? b=some u)(hp:s.heap.objs.size<=a)(new:jK X.prog X.w (upd H a o) h' a o):
 Inv X aa σ (upd H a o) {s with heap:=h',toks:=t'}:=I.un (Un.laid k hp (I.hok.fresh hp)) (I.hok.laid k hp new)
theorem Inv.write{x e:Addr}{o:HO}(I:Inv X aa σ H s)(mu:Mut (H x))(he:e=x\/H e=some (.own x))(k:∀b u,b≠e->s.heap.get? b=some u->h'.get? b=some u)(ot:∃u,h'.get? e=some u)
 (new:jK X.prog X.w (upd H x o) h' x o):Inv X aa σ (upd H x o) {s with heap:=h',toks:=t'}:=I.un (Un.write mu he k ot) (I.hok.write mu he k ot new)
theorem Inv.pins_of{kl:List (Addr×Obj)}(I:Inv X aa σ H s)(h:∀p∈kl,s.heap.get? p.1=some p.2/\H p.1=none/\p.1≠X.env.locals/\p.1∉X.fs/\∀v,p.2.data≠ .cell v):Inv X kl σ H s:=
 ⟨I.ok,I.os,I.bare,I.base,I.loc,I.cell,I.free,I.freeC,fun p hp=>(bM.mp hp).elim (fun z=>I.pin p (aOc _ z)) (h p),I.hok,I.len⟩
theorem aBf{N:List Str}(hN:N.Nodup){j:Nat}(a:N[i]?=some x)(b:N[j]?=some x):i=j:=by
 obtain⟨h1,e1⟩:=aR.mp a;obtain⟨h2,e2⟩:=aR.mp b
 exact(aOv hN).mp (e1.trans e2.symm)
theorem zA(I:Inv X aa σ H s)(hN:X.N.Nodup)(hi:X.N[i]?=some x)(hx:Loc X.env.scope x)(r:RelV v u)
 (h:∀s',Inv X aa (σ.set i (some v)) H s'->(∃a,Heap.SameBut a s.heap s'.heap/\(a=X.env.locals\/X.env.cells.lookup x=some a))->Q () s')(hf:X.fn x=true\/X.env.scope.names.lookup x=some .local:=by first|exact .inl rfl|exact .inr rfl|assumption):wpAny M A (storeName X.env x u) Q E s:=by
 obtain⟨m,hn,hl⟩:=id I.loc;have za:(X.env.scope.kind== .class||(X.env.scope.kind== .module&&X.env.locals !=X.env.globals))=false:=by rw[I.ok.kind];rfl
 have tf:i<σ.length:=by rw[I.len];exact(aR.mp hi).1
 have cne:=I.cne;have tracked:∀{a:Addr}{h':Heap},(∃o,s.heap.get? a=some o/\H a=none)->Heap.SameBut a s.heap h'->HOk X.prog X.w H h':=fun {a h'} ha hs b ob e=>by
  obtain⟨_,_,di⟩:=ha
  refine(I.hok b ob e).stay (fun c w' hc q=>(hs.2 c ?_).trans q) (fun _ q=>q) fun _ _ q=>q
  rintro rfl;rcases hc with rfl|hc
  ·rw[di]at e;cases e
  ·rw[di]at hc;cases hc
 rcases hx with hk|hk
 ·refine wpAny_storeName_local hk hn (fun h' kq hs=>?_) za
  obtain⟨oL,_,_,hoL,_⟩:=id hn
  refine h _ ⟨I.ok,I.os,I.bare,⟨fun b o e n hb hx=>?_,fun b o e n hb hx=>?_,I.base.free,fun b o e hx=>?_,I.base.tups,I.base.frzs,I.base.tbls⟩,⟨_,kq,fun j y v' e1 e2 e3=>?_⟩,fun y c e=>?_,I.free,I.freeC,fun p hp=>?_,tracked ⟨oL,hoL,I.free⟩ hs,by simpa using I.len⟩ ⟨_,hs,.inl rfl⟩
  ·exact(hs.2 b (bV (bP (Heap.lt_size e) I.ok.above))).trans (I.base.keep b o e n hb hx)
  ·obtain⟨sl,e1⟩:=I.base.slot b o e n hb hx
   exact⟨sl,(hs.2 b (bV (bP (Heap.lt_size e) I.ok.above))).trans e1⟩
  ·obtain⟨o',e1⟩:=I.base.there b o e hx
   exact⟨o',(hs.2 b (bV (bP (Heap.lt_size e) I.ok.above))).trans e1⟩
  ·by_cases hj:j=i
   ·subst hj;rw[hi]at e1;cases e1;rw[bO tf]at e2;cases e2
    exact⟨u,r,.inl ⟨hk,by simp⟩⟩
   ·rw[aS (Ne.symm hj)]at e2;obtain⟨u',r',q⟩:=hl j y v' e1 e2 e3
    refine⟨u',r',?_⟩
    rcases q with⟨k,e⟩| ⟨k,c,e,z⟩
    ·refine .inl ⟨k,?_⟩
     have:y≠x:=fun e=>hj (aBf hN e1 (e ▸ hi))
     simp[this,e]
    ·exact .inr ⟨k,c,e,z.sameBut hs (cne y c e)⟩
  ·obtain⟨w',z⟩:=I.cell y c e
   exact⟨w',z.sameBut hs (cne y c e)⟩
  ·obtain⟨e,n,ne,nf,d⟩:=I.pin p hp
   exact⟨(hs.2 p.1 ne).trans e,n,ne,nf,d⟩
 ·have yt:X.fn x=true:=by
   rcases hf with z|z
   ·exact z
   ·rw[z]at hk;cases hk
  obtain⟨c,hc⟩:=I.ok.has x (.inl hk);obtain⟨w',z⟩:=I.cell x c hc
  refine wpAny_storeName_cell I.ok.kind hk hc z (fun h' ow hs=>?_)
  obtain⟨oc,hoc,ya⟩:=id z
  refine h {s with heap:=h'} ⟨I.ok,I.os,I.bare,⟨fun b o e n hb hx=>?_,fun b o e n hb hx=>?_,I.base.free,fun b o e hx=>?_,I.base.tups,I.base.frzs,I.base.tbls⟩,⟨m,hn.sameBut hs (Ne.symm (cne x c hc)),fun j y v' e1 e2 e3=>?_⟩,fun y c' e=>?_,I.free,I.freeC,fun p hp=>?_,tracked ⟨oc,hoc,I.freeC x c hc⟩ hs,by simpa using I.len⟩ ⟨c,hs,.inr hc⟩
  ·exact(hs.2 b (bV (bP (Heap.lt_size e) (I.ok.cab x c yt hc)))).trans (I.base.keep b o e n hb hx)
  ·obtain⟨sl,e1⟩:=I.base.slot b o e n hb hx
   exact⟨sl,(hs.2 b (bV (bP (Heap.lt_size e) (I.ok.cab x c yt hc)))).trans e1⟩
  ·obtain⟨o',e1⟩:=I.base.there b o e hx
   exact⟨o',(hs.2 b (bV (bP (Heap.lt_size e) (I.ok.cab x c yt hc)))).trans e1⟩
  ·by_cases hj:j=i
   ·subst hj;rw[hi]at e1;cases e1;rw[bO tf]at e2;cases e2
    exact⟨u,r,.inr ⟨.inl hk,c,hc,ow⟩⟩
   ·rw[aS (Ne.symm hj)]at e2;obtain⟨u',r',q⟩:=hl j y v' e1 e2 e3
    refine⟨u',r',?_⟩
    rcases q with q| ⟨k,c',e,z'⟩
    ·exact .inl q
    ·refine .inr ⟨k,c',e,z'.sameBut hs ?_⟩
     rintro rfl
     exact hj (aBf hN e1 (I.ok.inj _ _ _ e hc ▸ hi))
  ·by_cases hcc:c'=c
   ·subst hcc;exact⟨_,ow⟩
   ·obtain⟨w2,z2⟩:=I.cell y c' e
    exact⟨w2,z2.sameBut hs hcc⟩
  ·obtain⟨e,n,ne,nf,d⟩:=I.pin p hp
   refine⟨(hs.2 p.1 ?_).trans e,n,ne,nf,d⟩
   intro q;rw[q,hoc]at e;have q':oc=p.2:=cH.inj e
   exact d w' (by rw[<-q'];exact ya)
theorem aBt(I:Inv X aa σ H s)(hN:X.N.Nodup)(hi:X.N[i]?=some x)(hx:Loc X.env.scope x)(r:RelV v u)
 (h:∀s',Inv X aa (σ.set i (some v)) H s'->Q () s')(hf:X.fn x=true\/X.env.scope.names.lookup x=some .local:=by first|exact .inl rfl|exact .inr rfl|assumption):wpAny M A (storeName X.env x u) Q E s:=
 zA I hN hi hx r (fun s' I' _=>h s' I') hf
theorem Inv.call'{s':Shared}(I:Inv X aa σ H s)(ho:s'.os=s.os)(u:Un (frs X.stack) ch H H' s.heap s'.heap)(hok:HOk X.prog X.w H' s'.heap)(hg:AllBare s'.gens)
 (br:∀b∈ch,(b∈X.ex\/X.s₀.heap.objs.size<=b)/\b≠X.env.locals/\(∀x c,X.env.cells.lookup x=some c->c≠b)/\∀p∈X.pn++aa,p.1≠b):Inv X aa σ H' s':=by
 obtain⟨h',g',d',t',o'⟩:=s';have e:o'=s.os:=ho;subst e
 exact I.call (g':=g') (t':=t') (d':=d') u hok hg br
end
abbrev XK:=Value->Option Addr->Hp->Prop
noncomputable abbrev St:=List (Option V)
abbrev VK:=V->Hp->Prop
abbrev TE:=St->Hp->VK->Prop
abbrev TT:=St->Hp->(Bool->Hp->Prop)->Prop
abbrev TA:=St->Hp->(List V->Hp->Prop)->Prop
structure Ends where
 nx:St->Hp->Prop
 rt:VK
 bk:St->Hp->Prop:=fun _ _=>False
 ct:St->Hp->Prop:=fun _ _=>False
abbrev TS:=Ends->St->Hp->Prop
def EP(X:Cx)(aa:List (Addr×Obj))(σ:St)(Q:VK)(u:Value)(s':Shared):Prop:=∃v H',Inv X aa σ H' s'/\RelV v u/\Q v H'
def TP(X:Cx)(aa:List (Addr×Obj))(σ:St)(Q:Bool->Hp->Prop)(b:Bool)(s':Shared):Prop:=∃H',Inv X aa σ H' s'/\Q b H'
def AP(X:Cx)(aa:List (Addr×Obj))(σ:St)(Q:List V->Hp->Prop)(us:List Value)(s':Shared):Prop:=∃vs H',Inv X aa σ H' s'/\Vals vs us/\Q vs H'
def SP(X:Cx)(aa:List (Addr×Obj))(D:Ends)(f:Flow)(s':Shared):Prop:=
 match f with
 | .next=>∃ai H',Inv X aa ai H' s'/\D.nx ai H'
 | .brk=>∃ai H',Inv X aa ai H' s'/\D.bk ai H'
 | .cont=>∃ai H',Inv X aa ai H' s'/\D.ct ai H'
 | .ret u=>∃v ai H',Inv X aa ai H' s'/\RelV v u/\D.rt v H'
def PE(X:Cx)(e:Expr)(t:TE):Prop:=
 ∀(aa:List (Addr×Obj))(s:Shared)(σ:St)(H:Hp)(Q:VK),Inv X aa σ H s->t σ H Q->wpAny (model X.prog X.w) X.A (eval e X.env) (EP X aa σ Q) X.xe s
def PT(X:Cx)(e:Expr)(t:TT):Prop:=
 ∀(aa:List (Addr×Obj))(s:Shared)(σ:St)(H:Hp)(Q:Bool->Hp->Prop),Inv X aa σ H s->t σ H Q->wpAny (model X.prog X.w) X.A (isTrue e X.env (eval e X.env)) (TP X aa σ Q) X.xe s
def PW(X:Cx)(e:Expr)(t:TT):Prop:=
 ∀(whole:Sem Value)(aa:List (Addr×Obj))(s:Shared)(σ:St)(H:Hp)(Q:Bool->Hp->Prop),Inv X aa σ H s->t σ H Q->wpAny (model X.prog X.w) X.A (isTrue e X.env whole) (TP X aa σ Q) X.xe s
theorem PW.pt{X:Cx}{e:Expr}{t:TT}(h:PW X e t):PT X e t:=h _
def PA(X:Cx)(es:List Expr)(t:TA):Prop:=
 ∀(pos:Pos)(aa:List (Addr×Obj))(s:Shared)(σ:St)(H:Hp)(Q:List V->Hp->Prop),Inv X aa σ H s->t σ H Q->wpAny (model X.prog X.w) X.A (spliced (backTo pos (starEach es X.env))) (AP X aa σ Q) X.xe s
def PS(X:Cx)(st:Stmt)(t:TS):Prop:=
 ∀(aa:List (Addr×Obj))(s:Shared)(σ:St)(H:Hp)(D:Ends),Inv X aa σ H s->t D σ H->wpAny (model X.prog X.w) X.A (exec st X.env) (SP X aa D) X.xe s
def PSs(X:Cx)(st:List Stmt)(t:TS):Prop:=
 ∀(aa:List (Addr×Obj))(s:Shared)(σ:St)(H:Hp)(D:Ends),Inv X aa σ H s->t D σ H->wpAny (model X.prog X.w) X.A (execs st X.env) (SP X aa D) X.xe s
theorem thn{α:Type}{t:Sem α}{Q Q':α->Shared->Prop}{M:Model}{A:Around}{E:Value->Shared->Prop}{s:Shared}(h:wpAny M A t Q E s)(hQ:∀a s,Q a s->Q' a s):wpAny M A t Q' E s:=wpAny_mono h hQ fun _ _ x=>x
section
variable {X:Cx}
variable{x:Str}{pos:Pos}{E Q:Value->Shared->Prop}{aa:List (Addr×Obj)}{s:Shared}{σ:St}{u:Value}{v:V}
noncomputable def tVar(i:Nat):TE:=fun σ H Q=>∃v,σ[i]?=some (some v)/\Q v H
noncomputable def tC(v:V):TE:=fun _ H Q=>Q v H
theorem aK9{i:Nat}(hN:X.N[i]?=some x)(hv:Vis X.env.scope x)(hd:(x==("__debug__":Str))=false:=by decide)(iz:(x==("__classdict__":Str))=false:=by decide):PE X (.Name x pos) (tVar i):=by
 intro aa s σ H Q I h;obtain⟨v,e,h⟩:=h;obtain⟨m,hn,hl⟩:=I.loc;obtain⟨u,r,l⟩:=hl i x v hN e hv;have fin:EP X aa σ Q u s:=⟨v,H,I,r,h⟩;rcases l with⟨hk,hm⟩| ⟨hk,c,hc,ku⟩
 ·exact wpAny_Name (wpAny_loadName_local I.ok.kind hk hn hm fin) hd
 ·rcases hk with hk|hk
  ·exact wpAny_Name (wpAny_loadName_cell I.ok.kind hk hc ku fin) hd
  ·exact wpAny_Name (wpAny_loadName_free I.ok.kind hk hc ku fin iz) hd
theorem aAP{i j pos}:PE X (.Constant (.int i) j pos) (tC (.int i)):=fun _ _ _ H _ I h=>wpAny_Constant_int ⟨.int i,H,I.tok _,⟨_,rfl⟩,h⟩
theorem aNN{b j pos}:PE X (.Constant (.bool b) j pos) (tC (.bl b)):=fun _ _ _ H _ I h=>Constant_bool ⟨.bl b,H,I,rfl,h⟩
theorem aL1{j pos}:PE X (.Constant .none j pos) (tC .non):=fun _ _ _ H _ I h=>Constant_none ⟨.non,H,I,rfl,h⟩
def Gl(X:Cx)(x:Str):Prop:=X.env.kindOf x=some .globalImplicit
theorem aAl{H:Hp}(I:Inv X aa σ H s)(hg:Gl X x)(hm:X.mg x=some u)(h:Q u s)
 (hd:(x==("__debug__":Str))=false:=by decide):wpAny (model X.prog X.w) X.A (eval (.Name x pos) X.env) Q E s:=
 Calls.Name_function_global I.ok.kind hg (Calls.loadGlobal_global (by rw[I.ok.glob];exact I.mod.glob.keeps I.bk) hm h) hd
theorem oZ{H:Hp}(I:Inv X aa σ H s)(hg:Gl X x)(hm:X.mg x=none)(hv:bootBuiltins x=some u)(h:Q u s)
 (hn:x≠"__name__":=by decide)(hd:(x==("__debug__":Str))=false:=by decide):wpAny (model X.prog X.w) X.A (eval (.Name x pos) X.env) Q E s:=by
 obtain⟨mb,h1,h2⟩:=I.mod.blt
 exact Calls.Name_function_global I.ok.kind hg (Calls.loadGlobal_builtin (by rw[I.ok.glob];exact I.mod.glob.keeps I.bk) hm (by rw[I.ok.blt];exact h1.keeps I.bk) ((h2 x hn).trans hv) h) hd
theorem aJr(hg:Gl X x)(hm:X.mg x=some u)(r:RelV v u)(hd:(x==("__debug__":Str))=false:=by decide):PE X (.Name x pos) (tC v):=
 fun _ _ _ H _ I h=>aAl I hg hm ⟨v,H,I,r,h⟩ hd
theorem aJd(hg:Gl X x)(hm:X.mg x=none)(hv:bootBuiltins x=some u)(r:RelV v u)(hn:x≠"__name__":=by decide)(hd:(x==("__debug__":Str))=false:=by decide):PE X (.Name x pos) (tC v):=
 fun _ _ _ H _ I h=>oZ I hg hm hv ⟨v,H,I,r,h⟩ hn hd
variable {a b:Expr}{ta tb:TE}{pos:Pos}
def PC(X:Cx)(op:CmpOp)(a b:Expr)(t:TE):Prop:=
 ∀(aa:List (Addr×Obj))(s:Shared)(σ:St)(H:Hp)(Q:VK),Inv X aa σ H s->t σ H Q->
  wpAny (model X.prog X.w) X.A (eval a X.env) (fun v aj=>wpAny (model X.prog X.w) X.A (eval b X.env) (fun u bz=>wpAny (model X.prog X.w) X.A (compareOp op v u) (EP X aa σ Q) X.xe bz) X.xe aj) X.xe s
noncomputable def tB(t:TE):TT:=fun σ H Q=>t σ H fun x H1=>∃c,x=.bl c/\Q c H1
theorem aGA{op:CmpOp}{t:TE}(h:PC X op a b t)(h1:behindInMarks op b=false:=by first|exact qr _ (by decide) (by decide)|rfl):PT X (.Compare a [op] [b] pos) (tB t):=by
 intro aa s σ H Q I hw
 refine wpAny_isTrue_Compare1 (thn (h aa s σ H _ I hw) fun v s1 h1=>thn h1 fun u s2 h2=>thn h2 fun c s3 ⟨x,H1,I1,r1,q1⟩=>?_) h1
 obtain⟨d,rfl,q⟩:=q1;cases r1
 exact wpAny_truthy_bool ⟨H1,I1,q⟩
variable {tA uq:TT}{rest:List Expr}
noncomputable def tAnd(t u:TT):TT:=fun σ H Q=>t σ H fun c H1=>if c=true then u σ H1 Q else Q false H1
noncomputable def tOr(t u:TT):TT:=fun σ H Q=>t σ H fun c H1=>if c=true then Q true H1 else u σ H1 Q
noncomputable def tNot(t:TT):TT:=fun σ H Q=>t σ H fun c H1=>Q (!c) H1
theorem aIL(ha:PT X a tA):PW X (.BoolOp .And [a] pos) tA:=by
 intro wh aa s σ H Q I h
 refine isTrue_and (thn (ha aa s σ H Q I h) fun c s1 e=>?_)
 cases c with
 |true=>exact isTrue_and_nil e
 |false=>exact e
theorem aMN(ha:PT X a tA):PW X (.BoolOp .Or [a] pos) tA:=by
 intro wh aa s σ H Q I h
 refine isTrue_or (thn (ha aa s σ H Q I h) fun c s1 e=>?_)
 cases c with
 |false=>exact isTrue_or_nil e
 |true=>exact e
theorem aM4(ha:PT X a tA)(hb:PW X (.BoolOp .And (b::rest) pos) uq):PW X (.BoolOp .And (a::b::rest) pos) (tAnd tA uq):=by
 intro wh aa s σ H Q I h
 refine isTrue_and (thn (ha aa s σ H _ I h) fun c s1 ⟨H1,I1,q1⟩=>?_)
 cases c with
 |true=>exact hb wh aa s1 σ H1 Q I1 q1
 |false=>exact⟨H1,I1,q1⟩
theorem aNV(ha:PT X a tA)(hb:PW X (.BoolOp .Or (b::rest) pos) uq):PW X (.BoolOp .Or (a::b::rest) pos) (tOr tA uq):=by
 intro wh aa s σ H Q I h
 refine isTrue_or (thn (ha aa s σ H _ I h) fun c s1 ⟨H1,I1,q1⟩=>?_)
 cases c with
 |true=>exact⟨H1,I1,q1⟩
 |false=>exact hb wh aa s1 σ H1 Q I1 q1
theorem aLN(ha:PT X a tA):PT X (.UnaryOp .Not a pos) (tNot tA):=by
 intro aa s σ H Q I h
 exact isTrue_not (ha aa s σ H (fun c H1=>Q (!c) H1) I h)
noncomputable def tAndV(ta tb:TE):TE:=fun σ H Q=>ta σ H fun x H1=>∃c,x=.bl c/\if c=true then tb σ H1 Q else Q (.bl false) H1
noncomputable def tNotV(ta:TE):TE:=fun σ H Q=>ta σ H fun x H1=>∃c,x=.bl c/\Q (.bl (!c)) H1
theorem aLy{op}{t:TE}(h:PE X a t):PE X (.BoolOp op [a] pos) t:=fun aa s σ H Q I hw=>BoolOp_one (h aa s σ H Q I hw)
theorem aMC(ha:PE X a ta)(hb:PE X (.BoolOp .And (b::rest) pos) tb):PE X (.BoolOp .And (a::b::rest) pos) (tAndV ta tb):=by
 intro aa s σ H Q I h
 refine BoolOp_and (thn (ha aa s σ H _ I h) fun v s1 zz=>?_)
 obtain⟨x,H1,I1,r1,q1⟩:=zz;obtain⟨c,rfl,q1⟩:=q1;cases r1
 refine wpAny_truthy_bool ?_
 cases c with
 |true=>exact hb aa s1 σ H1 Q I1 q1
 |false=>exact⟨.bl false,H1,I1,rfl,q1⟩
theorem aMt(ha:PE X a ta):PE X (.UnaryOp .Not a pos) (tNotV ta):=by
 intro aa s σ H Q I h
 refine UnaryOp_ (thn (ha aa s σ H _ I h) fun v s1 zz=>?_)
 obtain⟨x,H1,I1,r1,q1⟩:=zz;obtain⟨c,rfl,q1⟩:=q1;cases r1
 exact not_of (wpAny_truthy_bool ⟨.bl (!c),H1,I1,rfl,q1⟩)
noncomputable def tIf(t:TT)(ta tb:TE):TE:=fun σ H Q=>t σ H fun c H1=>if c=true then ta σ H1 Q else tb σ H1 Q
theorem aGz{c:Expr}(hc:PT X c tA)(ha:PE X a ta)(hb:PE X b tb):PE X (.IfExp c a b pos) (tIf tA ta tb):=by
 intro aa s σ H Q I h
 refine wpAny_IfExp (thn (hc aa s σ H _ I h) fun d s1 ⟨H1,I1,q1⟩=>?_)
 cases d with
 |true=>exact ha aa s1 σ H1 Q I1 q1
 |false=>exact hb aa s1 σ H1 Q I1 q1
end
variable{x:V}{u:Value}
def SqL(K:aO)(H:Hp)(a:Addr)(xs:List V):Prop:=
 Rd H a (.lst xs)\/
  ∃(o:Obj)(its:Array Value)(n:Nat),K.lookup a=some o/\o.cls=.type "list"/\o.dict=none/\o.data=.seq its n/\its.size<=sizeLine/\Vals xs its.toList
def SqT(K:aO)(H:Hp)(a:Addr)(xs:List V):Prop:=
 Rd H a (.tup xs)\/
  ∃(o:Obj)(its:Array Value)(n:Nat),K.lookup a=some o/\o.cls=.type "tuple"/\o.data=.seq its n/\its.size<=sizeLine/\Vals xs its.toList
noncomputable def absV:Value->Option V
 | .none=>some .non
 | .bool b=>some (.bl b)
 | .int i _=>some (.int i)
 | .str x _=>some (.str x)
 | .bytes b _=>some (.byt b)
 | .float b _=>some (.flt b)
 | .ref a=>some (.ref a)
 | .type n=>some (.ty n)
 |_=>none
theorem RelV.abs(r:RelV x u):absV u=some x:=by
 cases x with
 |non=>cases r;rfl
 |bl _=>cases r;rfl
 |int _=>obtain⟨t,rfl⟩:=r;rfl
 |str _=>obtain⟨t,rfl⟩:=r;rfl
 |byt _=>obtain⟨t,rfl⟩:=r;rfl
 |flt _=>obtain⟨t,rfl⟩:=r;rfl
 |ref _=>cases r;rfl
 |ty _=>cases r;rfl
theorem RelV.inj{y:V}(r:RelV x u)(q:RelV y u):x=y:=cH.inj (r.abs.symm.trans q.abs)
theorem Vals.inj:∀{xs ys:List V}{us:List Value},Vals xs us->Vals ys us->xs=ys
 |_,_,_,.nil,.nil=>rfl
 |_,_,_,.cons r t,.cons r' t'=>by rw[r.inj r',Vals.inj t t']
section
variable {X:Cx}{aa:List (Addr×Obj)}{σ:St}{H:Hp}{s:Shared}{a:Addr}{xs ys:List V}
variable{K:aO}
theorem SqL.of(h:H a=some (.lst xs)):SqL K H a xs:=.inl (.inl h)
theorem SqT.of(h:H a=some (.tup xs)):SqT K H a xs:=.inl (.inl h)
theorem Inv.list(I:Inv X aa σ H s)(h:SqL X.K H a xs):∃its:List Value,Vals xs its/\PlainL s.heap a its.toArray/\xs.length<=sizeLine:=by
 rcases h with h| ⟨o,its,n,hk,hc,hd,hs,hz,r⟩
 ·obtain⟨z,its,n,r,e⟩:=h.ok I.hok
  exact⟨its,r,⟨_,n,e,rfl,rfl,rfl⟩,z⟩
 ·refine⟨its.toList,r,⟨o,n,I.kIn a o hk,hc,hd,by simpa using hs⟩,?_⟩
  have e:=r.length;simp only[b6]at e
  lia
theorem Inv.tuple(I:Inv X aa σ H s)(h:SqT X.K H a xs):∃its:List Value,Vals xs its/\IsTup s.heap a its.toArray/\xs.length<=sizeLine:=by
 rcases h with h| ⟨o,its,n,hk,hc,hs,hz,r⟩
 ·obtain⟨z,its,r,p⟩:=h.ok I.hok
  exact⟨its,r,p,z⟩
 ·refine⟨its.toList,r,⟨o,I.kIn a o hk,hc,n,by simpa using hs⟩,?_⟩
  have e:=r.length;simp only[b6]at e
  lia
theorem Inv.list_inj(I:Inv X aa σ H s)(h:SqL X.K H a xs)(h':SqL X.K H a ys):xs=ys:=by
 obtain⟨its,r,⟨o,n,e,_,_,d⟩,_⟩:=I.list h;obtain⟨its',r',⟨o',n',e',_,_,d'⟩,_⟩:=I.list h';rw[e]at e';cases e';rw[d]at d';injection d' with d1 _
 have:its=its':=by simpa using congrArg Array.toList d1
 subst this
 exact r.inj r'
end
noncomputable abbrev Cx.wish(X:Cx)(E:Value->Shared->Prop):Cx:={X with xe:=E}
abbrev Cx.nox(X:Cx):Cx:=X.wish fun _ _=>False
theorem Cx.Ok.wish{X:Cx}(ok:X.Ok)(E:Value->Shared->Prop):(X.wish E).Ok:=
 ⟨ok.mod,ok.kind,ok.glob,ok.blt,ok.above,ok.inj,ok.has,ok.cab,ok.hd,ok.frames,ok.stk,ok.exf,ok.bs,ok.bsz,ok.noex,ok.exfs,ok.funs,ok.frf⟩
theorem Cx.Ok.unwish{X:Cx}{E:Value->Shared->Prop}(ok:(X.wish E).Ok):X.Ok:=
 ⟨ok.mod,ok.kind,ok.glob,ok.blt,ok.above,ok.inj,ok.has,ok.cab,ok.hd,ok.frames,ok.stk,ok.exf,ok.bs,ok.bsz,ok.noex,ok.exfs,ok.funs,ok.frf⟩
section
variable {X:Cx}{aa:List (Addr×Obj)}{σ:St}{H:Hp}{s:Shared}{E:Value->Shared->Prop}
theorem Inv.wish(I:Inv X aa σ H s)(E:Value->Shared->Prop):Inv (X.wish E) aa σ H s:=⟨I.ok.wish E,I.os,I.bare,I.base,I.loc,I.cell,I.free,I.freeC,I.pin,I.hok,I.len⟩
theorem Inv.unwish(I:Inv (X.wish E) aa σ H s):Inv X aa σ H s:=⟨I.ok.unwish,I.os,I.bare,I.base,I.loc,I.cell,I.free,I.freeC,I.pin,I.hok,I.len⟩
theorem SP.unwish{D:Ends}{f:Flow}{s':Shared}(h:SP (X.wish E) aa D f s'):SP X aa D f s':=by
 cases f with
 |next=>obtain⟨ai,H',I,q⟩:=h;exact⟨ai,H',I.unwish,q⟩
 |brk=>obtain⟨ai,H',I,q⟩:=h;exact⟨ai,H',I.unwish,q⟩
 |cont=>obtain⟨ai,H',I,q⟩:=h;exact⟨ai,H',I.unwish,q⟩
 |ret u=>obtain⟨v,ai,H',I,r,q⟩:=h;exact⟨v,ai,H',I.unwish,r,q⟩
theorem PSs.nox{st:List Stmt}{t:TS}(h:PSs X.nox st t):PSs X st t:=fun aa s σ H D I hw=>
 wpAny_mono (h aa s σ H D (I.wish _) hw) (fun _ _ q=>q.unwish) fun _ _ z=>False.elim z
end
section
variable {X:Cx}{st:Stmt}{rest:List Stmt}{t u:TS}{e:Expr}{te:TE}{pos:Pos}
noncomputable def aH5:TS:=fun D σ H=>D.nx σ H
noncomputable def tSeq(t u:TS):TS:=fun D σ H=>t {D with nx:=u D} σ H
theorem aJ4:PSs X [] aH5:=fun _ _ σ H _ I h=>wpAny_execs_nil ⟨σ,H,I,h⟩
theorem aH6(h1:PS X st t)(h2:PSs X rest u):PSs X (st::rest) (tSeq t u):=by
 intro aa s σ H D I h
 refine wpAny_execs_cons (thn (h1 aa s σ H {D with nx:=u D} I h) fun f s1 q=>?_)
 cases f with
 |next=>
  obtain⟨ai,H',I',q⟩:=q
  exact h2 aa s1 ai H' D I' q
 |ret v=>exact q
 |brk=>exact q
 |cont=>exact q
theorem aKz(h1:PS X st t):PSs X [st] t:=by
 intro aa s σ H D I h
 refine wpAny_execs_cons (thn (h1 aa s σ H D I h) fun f s1 q=>?_)
 cases f with
 |next=>exact wpAny_execs_nil q
 |ret v=>exact q
 |brk=>exact q
 |cont=>exact q
theorem aJA:PS X (.Pass pos) aH5:=fun _ _ σ H _ I h=>wpAny_Pass ⟨σ,H,I,h⟩
theorem Inv.quiet{aa:List (Addr×Obj)}{σ:St}{H:Hp}{s:Shared}(I:Inv X aa σ H s):interactive X.env=false:=by simp[interactive,I.ok.kind]
noncomputable def aGB(te:TE):TS:=fun D σ H=>te σ H fun _ H1=>D.nx σ H1
theorem aAC(he:PE X e te)(hs:swapsWith e none pos.line X.env=pure false:=by rfl):PS X (.Expr e pos) (aGB te):=by
 intro aa s σ H D I h
 exact wpAny_Expr_any (thn (he aa s σ H _ I h) fun v s1 ⟨x,H1,I1,r1,q1⟩=>⟨σ,H1,I1,q1⟩) I.quiet hs
def tRet(te:TE):TS:=fun D σ H=>te σ H D.rt
theorem aLA(he:PE X e te):PS X (.Return (some e) pos) (tRet te):=by
 intro aa s σ H D I h
 exact wpAny_Return_some (thn (he aa s σ H _ I h) fun v s1 ⟨x,H1,I1,r1,q1⟩=>⟨x,σ,H1,I1,r1,q1⟩)
noncomputable def tIfS(c:TT)(t u:TS):TS:=fun D σ H=>c σ H fun b H1=>if b=true then t D σ H1 else u D σ H1
theorem aNn{c:Expr}{a b:List Stmt}{tc:TT}(hc:PT X c tc)(ha:PSs X a t)(hb:PSs X b u):PS X (.If c a b pos) (tIfS tc t u):=by
 intro aa s σ H D I h
 refine wpAny_If (thn (hc aa s σ H _ I h) fun d s1 ⟨H1,I1,q1⟩=>?_)
 cases d with
 |true=>exact ha aa s1 σ H1 D I1 q1
 |false=>exact hb aa s1 σ H1 D I1 q1
end
abbrev TG:=V->St->Hp->(St->Hp->Prop)->Prop
abbrev TGs:=List V->St->Hp->(St->Hp->Prop)->Prop
def PG(X:Cx)(target:Expr)(t:TG):Prop:=
 ∀(aa:List (Addr×Obj))(s:Shared)(σ:St)(H:Hp)(v:V)(u:Value)(Q:St->Hp->Prop),Inv X aa σ H s->RelV v u->t v σ H Q->
  wpAny (model X.prog X.w) X.A (assign target X.env u) (fun _ s'=>∃ai H',Inv X aa ai H' s'/\Q ai H') X.xe s
def PGs(X:Cx)(ts:List Expr)(t:TGs):Prop:=
 ∀(aa:List (Addr×Obj))(s:Shared)(σ:St)(H:Hp)(vs:List V)(us:List Value)(Q:St->Hp->Prop),Inv X aa σ H s->Vals vs us->t vs σ H Q->
  wpAny (model X.prog X.w) X.A (assignInOrder ((assignEach ts X.env).map (·.2)) us) (fun _ s'=>∃ai H',Inv X aa ai H' s'/\Q ai H') X.xe s
abbrev aIb:=V->V->V->Hp->(Hp->Prop)->Prop
def aLo(X:Cx)(t:aIb):Prop:=
 ∀(aa:List (Addr×Obj))(s:Shared)(σ:St)(H:Hp)(o i v:V)(ov iv u:Value)(Q:Hp->Prop),Inv X aa σ H s->RelV o ov->RelV i iv->RelV v u->t o i v H Q->
  wpAny (model X.prog X.w) X.A (setItem ov iv u) (fun _ s'=>∃H',Inv X aa σ H' s'/\Q H') X.xe s
abbrev TIp:=V->V->Hp->VK->Prop
def PIp(X:Cx)(op:Operator)(t:TIp):Prop:=
 ∀(aa:List (Addr×Obj))(s:Shared)(σ:St)(H:Hp)(x y:V)(v u:Value)(Q:VK),Inv X aa σ H s->RelV x v->RelV y u->t x y H Q->
  wpAny (model X.prog X.w) X.A (inplaceOp op v u) (EP X aa σ Q) X.xe s
section
variable {X:Cx}{pos:Pos}
variable{i e:Expr}{es:List Expr}{to ti te:TE}
noncomputable def r6(i:Nat):TG:=fun v σ H Q=>Q (σ.set i (some v)) H
theorem aDu{i:Nat}{x:Str}(hN:X.N.Nodup)(hi:X.N[i]?=some x)(hx:Loc X.env.scope x)(hf:X.fn x=true\/X.env.scope.names.lookup x=some .local:=by first|exact .inl rfl|exact .inr rfl|assumption):PG X (.Name x pos) (r6 i):=by
 intro aa s σ H v u Q I r h
 exact wpAny_assign_Name (aBt I hN hi hx r (fun s' I'=>⟨_,H,I',h⟩) hf)
noncomputable def aJt:TGs:=fun vs σ H Q=>vs=[]/\Q σ H
noncomputable def aEf(t:TG)(u:TGs):TGs:=fun vs σ H Q=>∃v r,vs=v::r/\t v σ H fun ai H'=>u r ai H' Q
theorem aKn:PGs X [] aJt:=by
 intro aa s σ H vs us Q I r h;obtain⟨e,h⟩:=h;subst e;cases r
 exact assignInOrder_nil ⟨σ,H,I,h⟩
theorem aHW{t:TG}{u:TGs}(h1:PG X e t)(h2:PGs X es u)
 (hs:(assignEach (e::es) X.env).map (·.2)=assign e X.env::(assignEach es X.env).map (·.2):=by rfl):PGs X (e::es) (aEf t u):=by
 intro aa s σ H vs us Q I r h;obtain⟨v,vr,e1,h⟩:=h;subst e1;cases r with
 |cons r rr=>
  rw[hs]
  refine assignInOrder_cons (thn (h1 aa s σ H _ _ _ I r h) fun _ s1 zz=>?_)
  obtain⟨cw,H1,I1,q1⟩:=zz
  exact h2 aa s1 cw H1 _ _ Q I1 rr q1
noncomputable def gTup(K:aO)(n:Nat)(t:TGs):TG:=fun v σ H Q=>∃a xs,v=.ref a/\SqT K H a xs/\xs.length=n/\t xs σ H Q
theorem aMP{k:Nat}{t:TGs}{n:Nat}(hc:X.calm=true)(h:PGs X es t)
 (hn:(assignEach es X.env).length=n:=by rfl)(bi:(assignEach es X.env).findIdx? (·.1)=none:=by rfl):PG X (.Tuple es k pos) (gTup X.K n t):=by
 intro aa s σ H v u Q I r hw;obtain⟨a,xs,e1,hq,hl,hw⟩:=hw;subst e1;cases r;obtain⟨its,rv,ht,hz⟩:=I.tuple hq
 refine assign_Tuple_tuple (I.ok.hd hc) ht (by simp[hn,<-hl,rv.length]) bi fun h' hx=>?_
 have I1:Inv X aa σ H {s with heap:=h'}:=I.kept (t':=s.toks) fun b o e=>hx b o (bV (Heap.lt_size e)) e
 exact h aa _ σ H xs _ Q I1 (by simpa using rv) hw
noncomputable def gSub(to ti:TE)(t:aIb):TG:=fun v σ H Q=>to σ H fun o H1=>ti σ H1 fun i H2=>t o i v H2 fun H3=>Q σ H3
theorem aMY{o:Expr}{t:aIb}(ho:PE X o to)(hi:PE X i ti)(hs:aLo X t)
 (ha:∀v,assign (.Subscript o i pos) X.env v=(do
  let ov<-holding [v] (eval o X.env)
  let iv<-holding [v,ov] (eval i X.env)
  standAt pos
  holding [v,ov,iv] (setItem ov iv v)
  release [v,ov,iv] []):=by intro _;rfl):PG X (.Subscript o i pos) (gSub to ti t):=by
 intro aa s σ H v u Q I r h;rw[ha]
 refine wpAny_bind (wpAny_holding (thn (ho aa s σ H _ I h) fun ov s1 zz=>?_))
 obtain⟨x,H1,I1,r1,q1⟩:=zz
 refine wpAny_bind (wpAny_holding (thn (hi aa s1 σ H1 _ I1 q1) fun iv s2 zz=>?_))
 obtain⟨y,H2,I2,r2,q2⟩:=zz
 refine wpAny_bind (wpAny_standAt (wpAny_bind (wpAny_holding (thn (hs aa s2 σ H2 x y v ov iv u _ I2 r1 r2 r q2) fun _ s3 ⟨H3,I3,q3⟩=>?_))))
 exact wpAny_release ⟨σ,H3,I3,q3⟩
noncomputable def aDd(te:TE)(g:TG):TS:=fun D σ H=>te σ H fun x H1=>g x σ H1 D.nx
theorem aGu{tg:Expr}{g:TG}(he:PE X e te)(hg:PG X tg g)(hs:swapsWithSole [tg] e pos.line X.env=pure false:=by rfl)(hw:swappedStores [tg] e X.env=pure none:=by rfl)
 (h1:(assignEach [tg] X.env).map (·.2)=[assign tg X.env]:=by rfl):PS X (.Assign [tg] e pos) (aDd te g):=by
 intro aa s σ H D I h
 refine wpAny_Assign_stores (thn (he aa s σ H _ I h) fun v s1 ⟨x,H1,I1,r1,q1⟩=>?_) hs hw
 rw[h1]
 exact thn (hg aa s1 σ H1 x v _ I1 r1 q1) fun _ s2 q=>q
theorem aMf{i:Nat}{x:Str}{aq:Pos}(hN:X.N.Nodup)(hi:X.N[i]?=some x)(hx:Loc X.env.scope x)(he:PE X e te)(hs:swapsWith e (some (.Name x aq)) pos.line X.env=pure false:=by rfl)(hf:X.fn x=true\/X.env.scope.names.lookup x=some .local:=by first|exact .inl rfl|exact .inr rfl|assumption):
 PS X (.Assign [.Name x aq] e pos) (aDd te (r6 i)):=by
 intro aa s σ H D I h
 refine wpAny_Assign_Name (thn (he aa s σ H _ I h) fun v s1 ⟨y,H1,I1,r1,q1⟩=>?_) hs
 exact aBt I1 hN hi hx r1 (fun s2 I2=>⟨_,H1,I2,q1⟩) hf
noncomputable def tAugS(to ti te:TE)(jp:V->V->Hp->VK->Prop)(uo:TIp)(jo:aIb):TS:=fun D σ H=>to σ H fun o H1=>ti σ H1 fun i H2=>jp o i H2 fun x H3=>te σ H3 fun y H4=>uo x y H4 fun z H5=>jo o i z H5 fun H6=>D.nx σ H6
def PGet(X:Cx)(t:V->V->Hp->VK->Prop):Prop:=
 ∀(aa:List (Addr×Obj))(s:Shared)(σ:St)(H:Hp)(o i:V)(ov iv:Value)(Q:VK),Inv X aa σ H s->RelV o ov->RelV i iv->t o i H Q->
  wpAny (model X.prog X.w) X.A (getItem ov iv) (EP X aa σ Q) X.xe s
theorem aI0{o:Expr}{jp:V->V->Hp->VK->Prop}{uo:TIp}{jo:aIb}{op:Operator}{aw:Pos}(ho:PE X o to)(hi:PE X i ti)(hg:PGet X jp)(he:PE X e te)(hp:PIp X op uo)(hs:aLo X jo)
 (ha:∀ov iv new,augStore i ov iv new=(do holding [new,ov,iv] (setItem ov iv new);release [new,ov,iv] [];pure .next):=by intros;rfl):PS X (.AugAssign (.Subscript o i aw) op e pos) (tAugS to ti te jp uo jo):=by
 intro aa s σ H D I h
 refine wpAny_AugAssign_SubscriptAny (thn (ho aa s σ H _ I h) fun ov s1 ⟨x1,H1,I1,r1,q1⟩=>?_) ha
 refine thn (hi aa s1 σ H1 _ I1 q1) fun iv s2 zz=>?_
 obtain⟨x2,H2,I2,r2,q2⟩:=zz
 refine thn (hg aa s2 σ H2 x1 x2 ov iv _ I2 r1 r2 q2) fun old s3 zz=>?_
 obtain⟨x3,H3,I3,r3,q3⟩:=zz
 refine thn (he aa s3 σ H3 _ I3 q3) fun v s4 zz=>?_
 obtain⟨x4,H4,I4,r4,q4⟩:=zz
 refine thn (hp aa s4 σ H4 x3 x4 old v _ I4 r3 r4 q4) fun new s5 zz=>?_
 obtain⟨x5,H5,I5,r5,q5⟩:=zz
 exact thn (hs aa s5 σ H5 x1 x2 x5 ov iv new _ I5 r1 r2 r5 q5) fun _ s6 ⟨H6,I6,q6⟩=>⟨σ,H6,I6,q6⟩
noncomputable def ipI(f:Int->Int->Int):TIp:=fun x y H Q=>∃i j,x=.int i/\y=.int j/\Q (.int (f i j)) H
theorem aLv:PIp X .Add (ipI fun i j=>i+j):=by
 intro aa s σ H x y v u Q I r1 r2 h;obtain⟨i,j,e1,e2,q⟩:=h;subst e1;subst e2;obtain⟨t,rfl⟩:=r1;obtain⟨t',rfl⟩:=r2
 exact iadd_int ⟨.int _,H,I.tok _,⟨_,rfl⟩,q⟩
end
section
variable {X:Cx}{pos:Pos}
def tWhile(c:TT)(tb:TS):TS:=fun D σ H=>∃W:Nat->St->Hp->Prop,(∃m,W m σ H)/\∀m σ H,W m σ H->
 c σ H fun b H1=>if b=true then∃N:St->Hp->Prop,(∀ai H',N ai H'->∃m',m'<m/\W m' ai H')/\tb {D with nx:=N,ct:=N,bk:=D.nx} σ H1 else D.nx σ H1
theorem aFU{c:Expr}{body:List Stmt}{tc:TT}{tb:TS}(hp:PassesOwn (model X.prog X.w) X.A X.env X.xe)(hc:PT X c tc)(hb:PSs X body tb):PS X (.While c body [] pos) (tWhile tc tb):=by
 intro aa s σ H D I h;obtain⟨W,⟨m0,w0⟩,turn⟩:=h
 refine wpAny_While (codeAny_whileLoop (fun n s'=>∃ai H',Inv X aa ai H' s'/\W n ai H') ?_ m0 ⟨σ,H,I,w0⟩)
 rintro n s1 ⟨cw,H1,I1,w1⟩
 refine wpAny_passesOwn hp (thn (hc aa s1 cw H1 _ I1 (turn n cw H1 w1)) fun b s2 ⟨H2,I2,q2⟩=>?_)
 cases b with
 |true=>
  obtain⟨N,hN,q2⟩:=q2;rw[if_pos rfl]
  refine wpAny_passesOwn hp (thn (hb aa s2 cw H2 _ I2 q2) fun f s3 q3=>?_)
  cases f with
  |next=>
   obtain⟨cj,H3,I3,n3⟩:=q3;obtain⟨m',hm,w3⟩:=hN cj H3 n3
   exact⟨m',hm,cj,H3,I3,w3⟩
  |cont=>
   obtain⟨cj,H3,I3,n3⟩:=q3;obtain⟨m',hm,w3⟩:=hN cj H3 n3
   exact⟨m',hm,cj,H3,I3,w3⟩
  |brk=>exact q3
  |ret v=>exact q3
 |false=>
  rw[if_neg bY]
  exact wpAny_execs_nil ⟨cw,H2,I2,q2⟩
end
variable{s:Shared}{tg:Expr}{P:Program}{w:World}{K:aO}
structure It where
 go:Nat->Hp->Prop
 yld:Nat->Hp->V->Hp->Prop
 stop:Nat->Hp->Prop
def tT(X:Cx)(aa:List (Addr×Obj))(H:Hp)(b:Addr):Prop:=
 H b=none/\b≠X.env.locals/\b∉X.fs/\(b∈X.ex\/X.s₀.heap.objs.size<=b)/\(∀x c,X.env.cells.lookup x=some c->c≠b)/\∀p∈X.pn++aa,p.1≠b
theorem Inv.fpOk{X:Cx}{aa:List (Addr×Obj)}{σ:St}{H H':Hp}{b:Addr}(I:Inv X aa σ H s)(hb:s.heap.objs.size<=b)(hn:H' b=none):tT X aa H' b:=by
 refine⟨hn,Nat.ne_of_gt (bP I.lt hb),I.nofs hb,.inr (cB I.sz hb),fun x c e z=>?_,fun p hp z=>?_⟩
 ·obtain⟨v,q⟩:=I.cell x c e
  exact absurd (bP q.lt (by rw[z];exact hb)) (cU _)
 ·exact absurd (bP (Heap.lt_size (I.pin p hp).1) (by rw[z];exact hb)) (cU _)
structure Turn(P:Program)(w:World)(K:aO)(tg:Expr)(J:It)(fp:List Addr)(it:Addr)(tn:Nat->Heap->Prop):Prop where
 mem:it∈fp
 obj:∀i h,tn i h->∀b∈fp,∃o,h.get? b=some o/\∀v,o.data≠ .cell v
 keep:∀i h h',tn i h->(∀b∈fp,∀o,h.get? b=some o->h'.get? b=some o)->tn i h'
 item:∀(X:Cx),X.prog=P->X.w=w->X.K=K->X.calm=true->∀(i:Nat)(aa:List (Addr×Obj))(s:Shared)(σ:St)(H:Hp)(E:Value->Shared->Prop),Inv X aa σ H s->(∀b∈fp,tT X aa H b)->tn i s.heap->J.go i H->
  wpAny (model P w) X.A (pyNext (.ref it)) (fun r s1=>∃u,r=some u/\
   wpAny (model P w) X.A (letOwnedTupleGo tg (.ref it) u) (fun _ s2=>∃x H',Inv X aa σ H' s2/\RelV x u/\J.yld i H x H'/\tn (i+1) s2.heap/\∀b∈fp,H' b=none) E s1) E s
 done:∀(X:Cx),X.prog=P->X.w=w->X.K=K->X.calm=true->∀(i:Nat)(aa:List (Addr×Obj))(s:Shared)(σ:St)(H:Hp)(E:Value->Shared->Prop),Inv X aa σ H s->(∀b∈fp,tT X aa H b)->tn i s.heap->J.stop i H->
  wpAny (model P w) X.A (pyNext (.ref it)) (fun r s1=>r=none/\Inv X aa σ H s1) E s
 self:∀(A:Around)(i:Nat)(s:Shared)(Q:Value->Shared->Prop)(E:Value->Shared->Prop),tn i s.heap->Q (.ref it) s->wpAny (model P w) A (pyIter (.ref it)) Q E s
abbrev TI:=St->Hp->(It->Hp->Prop)->Prop
def PIE(X:Cx)(aa:List (Addr×Obj))(σ:St)(tg:Expr)(R:It->Hp->Prop)(uy:Value)(s2:Shared):Prop:=
 ∃(it:Addr)(fp:List Addr)(tn:Nat->Heap->Prop)(J:It)(H':Hp),uy=.ref it/\Inv X aa σ H' s2/\Turn X.prog X.w X.K tg J fp it tn/\tn 0 s2.heap/\(∀b∈fp,tT X aa H' b)/\R J H'
def PI(X:Cx)(tg iter:Expr)(wi:TI):Prop:=
 ∀(aa:List (Addr×Obj))(s:Shared)(σ:St)(H:Hp)(R:It->Hp->Prop),Inv X aa σ H s->wi σ H R->
  wpAny (model X.prog X.w) X.A (eval iter X.env) (fun v s1=>wpAny (model X.prog X.w) X.A (pyIter v) (PIE X aa σ tg R) X.xe s1) X.xe s
theorem aIj{M:Model}{A:Around}{E:Value->Shared->Prop}{it:Addr}{u:Value}{o:Obj}{n:String}{vs:Array Value}{Q:Unit->Shared->Prop}(ho:s.heap.get? it=some o)(hc:o.cls=.type n)(hd:o.data=.fields vs)
 (hn:["enumerate","zip","dict_itemiterator","dict_reverseitemiterator","odict_iterator","itertools.zip_longest","itertools.pairwise"].contains n=false)(hQ:Q () s):wpAny M A (letOwnedTupleGo tg (.ref it) u) Q E s:=by
 unfold letOwnedTupleGo;cases tg<;>first
  |exact wpAny_pure hQ
  | (cases u<;>first
   |exact wpAny_pure hQ
   | (refine wpAny_bind (wpAny_load ho ?_)
      rw[hc,hd];show wpAny M A (if(["enumerate","zip","dict_itemiterator","dict_reverseitemiterator","odict_iterator","itertools.zip_longest","itertools.pairwise"].contains n&&vs[0]?==some (rawInt _))=true then _ else _) Q E s;rw[if_neg (by intro h;rw[hn,aPb]at h;cases h)]
      exact wpAny_pure hQ))
noncomputable def Itl(K:aO)(a:Addr):It:=
 ⟨fun i H=>∃xs x,SqL K H a xs/\xs[i]?=some x,fun i H x H'=>H'=H/\∀xs,SqL K H a xs->xs[i]?=some x,fun i H=>∃xs,SqL K H a xs/\xs.length<=i⟩
noncomputable def Itr(lo:Int)(n:Nat):It:=⟨fun i _=>i<n,fun i H x H'=>H'=H/\x=.int (lo+i),fun i _=>n<=i⟩
theorem aFK(a it:Addr):Turn P w K tg (Itl K a) [it] it (fun i h=>h.IsListIter it a i) where
 mem:=by simp
 obj:=fun i h st b hb=>by
  have e:b=it:=by simpa using hb
  subst e;obtain⟨o,e,c,d⟩:=st
  exact⟨o,e,fun v z=>by rw[d]at z;cases z⟩
 keep:=fun i h h' st k=>st.at fun o e=>k it (by simp) o e
 item:=by
  intro X hP hw hK hc i aa s σ H E I hf st hg;subst hP hw hK;obtain⟨xs,x,hq,hx⟩:=hg;obtain⟨its,rv,p,hz⟩:=I.list hq;obtain⟨u,hu,ru⟩:=rv.get hx;obtain⟨f0,f1,f2,f3,f4,f5⟩:=hf it (by simp)
  refine wpAny_pyNext_list_item st p.isList (x:=u) (by simpa using hu) fun h' ax sb=>?_
  have I1:Inv X aa σ H {s with heap:=h'}:=I.turned (t':=s.toks) (fun b o hb e=>(sb.2 b hb).trans e) f0 f1 f3 f4 f5;obtain⟨o,e,c,d⟩:=id ax
  exact⟨u,rfl,aIj (s:={s with heap:=h'}) e c d (by decide) ⟨x,H,I1,ru,⟨rfl,fun ys hy=>by rw[I.list_inj hy hq];exact hx⟩,ax,fun b hb=>(hf b hb).1⟩⟩
 done:=by
  intro X hP hw hK hc i aa s σ H E I hf st hg;subst hP hw hK;obtain⟨xs,hq,hx⟩:=hg;obtain⟨its,rv,p,hz⟩:=I.list hq;obtain⟨f0,f1,f2,f3,f4,f5⟩:=hf it (by simp);have hl:=rv.length
  exact wpAny_pyNext_list_end (I.ok.hd hc) st p.isList (by simp;lia) fun h' eb=>⟨rfl,I.turned (t':=s.toks) (fun b o hb e=>eb b o hb e) f0 f1 f3 f4 f5⟩
 self:=fun _ _ _ _ _ st h=>wpAny_pyIter_listiter st h
theorem aC1(it:Addr)(lo:Int)(n:Nat):Turn P w K tg (Itr lo n) [it] it (fun i h=>IsRangeIter h it (lo+(i:Nat)*1) ((n:Int) - (i:Nat)) 1) where
 mem:=by simp
 obj:=fun i h st b hb=>by
  have e:b=it:=by simpa using hb
  subst e
  exact⟨_,st,fun v z=>by
   have z':Data.fields _=Data.cell v:=z;cases z'⟩
 keep:=fun i h h' st k=>k it (by simp) _ st
 item:=by
  intro X hP hw hK hc i aa s σ H E I hf st hg;subst hP hw hK;obtain⟨f0,f1,f2,f3,f4,f5⟩:=hf it (by simp);have W:=Walks.range (prog:=X.prog) (w:=X.w) (I.ok.hd hc) it lo 1 n
  refine W.item i s _ _ hg st fun v h' tk hv ax kk=>?_
  obtain⟨t,rfl⟩:=hv;have I1:Inv X aa σ H {s with heap:=h',toks:=tk}:=I.turned (fun b o hb e=>kk b o (by simpa using hb) e) f0 f1 f3 f4 f5
  refine⟨_,rfl,aIj (s:={s with heap:=h',toks:=tk}) (n:="range_iterator") ax rfl rfl (by decide) ⟨.int (lo+i),H,I1,⟨t,?_⟩,⟨rfl,rfl⟩,ax,fun b hb=>(hf b hb).1⟩⟩
  rw[aP2]
 done:=by
  intro X hP hw hK hc i aa s σ H E I hf st hg;subst hP hw hK;obtain⟨f0,f1,f2,f3,f4,f5⟩:=hf it (by simp)
  exact wpAny_pyNext_range_end (I.ok.hd hc) st (by have:n<=i:=hg;lia) fun h' eb=>⟨rfl,I.turned (t':=s.toks) (fun b o hb e=>eb b o hb e) f0 f1 f3 f4 f5⟩
 self:=fun _ _ _ _ _ st h=>wpAny_pyIter_rangeiter st h
section
variable {X:Cx}{tg:Expr}
variable{aa:List (Addr×Obj)}{σ:St}{ta:TA}{pos:Pos}{fp:List Addr}{h:Heap}
def aHL(K:aO)(tl:TE):TI:=fun σ H R=>tl σ H fun x H1=>∃a,x=.ref a/\(∃xs,SqL K H1 a xs)/\R (Itl K a) H1
theorem u8{l:Expr}{tl:TE}(hl:PE X l tl):PI X tg l (aHL X.K tl):=by
 intro aa s σ H R I h
 refine thn (hl aa s σ H _ I h) fun v s1 zz=>?_
 obtain⟨x,H1,I1,r1,q1⟩:=zz;obtain⟨a,e,⟨xs,hq⟩,q⟩:=q1;subst e;cases r1;obtain⟨its,rv,p,hz⟩:=I1.list hq
 refine wpAny_pyIter_list p.isList ?_
 refine⟨s1.heap.objs.size,[s1.heap.objs.size],_,_,H1,rfl,I1.kept (t':=s1.toks) fun b o e=>Heap.get?_push_of_some _ e,aFK a _,⟨_,Heap.get?_push_size _ rfl,rfl,rfl⟩,fun b hb=>?_,q⟩
 have e:b=s1.heap.objs.size:=by simpa using hb
 subst e
 exact I1.fpOk (bG _) (I1.hok.fresh (bG _))
theorem aBr{H:Hp}{s:Shared}{R:It->Hp->Prop}{E:Value->Shared->Prop}{lo hi:Int}{t u v:Tok}{tk:Nat}(I:Inv X aa σ H s)(h1: -(2^62)<=lo)(h2:lo<2^62)(h3: -(2^62)<=hi)(h4:hi<2^62)
 (q:R (Itr lo (hi - lo).toNat) H):wpAny (model X.prog X.w) X.A (pyIter (.ref s.heap.objs.size)) (PIE X aa σ tg R) E {s with heap:=s.heap.push {cls:=.type "range",data:=.fields #[.int lo t,.int hi u,.int 1 v]},toks:=tk}:=by
 refine wpAny_pyIter_range (IsRange.new ..) (small_one h1 h2 h3 h4) ?_
 have I1:Inv X aa σ H {s with heap:=s.heap.push {cls:=.type "range",data:=.fields #[.int lo t,.int hi u,.int 1 v]},toks:=tk}:=I.kept fun b o e=>Heap.get?_push_of_some _ e
 refine⟨(s.heap.push {cls:=.type "range",data:=.fields #[.int lo t,.int hi u,.int 1 v]}).objs.size,[(s.heap.push {cls:=.type "range",data:=.fields #[.int lo t,.int hi u,.int 1 v]}).objs.size],_,_,H,rfl,
  I1.kept (t':=tk) fun b o e=>Heap.get?_push_of_some _ e,aC1 _ lo (hi - lo).toNat,?_,fun b hb=>?_,q⟩
 ·have e1:lo+((0:Nat):Int)*1=lo:=by simp
  have e2:(((hi - lo).toNat:Nat):Int) - ((0:Nat):Int)=Builtin.Range.rangeSize lo hi 1:=by rw[rangeSize_one];split<;>lia
  show IsRangeIter _ _ (lo+((0:Nat):Int)*1) ((((hi - lo).toNat:Nat):Int) - ((0:Nat):Int)) 1;rw[e1,e2]
  exact Heap.get?_push_size _ rfl
 ·have e:b=(s.heap.push {cls:=.type "range",data:=.fields #[.int lo t,.int hi u,.int 1 v]}).objs.size:=by simpa using hb
  subst e
  exact I1.fpOk (bG _) (I1.hok.fresh (bG _))
def aG6(ta:TA):TI:=fun σ H R=>ta σ H fun vs H1=>∃j:Int,vs=[.int j]/\ -(2^62)<=j/\j<2^62/\R (Itr 0 j.toNat) H1
def iRng2(ta:TA):TI:=fun σ H R=>ta σ H fun vs H1=>∃i j:Int,vs=[.int i,.int j]/\(-(2^62)<=i/\i<2^62/\ -(2^62)<=j/\j<2^62)/\R (Itr i (j - i).toNat) H1
theorem pR{a:Expr}{p:Pos}(hg:Gl X "range")(hm:X.mg "range"=none)(ha:PA X [a] ta)(hs:starEach [a] X.env=[(false,eval a X.env)]:=by rfl):PI X tg (.Call (.Name "range" p) [a] [] pos) (aG6 ta):=by
 intro aa s σ H R I h
 refine Call_ (oZ I hg hm boot_range (dE (thn (ha pos aa s σ H _ I h) fun us s1 ⟨vs,H1,I1,r1,q1⟩=>?_) hs rfl))
 obtain⟨j,e,q1,q2,q⟩:=q1;subst e;cases r1 with
 |cons r rr=>
  cases rr;obtain⟨t,rfl⟩:=r
  exact call_range_1 (aBr I1 (by lia) (by lia) q1 q2 (by simpa using q))
theorem aEN{a b:Expr}{p:Pos}(hg:Gl X "range")(hm:X.mg "range"=none)(ha:PA X [a,b] ta)(hs:starEach [a,b] X.env=[(false,eval a X.env),(false,eval b X.env)]:=by rfl)(kn:starEach [b] X.env=[(false,eval b X.env)]:=by rfl):
 PI X tg (.Call (.Name "range" p) [a,b] [] pos) (iRng2 ta):=by
 intro aa s σ H R I h
 refine Call_ (oZ I hg hm boot_range (dE (thn (ha pos aa s σ H _ I h) fun us s1 ⟨vs,H1,I1,r1,q1⟩=>?_) (by rw[hs,kn]) (by rw[kn];rfl)))
 obtain⟨i,j,e,⟨q1,q2,q3,q4⟩,q⟩:=q1;subst e;cases r1 with
 |cons r rr=>
  cases rr with
  |cons r' rr=>
   cases rr;obtain⟨t,rfl⟩:=r;obtain⟨t',rfl⟩:=r'
   exact call_range_2 (aBr I1 q1 q2 q3 q4 q)
def aGY(wi:TI)(g:TG)(tb:TS):TS:=fun D σ H=>wi σ H fun J H1=>∃W:Nat->Nat->St->Hp->Prop,(∃m,W 0 m σ H1)/\∀i m σ H,W i m σ H->
 (J.stop i H/\D.nx σ H)\/(J.go i H/\∃N:St->Hp->Prop,(∀ai H',N ai H'->∃m',m'<m/\W (i+1) m' ai H')/\∀x H',J.yld i H x H'->g x σ H' fun bq H2=>tb {D with nx:=N,ct:=N,bk:=D.nx} bq H2)
noncomputable def wX(fp:List Addr)(h:Heap):List (Addr×Obj):=fp.filterMap fun b=>(h.get? b).map fun o=>(b,o)
theorem oC{b:Addr}{o:Obj}(hb:b∈fp)(e:h.get? b=some o):(b,o)∈wX fp h:=aPj.mpr ⟨b,hb,by rw[e];rfl⟩
theorem aEO{p:Addr×Obj}(hp:p∈wX fp h):p.1∈fp/\h.get? p.1=some p.2:=by
 obtain⟨b,hb,e⟩:=aPj.mp hp;cases q:h.get? b with
 |none=>rw[q]at e;cases e
 |some o=>
  rw[q]at e;have e':(b,o)=p:=cH.inj e;subst e'
  exact⟨hb,q⟩
theorem Inv.pinned{H:Hp}{s:Shared}(I:Inv X aa σ H s)(hf:∀b∈fp,tT X aa H b)(ho:∀b∈fp,∃o,s.heap.get? b=some o/\∀v,o.data≠ .cell v):Inv X (aa++wX fp s.heap) σ H s:=
 I.pins_of fun p hp=>(bM.mp hp).elim (fun z=>I.pin p (cD _ z)) fun z=>by
  obtain⟨hb,e⟩:=aEO z;obtain⟨f0,f1,f2,_⟩:=hf p.1 hb;obtain⟨o,e',d⟩:=ho p.1 hb;rw[e]at e';cases e'
  exact⟨e,f0,f1,f2,d⟩
theorem Inv.unpinned{pl:List (Addr×Obj)}{H:Hp}{s:Shared}(I:Inv X (aa++pl) σ H s):Inv X aa σ H s:=I.pins_of fun p hp=>I.pin p (cD _ (aOc _ hp))
theorem aA4{iter:Expr}{body:List Stmt}{wi:TI}{g:TG}{tb:TS}(hp:PassesOwn (model X.prog X.w) X.A X.env X.xe)(hc:X.calm=true)(hi:PI X tg iter wi)(hg:PG X tg g)(hb:PSs X body tb)
 (hs:∀x,foldedSetIterable iter X.env x=pure x:=by intro _;rfl):PS X (.For tg iter body [] pos) (aGY wi g tb):=by
 intro aa s σ H D I h
 refine wpAny_For (thn (hi aa s σ H _ I h) fun v s1 h1=>thn h1 fun uy s2 h2=>?_) hs
 obtain⟨it,fp,tn,J,H2,e,I2,T,kj,f2,W,⟨m0,w0⟩,turn⟩:=h2;subst e;have ff:∀{H':Hp},(∀b∈fp,H' b=none)->∀b∈fp,tT X aa H' b:=fun hn b hb=>⟨hn b hb,(f2 b hb).2⟩
 refine codeAny_forLoop_any (fun n s'=>∃i ai H',Inv X aa ai H' s'/\tn i s'.heap/\(∀b∈fp,H' b=none)/\W i n ai H') ?_ m0 ⟨0,σ,H2,I2,kj,fun b hb=>(f2 b hb).1,w0⟩
 rintro n s3 ⟨i,cj,H3,I3,qi,uf,w3⟩;rcases turn i n cj H3 w3 with⟨stop,qn⟩| ⟨go,N,hN,step⟩
 ·refine wpAny_passesOwn hp (thn (T.done X rfl rfl rfl hc i aa s3 cj H3 X.xe I3 (ff uf) qi stop) fun r s4 ⟨hr,I4⟩=>?_)
  subst hr
  exact wpAny_execs_nil ⟨cj,H3,I4,qn⟩
 ·refine wpAny_passesOwn hp (thn (T.item X rfl rfl rfl hc i aa s3 cj H3 X.xe I3 (ff uf) qi go) fun r s4 ⟨u,hr,h4⟩=>?_)
  subst hr
  refine wpAny_passesOwn hp (thn h4 fun _ s5 zz=>?_)
  obtain⟨x,H5,I5,r5,y5,ll,zg⟩:=zz;have I5':=I5.pinned (ff zg) (T.obj _ _ ll)
  refine wpAny_passesOwn hp (thn (hg _ s5 cj H5 x u _ I5' r5 (step x H5 y5)) fun _ s6 zz=>?_)
  obtain⟨nc,H6,I6,q6⟩:=zz
  refine wpAny_passesOwn hp (thn (hb _ s6 nc H6 _ I6 q6) fun f s7 q7=>?_)
  have again:∀{du:St}{H7:Hp},Inv X (aa++wX fp s5.heap) du H7 s7->N du H7->∃m,m<n/\∃i ai H',Inv X aa ai H' s7/\tn i s7.heap/\(∀b∈fp,H' b=none)/\W i m ai H':=fun {du H7} I7 n7=>by
   obtain⟨m',hm,w7⟩:=hN du H7 n7
   refine⟨m',hm,i+1,du,H7,I7.unpinned,T.keep _ _ _ ll fun b hb o e=>(I7.pin (b,o) (cD _ (cD _ (oC hb e)))).1,fun b hb=>?_,w7⟩
   obtain⟨o,e,d⟩:=T.obj _ _ ll b hb
   exact(I7.pin (b,o) (cD _ (cD _ (oC hb e)))).2.1
  cases f with
  |next=>obtain⟨du,H7,I7,n7⟩:=q7;exact again I7 n7
  |cont=>obtain⟨du,H7,I7,n7⟩:=q7;exact again I7 n7
  |brk=>obtain⟨du,H7,I7,q7⟩:=q7;exact⟨du,H7,I7.unpinned,q7⟩
  |ret v=>obtain⟨x7,du,H7,I7,r7,q7⟩:=q7;exact⟨x7,du,H7,I7.unpinned,r7,q7⟩
end
abbrev R2:=V->V->Hp->VK->Prop
def OpR(X:Cx)(f:Value->Value->Sem Value)(r:R2):Prop:=
 ∀(aa:List (Addr×Obj))(s:Shared)(σ:St)(H:Hp)(x y:V)(v u:Value)(Q:VK),Inv X aa σ H s->RelV x v->RelV y u->r x y H Q->
  wpAny (model X.prog X.w) X.A (f v u) (EP X aa σ Q) X.xe s
def UnR(X:Cx)(f:Value->Sem Value)(r:V->Hp->VK->Prop):Prop:=
 ∀(aa:List (Addr×Obj))(s:Shared)(σ:St)(H:Hp)(x:V)(v:Value)(Q:VK),Inv X aa σ H s->RelV x v->r x H Q->
  wpAny (model X.prog X.w) X.A (f v) (EP X aa σ Q) X.xe s
def m9(X:Cx)(f:Value)(r:List V->Hp->VK->Prop):Prop:=
 ∀(aa:List (Addr×Obj))(s:Shared)(σ:St)(H:Hp)(xs:List V)(us:List Value)(Q:VK),Inv X aa σ H s->Vals xs us->r xs H Q->
  wpAny (model X.prog X.w) X.A (call f us) (EP X aa σ Q) X.xe s
def TruR(X:Cx)(r:V->Hp->(Bool->Hp->Prop)->Prop):Prop:=
 ∀(aa:List (Addr×Obj))(s:Shared)(σ:St)(H:Hp)(x:V)(v:Value)(Q:Bool->Hp->Prop),Inv X aa σ H s->RelV x v->r x H Q->
  wpAny (model X.prog X.w) X.A (truthy v) (TP X aa σ Q) X.xe s
noncomputable def tOp(r:R2)(ta tb:TE):TE:=fun σ H Q=>ta σ H fun x H1=>tb σ H1 fun y H2=>r x y H2 Q
noncomputable def tUn(r:V->Hp->VK->Prop)(ta:TE):TE:=fun σ H Q=>ta σ H fun x H1=>r x H1 Q
noncomputable def rI(C:Int->Int->Prop)(g:Int->Int->V):R2:=fun x y H Q=>∃i j,x=.int i/\y=.int j/\C i j/\Q (g i j) H
noncomputable def rI0(g:Int->Int->V):R2:=fun x y H Q=>∃i j,x=.int i/\y=.int j/\Q (g i j) H
def rU(g:Int->V):V->Hp->VK->Prop:=fun x H Q=>∃i,x=.int i/\Q (g i) H
section
variable {X:Cx}{a b c:Expr}{ta tb tc:TE}{pos:Pos}
variable{f:Value->Value->Sem Value}{g:Int->Int->Int}
theorem aLW(ha:PE X a ta)(hb:PE X b tb){aa:List (Addr×Obj)}{s:Shared}{σ:St}{H:Hp}{R:V->V->Hp->Prop}(I:Inv X aa σ H s)
 (h:ta σ H fun x H1=>tb σ H1 fun y H2=>R x y H2){Q:Value->Shared->Prop}
 (hf:∀v u s2 x y H2,Inv X aa σ H2 s2->RelV x v->RelV y u->R x y H2->wpAny (model X.prog X.w) X.A (f v u) Q X.xe s2):
 wpAny (model X.prog X.w) X.A (eval a X.env) (fun v aj=>wpAny (model X.prog X.w) X.A (eval b X.env) (fun u bz=>wpAny (model X.prog X.w) X.A (f v u) Q X.xe bz) X.xe aj) X.xe s:=by
 refine thn (ha aa s σ H _ I h) fun v s1 zz=>?_
 obtain⟨x,H1,I1,r1,q1⟩:=zz
 refine thn (hb aa s1 σ H1 _ I1 q1) fun u s2 zz=>?_
 obtain⟨y,H2,I2,r2,q2⟩:=zz
 exact hf v u s2 x y H2 I2 r1 r2 q2
theorem t6{op:Operator}{r:R2}(ho:OpR X (binaryOp op) r)(ha:PE X a ta)(hb:PE X b tb):PE X (.BinOp a op b pos) (tOp r ta tb):=by
 intro aa s σ H Q I h
 exact wpAny_BinOp (aLW ha hb I h fun v u s2 x y H2 I2 rx ry q=>ho aa s2 σ H2 x y v u Q I2 rx ry q)
theorem aNR{op:UnaryOp}{r:V->Hp->VK->Prop}(ho:UnR X (unaryOp op) r)(ha:PE X a ta):PE X (.UnaryOp op a pos) (tUn r ta):=by
 intro aa s σ H Q I h
 exact UnaryOp_ (thn (ha aa s σ H _ I h) fun v s1 ⟨x,H1,I1,r1,q1⟩=>ho aa s1 σ H1 x v Q I1 r1 q1)
theorem opI{C:Int->Int->Prop}
 (rule:∀(i j:Int)(t u:Tok)(s:Shared)(Q:Value->Shared->Prop)(E:Value->Shared->Prop),C i j->Q (.int (g i j) s.toks) {s with toks:=s.toks+1}->wpAny (model X.prog X.w) X.A (f (.int i t) (.int j u)) Q E s):
 OpR X f (rI C fun i j=>.int (g i j)):=by
 intro aa s σ H x y v u Q I rx ry h;obtain⟨i,j,rfl,rfl,hc,q⟩:=h;obtain⟨t,rfl⟩:=rx;obtain⟨t',rfl⟩:=ry
 exact rule i j t t' s _ _ hc ⟨.int (g i j),H,I.tok _,⟨_,rfl⟩,q⟩
theorem opI0
 (rule:∀(i j:Int)(t u:Tok)(s:Shared)(Q:Value->Shared->Prop)(E:Value->Shared->Prop),Q (.int (g i j) s.toks) {s with toks:=s.toks+1}->wpAny (model X.prog X.w) X.A (f (.int i t) (.int j u)) Q E s):
 OpR X f (rI0 fun i j=>.int (g i j)):=by
 intro aa s σ H x y v u Q I rx ry h;obtain⟨i,j,rfl,rfl,q⟩:=h;obtain⟨t,rfl⟩:=rx;obtain⟨t',rfl⟩:=ry
 exact rule i j t t' s _ _ ⟨.int (g i j),H,I.tok _,⟨_,rfl⟩,q⟩
theorem aLh{g:Int->Int->Bool}
 (rule:∀(i j:Int)(t u:Tok)(s:Shared)(Q:Value->Shared->Prop)(E:Value->Shared->Prop),Q (.bool (g i j)) s->wpAny (model X.prog X.w) X.A (f (.int i t) (.int j u)) Q E s):
 OpR X f (rI0 fun i j=>.bl (g i j)):=by
 intro aa s σ H x y v u Q I rx ry h;obtain⟨i,j,rfl,rfl,q⟩:=h;obtain⟨t,rfl⟩:=rx;obtain⟨t',rfl⟩:=ry
 exact rule i j t t' s _ _ ⟨.bl (g i j),H,I,rfl,q⟩
def CDiv(i j:Int):Prop:=0<j/\j<1073741824
def CPow(i j:Int):Prop:=0<=j/\j<=1000000/\i.natAbs<2^64
theorem aLz:OpR X (binaryOp .Add) (rI0 fun i j=>.int (i+j)):=opI0 fun _ _ _ _ _ _ _ q=>add_int q
theorem aLP:OpR X (binaryOp .Sub) (rI0 fun i j=>.int (i - j)):=opI0 fun _ _ _ _ _ _ _ q=>sub_int q
theorem aKo:OpR X (binaryOp .FloorDiv) (rI CDiv fun i j=>.int (i/j)):=opI fun i j _ _ _ _ _ hc q=>by
 have h1:(0:Int)<j:=hc.1;have h2:j<1073741824:=hc.2
 exact floordiv_int (by lia) (by rw[aOH i (by lia)];exact q) (.inl (PyProof.noPylong_small (by lia)))
theorem aK5:OpR X (binaryOp .Mod) (rI (fun _ j=>0<j) fun i j=>.int (i%j)):=opI fun i j _ _ _ _ _ hc q=>by
 have h1:(0:Int)<j:=hc
 exact mod_int' (by lia) (by rw[Int.fmod_eq_emod_of_nonneg i (by lia)];exact q)
theorem aLr:OpR X (binaryOp .Pow) (rI CPow fun i j=>.int (i^j.toNat)):=opI fun _ _ _ _ _ _ _ hc q=>pow_int_small hc.1 hc.2.1 hc.2.2 q
theorem unI{f:Value->Sem Value}{g:Int->Int}
 (rule:∀(i:Int)(t:Tok)(s:Shared)(Q:Value->Shared->Prop)(E:Value->Shared->Prop),Q (.int (g i) s.toks) {s with toks:=s.toks+1}->wpAny (model X.prog X.w) X.A (f (.int i t)) Q E s):
 UnR X f (rU fun i=>.int (g i)):=by
 intro aa s σ H x v Q I rx h;obtain⟨i,rfl,q⟩:=h;obtain⟨t,rfl⟩:=rx
 exact rule i t s _ _ ⟨.int (g i),H,I.tok _,⟨_,rfl⟩,q⟩
theorem aMT:UnR X (unaryOp .USub) (rU fun i=>.int (-i)):=unI fun _ _ _ _ _ q=>neg_int q
end
noncomputable def scal:V->V->Bool
 | .non,.non=>true| .non,.int _=>true| .int _,.non=>true| .non,.bl _=>true| .bl _,.non=>true| .non,.str _=>true| .str _,.non=>true
 | .int _,.int _=>true| .bl _,.bl _=>true| .str _,.str _=>true| .byt _,.byt _=>true
 | .int _,.str _=>true| .str _,.int _=>true| .bl _,.str _=>true| .str _,.bl _=>true
 |_,_=>false
def rNe:R2:=fun x y H Q=>scal x y=true/\Q (.bl (!decide (x=y))) H
theorem aDR{i j:Int}:decide (V.int i=V.int j)=(i==j):=by
 rw[eK];simp
theorem aHE{i j:Bool}:decide (V.bl i=V.bl j)=(i==j):=by
 rw[eK];simp
theorem aEy{i j:Str}:decide (V.str i=V.str j)=(i==j):=by
 rw[eK];simp
theorem aKl{i j:Array UInt8}:decide (V.byt i=V.byt j)=(i.toList==j.toList):=by
 rw[eK];cases i;cases j;simp
section
variable {X:Cx}{a b c:Expr}{ta tb tc:TE}{pos:Pos}
variable{op:CmpOp}{r:R2}{us:List Value}
theorem kE{aa:List (Addr×Obj)}{σ:St}{H:Hp}{s:Shared}{Q:VK}{k k':Bool}(I:Inv X aa σ H s)(q:Q (.bl k) H)(e:k=k'):EP X aa σ Q (.bool k') s:=by
 subst e
 exact⟨.bl k,H,I,rfl,q⟩
theorem aGZ:OpR X (compareOp .NotEq) rNe:=by
 intro aa s σ H x y v u Q I rx ry h;obtain⟨hs,q⟩:=h;cases x with
 |non=>
  cases rx;cases y with
  |non=>cases ry;exact PySem.EqNone.ne_none_none (kE I q (by simp))
  |bl j=>cases ry;exact PySem.EqNone.ne_none_bool (kE I q (by simp))
  |int j=>obtain⟨t',rfl⟩:=ry;exact PySem.EqNone.ne_none_int (kE I q (by simp))
  |str j=>obtain⟨t',rfl⟩:=ry;exact PySem.EqNone.ne_none_str (kE I q (by simp))
  |_=>exact absurd (show false=true from hs) bY
 |bl i=>
  cases rx;cases y with
  |non=>cases ry;exact PySem.EqNone.ne_bool_none (kE I q (by simp))
  |bl j=>cases ry;exact ne_bool (kE I q (congrArg not aHE))
  |str j=>obtain⟨t',rfl⟩:=ry;exact PySem.EqMixed.ne_bool_str (kE I q (by simp))
  |_=>exact absurd (show false=true from hs) bY
 |int i=>
  obtain⟨t,rfl⟩:=rx;cases y with
  |non=>cases ry;exact PySem.EqNone.ne_int_none (kE I q (by simp))
  |int j=>obtain⟨t',rfl⟩:=ry;exact ne_int (kE I q (congrArg not aDR))
  |str j=>obtain⟨t',rfl⟩:=ry;exact PySem.EqMixed.ne_int_str (kE I q (by simp))
  |_=>exact absurd (show false=true from hs) bY
 |str i=>
  obtain⟨t,rfl⟩:=rx;cases y with
  |non=>cases ry;exact PySem.EqNone.ne_str_none (kE I q (by simp))
  |bl j=>cases ry;exact PySem.EqMixed.ne_str_bool (kE I q (by simp))
  |int j=>obtain⟨t',rfl⟩:=ry;exact PySem.EqMixed.ne_str_int (kE I q (by simp))
  |str j=>obtain⟨t',rfl⟩:=ry;exact ne_str (kE I q (congrArg not aEy))
  |_=>exact absurd (show false=true from hs) bY
 |byt i=>
  obtain⟨t,rfl⟩:=rx;cases y with
  |byt j=>obtain⟨t',rfl⟩:=ry;exact PySem.W.ne_bytes (kE I q (congrArg not aKl))
  |_=>exact absurd (show false=true from hs) bY
 |_=>cases y<;>exact absurd (show false=true from hs) bY
theorem aGh:OpR X (compareOp .Lt) (rI0 fun i j=>.bl (decide (i<j))):=aLh fun _ _ _ _ _ _ _ q=>lt_int q
theorem aKJ:OpR X (compareOp .LtE) (rI0 fun i j=>.bl (decide (i<=j))):=aLh fun _ _ _ _ _ _ _ q=>le_int q
theorem aKR:OpR X (compareOp .Gt) (rI0 fun i j=>.bl (decide (j<i))):=aLh fun _ _ _ _ _ _ _ q=>gt_int q
theorem aJS:OpR X (compareOp .IsNot) (fun x y H Q=>y=.non/\Q (.bl (!decide (x=.non))) H):=by
 intro aa s σ H x y v u Q I rx ry h;obtain⟨rfl,q⟩:=h;cases ry
 refine isnot_none_gen (kE I q ?_)
 cases x<;>first
  | (cases rx;rfl)
  | (obtain⟨t,rfl⟩:=rx;rfl)
theorem nomark(b:Expr)(h:op≠ .In:=by decide)(h2:op≠ .NotIn:=by decide):behindInMarks op b=false:=by
 have e1:(op==CmpOp.In)=false:=by cases op<;>first|rfl|exact absurd rfl h
 have e2:(op==CmpOp.NotIn)=false:=by cases op<;>first|rfl|exact absurd rfl h2
 cases b<;>simp[behindInMarks,e1,e2]
theorem aKw(ho:OpR X (compareOp op) r)(ha:PE X a ta)(hb:PE X b tb)(hm:behindInMarks op b=false):PE X (.Compare a [op] [b] pos) (tOp r ta tb):=by
 intro aa s σ H Q I h
 exact wpAny_Compare1 (aLW ha hb I h fun v u s2 x y H2 I2 rx ry q=>ho aa s2 σ H2 x y v u Q I2 rx ry q) hm
noncomputable def tTest(t:TE):TT:=fun σ H Q=>t σ H fun x H'=>∃k,x=.bl k/\Q k H'
theorem aJK(ho:OpR X (compareOp op) r)(ha:PE X a ta)(hb:PE X b tb)(hm:behindInMarks op b=false):PT X (.Compare a [op] [b] pos) (tTest (tOp r ta tb)):=by
 intro aa s σ H Q I h
 refine wpAny_isTrue_Compare1 (thn (ha aa s σ H _ I h) fun v s1 ⟨x,H1,I1,r1,q1⟩=>thn (hb aa s1 σ H1 _ I1 q1) fun u s2 ⟨y,H2,I2,r2,q2⟩=>
  thn (ho aa s2 σ H2 x y v u _ I2 r1 r2 q2) fun c s3 ⟨z,H3,I3,r3,k,e,q3⟩=>?_) hm
 subst e;cases r3
 exact wpAny_truthy_bool ⟨H3,I3,q3⟩
noncomputable def tChain(r r':R2)(ta tb tc:TE):TE:=fun σ H Q=>ta σ H fun x H1=>tb σ H1 fun y H2=>r x y H2 fun z H3=>∃k,z=.bl k/\
 (if k=true then tc σ H3 fun w' H4=>r' y w' H4 Q else Q (.bl false) H3)
theorem aHr{wm:CmpOp}{r':R2}(ho:OpR X (compareOp op) r)(ir:OpR X (compareOp wm) r')(ha:PE X a ta)(hb:PE X b tb)(hc:PE X c tc)
 (hm:lastMarks [op,wm] [b,c]=false:=by with_unfolding_all rfl):PE X (.Compare a [op,wm] [b,c] pos) (tChain r r' ta tb tc):=by
 intro aa s σ H Q I h
 refine Compare_chain (thn (ha aa s σ H _ I h) fun v s1 ⟨x,H1,I1,r1,q1⟩=>chain_link (thn (hb aa s1 σ H1 _ I1 q1) fun u s2 ⟨y,H2,I2,r2,q2⟩=>
  thn (ho aa s2 σ H2 x y v u _ I2 r1 r2 q2) fun d s3 ⟨z,H3,I3,r3,k,e,q3⟩=>?_)) hm
 subst e;cases r3
 refine wpAny_truthy_bool ?_
 cases k with
 |false=>exact ite_ff ⟨.bl false,H3,I3,rfl,q3⟩
 |true=>exact ite_tt (chain_last (thn (hc aa s3 σ H3 _ I3 q3) fun w' s4 ⟨z',H4,I4,r4,q4⟩=>ir aa s4 σ H4 y z' u w' Q I4 r2 r4 q4))
def aK1(K:aO)(x:V)(H:Hp)(k:Bool):Prop:=
 match x with
 | .non=>k=false
 | .bl b=>k=b
 | .int i=>k=(i !=0)
 | .str y=>y.length<=sizeLine/\k=((y.length:Int)!=0)
 | .byt y=>y.size<=sizeLine/\k=((y.size:Int)!=0)
 | .ref p=>(∃xs,SqL K H p xs/\k= !xs.isEmpty)\/(∃xs,SqT K H p xs/\k= !xs.isEmpty)\/∃kvs,H p=some (.dK kvs)/\k= !kvs.isEmpty
 |_=>False
theorem aDm{κ:Type}{kvs:List (κ×V)}{vs:List (κ×Value)}(r:KV kvs vs):(!vs.isEmpty)= !kvs.isEmpty:=by
 cases r<;>rfl
theorem xJ{xs:List V}{its:List Value}(r:Vals xs its):(!its.toArray.isEmpty)= !xs.isEmpty:=by
 cases r<;>simp
theorem line63:(sizeLine:Nat)<2^63:=by rw[sizeLine_eq];decide
theorem aMG:TruR X (fun x H Q=>∃k,aK1 X.K x H k/\Q k H):=by
 intro aa s σ H x v Q I rx h;obtain⟨k,e,q⟩:=h;have hl:=line63;have hs:sizeLine=16777216:=sizeLine_eq;cases x with
 |non=>
  cases rx;have e':k=false:=e;subst e'
  exact truthy_none ⟨H,I,q⟩
 |bl b=>
  cases rx;have e':k=b:=e;subst e'
  exact wpAny_truthy_bool ⟨H,I,q⟩
 |int i=>
  obtain⟨t,rfl⟩:=rx;have e':k=(i !=0):=e;subst e'
  exact PySem.P.truthy_int ⟨H,I,q⟩
 |str y=>
  obtain⟨t,rfl⟩:=rx;obtain⟨hy,e'⟩:y.length<=sizeLine/\k=((y.length:Int)!=0):=e;subst e'
  exact PySem.P.truthy_str (by lia) ⟨H,I.tok _,q⟩
 |byt y=>
  obtain⟨t,rfl⟩:=rx;obtain⟨hy,e'⟩:y.size<=sizeLine/\k=((y.size:Int)!=0):=e;subst e'
  exact PySem.W.truthy_bytes (by lia) ⟨H,I.tok _,q⟩
 |ref p=>
  cases rx;have e':(∃xs,SqL X.K H p xs/\k= !xs.isEmpty)\/(∃xs,SqT X.K H p xs/\k= !xs.isEmpty)\/∃kvs,H p=some (.dK kvs)/\k= !kvs.isEmpty:=e;rcases e' with⟨xs,hx,e'⟩| ⟨xs,hx,e'⟩| ⟨kvs,hx,e'⟩
  ·subst e';obtain⟨its,r,pl,hz⟩:=I.list hx;have ah:=r.length
   exact wpAny_truthy_list pl.isList (by simp only[bF];lia) ⟨H,I.tok _,by rw[xJ r];exact q⟩
  ·subst e';obtain⟨its,r,pl,hz⟩:=I.tuple hx;have ah:=r.length
   exact truthy_tuple pl (by simp only[bF];lia) ⟨H,I.tok _,by rw[xJ r];exact q⟩
  ·subst e';obtain⟨hz,hS,vs,r,m⟩:kvs.length<=sizeLine/\(p==sysModules)=false/\∃vs,KV kvs vs/\s.heap.DictOf (iN X.prog X.w) p vs:=I.hok p _ hx;have ah:kvs.length=vs.length:=Paired.length r
   exact wpAny_truthy_dict hS m (by lia) ⟨H,I.tok _,by rw[aDm r];exact q⟩
 |_=>exact(show False from e).elim
theorem aG2(ha:PE X a ta)(he:∀whole,isTrue a X.env whole=(do let v<-whole;standAt a.pos;holding [v] (truthy v))):
 PT X a (fun σ H Q=>ta σ H fun x H'=>∃k,aK1 X.K x H' k/\Q k H'):=by
 intro aa s σ H Q I h
 exact isTrue_plain (thn (ha aa s σ H _ I h) fun v s1 ⟨x,H1,I1,r1,q1⟩=>aMG aa s1 σ H1 x v Q I1 r1 q1) (he _)
theorem vals1{x:V}(r:Vals [x] us):∃u,us=[u]/\RelV x u:=by
 cases r with
 |cons r1 r2=>cases r2;exact⟨_,rfl,r1⟩
theorem vals2{x y:V}(r:Vals [x,y] us):∃u w',us=[u,w']/\RelV x u/\RelV y w':=by
 cases r with
 |cons r1 r2=>
  cases r2 with
  |cons r3 r4=>cases r4;exact⟨_,_,rfl,r1,r3⟩
theorem aFM(hc:X.calm=true):m9 X (.builtin "max") (fun xs H Q=>∃i j,xs=[.int i,.int j]/\Q (.int (if j>i then j else i)) H):=by
 intro aa s σ H xs us Q I r h;obtain⟨i,j,rfl,q⟩:=h;obtain⟨u,w',rfl,⟨t,rfl⟩,⟨t',rfl⟩⟩:=vals2 r
 refine max_two_ints (I.ok.hd hc) fun h' tk k=>⟨_,H,I.kept k,?_,q⟩
 by_cases hj:j>i
 ·rw[if_pos hj,if_pos hj];exact⟨_,rfl⟩
 ·rw[if_neg hj,if_neg hj];exact⟨_,rfl⟩
theorem aFL(hc:X.calm=true):m9 X (.builtin "min") (fun xs H Q=>∃i j,xs=[.int i,.int j]/\Q (.int (if j<i then j else i)) H):=by
 intro aa s σ H xs us Q I r h;obtain⟨i,j,rfl,q⟩:=h;obtain⟨u,w',rfl,⟨t,rfl⟩,⟨t',rfl⟩⟩:=vals2 r
 refine min_two_ints (I.ok.hd hc) fun h' tk k=>⟨_,H,I.kept k,?_,q⟩
 by_cases hj:j<i
 ·rw[if_pos hj,if_pos hj];exact⟨_,rfl⟩
 ·rw[if_neg hj,if_neg hj];exact⟨_,rfl⟩
theorem aE8:m9 X (.type "int") (fun xs H Q=>(∃i,xs=[.int i]/\Q (.int i) H)\/∃k,xs=[.bl k]/\Q (.int (if k then 1 else 0)) H):=by
 intro aa s σ H xs us Q I r h;rcases h with⟨i,rfl,q⟩| ⟨k,rfl,q⟩
 ·obtain⟨u,rfl,t,rfl⟩:=vals1 r
  exact call_int_int ⟨.int i,H,I,⟨_,rfl⟩,q⟩
 ·obtain⟨u,rfl,r1⟩:=vals1 r;cases r1
  exact call_int_bool ⟨.int (if k then 1 else 0),H,I.tok _,⟨_,rfl⟩,q⟩
end
variable{h:Heap}{dx:Addr}{mA:Str->Option Value}
structure aCM(h:Heap)(x dx C:Addr)(mA:Str->Option Value):Prop where
 obj:h.get? x=some (dM C dx)
 ns:h.Ns1 dx mA
 ne:dx≠x
theorem aFx(n:h.Ns1 dx mA):∃od,h.get? dx=some od/\∀name,aOI name od=some (mA name):=by
 obtain⟨o,es,ep,ho,hd,hk,_,hm⟩:=n
 refine⟨o,ho,fun name=>?_⟩
 have e:=hm name;unfold nsFind findBy at e;rw[<-Array.find?_toList]at e;unfold aOI;rw[hd];dsimp only;split
 ·rename_i y q;rw[q]at e
  exact congrArg some e
 ·rename_i q;rw[q]at e;have a:es.toList.any (·.refKey)=false:=by
   rw[List.any_eq_false];intro y hy;obtain⟨z,t,yl⟩:=hk y (Array.mem_toList_iff.mp hy);simp[DictEntry.refKey,yl]
  have a':¬es.toList.any (·.refKey)=true:=by rw[a];exact bY
  rw[if_neg a']
  exact congrArg some e
theorem aCM.look{x C:Addr}(I:aCM h x dx C mA):∃od,PySem.W.InstAt h x (dM C dx) C (some od)/\∀name,aOI name od=some (mA name):=
 let ⟨od,ho,hl⟩:=aFx I.ns
 ⟨od,⟨I.obj,rfl,rfl,ho⟩,hl⟩
section
variable {prog:Program}{w:World}{A:Around}{E:Value->Shared->Prop}{s:Shared}{K:aO}{x dx C f:Addr}{mA:Str->Option Value}{name:Str}{v:Value}
theorem aIF{expr:Bool}{Q:Value->Shared->Prop}(X:K.In s.heap)(I:aCM s.heap x dx C mA)(hg:aOw K C name=true)(hh:aOS K C=true)
 (ha:b5 K (.ref C) name=some none)(hv:mA name=some v)(xq:aPz v=true)(h:Q v {s with toks:=s.toks+1}):
 wpAny (model prog w) A (getAttr (.ref x) name expr) Q E s:=by
 obtain⟨od,J,hl⟩:=I.look
 exact PySem.W.get_value X J (aOE hg).1 (PySem.W.findObj_own hh ha rfl (by rw[hl,hv])) xq h
theorem aG3{pl:Sem Bool}{Q:Value×List Value->Shared->Prop}(X:K.In s.heap)(I:aCM s.heap x dx C mA)(hg:aOw K C name=true)
 (hf:b5 K (.ref C) name=some (some (.ref f)))(ht:aOq K (.ref f)=true)(hv:mA name=none)(h:Q (.ref f,[.ref x]) s):
 wpAny (model prog w) A (getMethod (.ref x) name pl) Q E s:=by
 obtain⟨od,J,hl⟩:=I.look
 exact PySem.W.method_fn X J (aOE hg).1 (aOE hg).2 hf (beq_iff_eq.mp ht) (by show(aOI name od).map (·.isSome)=some false;rw[hl,hv];rfl) h
theorem aJW{ns:List Str}{Q:Unit->Shared->Prop}(X:K.In s.heap)(I:aCM s.heap x dx C mA)
 (hs:b5 K (.ref C) "__setattr__"=some (some (.builtin "object.__setattr__")))(hp:aPr K C=true)(ht:aO3 K C name=some none)(hh:aOS K C=true)
 (hw:PySem.Within mA ns)(hsz:ns.length<=sizeLine)
 (h:∀h',aCM h' x dx C (fun y=>if y=name then some v else mA y)->Heap.SameBut dx s.heap h'->Q () {s with heap:=h',toks:=s.toks+2}):
 wpAny (model prog w) A (setAttr (.ref x) name v) Q E s:=by
 obtain⟨od,J,hl⟩:=I.look
 refine PySem.W.set_plain X J hs (PySem.W.osa_open (s:={s with toks:=s.toks+1}) (r:=none) X J hp ht fun b=>?_)
 obtain⟨cd,hc,jh⟩:=PySem.W.any_some hh;have hx:s.heap.get? x=some ⟨.ref C,some dx,.plain,#[]⟩:=I.obj
 refine wpAny_bind (wpAny_pure (wpAny_bind (wpAny_bind (wpAny_loadPart hx (wpAny_bind (PySem.W.Looks.here (s:={s with toks:=s.toks+1}) (PySem.W.looks_clsIn X hc) ?_))))))
 rw[jh]
 refine wpAny_pure (a:=some dx) (wpAny_bind (wpAny_pure (wpAny_bind ?_)))
 refine wpAny_nsSet1 (s:={s with toks:=s.toks+1}) I.ns fun h' yd kn=>?_
 obtain⟨oD,esD,epD,hoD,hdD,hcD⟩:=yd.count (PySem.Within.cons name v hw)
 refine wpAny_bind (wpAny_lookBehind hoD (by rw[hdD];exact pastItsLine_dict (cB hcD (by rw[aN];lia))) ?_)
 exact wpAny_pure (h _ ⟨(kn.2 _ (Ne.symm I.ne)).trans I.obj,yd,I.ne⟩ kn)
theorem aFV{R:Result->Shared->Prop}{vs:List Value}{kw:List (Str×Value)}(X:K.In s.heap)(hm:aO4 K C=true)
 (hi:b5 K (.ref C) "__init__"=some (some (.ref f)))(hf:PySem.W.typeIn K (.ref f)=some (.type "function"))
 (h:codeAny (model prog w) (A.under (.builtin "type.__call__" ⟨.ref C::vs,kw⟩)) (.call (.ref f) ⟨.ref (s.heap.objs.size+1)::vs,kw⟩) (PySem.W.InitBack (s.heap.objs.size+1) R)
  {s with heap:=(s.heap.push c9).push (dM C s.heap.objs.size)}):
 codeAny (model prog w) A (.call (.ref C) ⟨vs,kw⟩) R s:=by
 obtain⟨hh,g,d,t,os⟩:=s
 exact PySem.W.make_core (PySem.W.makes_of X hm) (PySem.W.looks_findIn X hi) (fun self=>PySem.W.bind_fn X self hf) (.inl rfl) h
end
noncomputable def oH(f:Str)(v:V):List (Str×V)->List (Str×V)
 | []=>[(f,v)]
 | (g,x)::r=>if g=f then(g,v)::r else(g,x)::oH f v r
theorem tX(f g:Str)(v:V):∀fs:List (Str×V),(oH f v fs).lookup g=if g=f then some v else fs.lookup g
 | []=>by
   show dJ g [(f,v)]=_;by_cases h:g=f
   ·have hb:(g==f)=true:=beq_iff_eq.mpr h;simp only[dJ,hb,if_pos h]
   ·have hb:(g==f)=false:=beq_eq_false_iff_ne.mpr h;simp only[dJ,hb,if_neg h]
 | (k,x)::r=>by
   have ih:=tX f g v r;rw[show oH f v ((k,x)::r)=(if k=f then(k,v)::r else(k,x)::oH f v r)from rfl];by_cases hk:k=f
   ·rw[if_pos hk];by_cases h:g=k
    ·have hb:(g==k)=true:=beq_iff_eq.mpr h;simp only[dJ,hb,if_pos (h.trans hk)]
    ·have hb:(g==k)=false:=beq_eq_false_iff_ne.mpr h;simp only[dJ,hb,if_neg (fun e:g=f=>h (e.trans hk.symm))]
   ·rw[if_neg hk];by_cases h:g=k
    ·have hb:(g==k)=true:=beq_iff_eq.mpr h;simp only[dJ,hb,if_neg (fun e:g=f=>hk (h.symm.trans e))]
    ·have hb:(g==k)=false:=beq_eq_false_iff_ne.mpr h;simp only[dJ,hb]
     exact ih
theorem sR(f:Str)(v:V):∀fs:List (Str×V),f∈(oH f v fs).map (·.1)/\∀g,g∈fs.map (·.1)->g∈(oH f v fs).map (·.1)
 | []=>⟨by simp[oH],fun g h=>by simp at h⟩
 | (k,x)::r=>by
   obtain⟨i1,i2⟩:=sR f v r;rw[show oH f v ((k,x)::r)=(if k=f then(k,v)::r else(k,x)::oH f v r)from rfl];by_cases hk:k=f
   ·rw[if_pos hk];subst hk
    exact⟨by simp,fun g h=>by simpa using h⟩
   ·rw[if_neg hk]
    refine⟨?_,fun g h=>?_⟩
    ·rw[aM]
     exact bA _ i1
    ·rw[aM]at h|-;rcases bE.mp h with e|e
     ·exact bE.mpr (.inl e)
     ·exact bA _ (i2 g e)
theorem tU(f:Str)(v:V):∀fs:List (Str×V),(oH f v fs).length<=fs.length+1
 | []=>by simp[oH]
 | (k,x)::r=>by
   have ih:=tU f v r;rw[show oH f v ((k,x)::r)=(if k=f then(k,v)::r else(k,x)::oH f v r)from rfl];by_cases hk:k=f
   ·rw[if_pos hk,aN,aN];lia
   ·rw[if_neg hk,aN,aN];lia
theorem oU.some_of{v:V}{o:Option Value}(r:oU (some v) o):∃u,o=some u/\RelV v u:=by
 cases o with
 |none=>exact(show False from r).elim
 |some u=>exact⟨u,rfl,r⟩
theorem oU.none_of{o:Option Value}(r:oU none o):o=none:=by
 cases o with
 |none=>rfl
 |some u=>exact(show False from r).elim
theorem aEU{v:V}{u:Value}(r:RelV v u):aPz u=true:=by
 cases v with
 |non=>cases (show u=Value.none from r);rfl
 |bl b=>cases (show u=Value.bool b from r);rfl
 |int i=>obtain⟨t,e⟩:=(show∃t,u=Value.int i t from r);cases e;rfl
 |str x=>obtain⟨t,e⟩:=(show∃t,u=Value.str x t from r);cases e;rfl
 |byt b=>obtain⟨t,e⟩:=(show∃t,u=Value.bytes b t from r);cases e;rfl
 |flt b=>obtain⟨t,e⟩:=(show∃t,u=Value.float b t from r);cases e;rfl
 |ref a=>cases (show u=Value.ref a from r);rfl
 |ty n=>cases (show u=Value.type n from r);rfl
section
variable {P:Program}{w:World}{H H':Hp}{h h':Heap}{a C dx:Addr}{fs kz:List (Str×V)}
theorem aAX(hok:HOk P w H h)(e:H a=some (.ins C dx fs)):∃mA,aCM h a dx C mA/\(∀f,oU (fs.lookup f) (mA f))/\PySem.Within mA (fs.map (·.1))/\fs.length<=1000/\H dx=some (.own a):=by
 obtain⟨d,z,ne,ob,mA,n,r,q⟩:=(show jK P w H h a (.ins C dx fs)from hok a _ e)
 exact⟨mA,⟨ob,n,ne⟩,r,q,z,d⟩
end
structure Cls(K:aO)(C:Addr):Prop where
 pg:aOw K C Str.empty=true
 hd:aOS K C=true
 po:aPr K C=true
 sa:b5 K (.ref C) "__setattr__"=some (some (.builtin "object.__setattr__"))
theorem Cls.get{K:aO}{C:Addr}(c:Cls K C)(f:Str):aOw K C f=true:=c.pg
def n5(K:aO)(C:Addr)(f:Str):Prop:=b5 K (.ref C) f=some none
theorem n5.taker{K:aO}{C:Addr}{f:Str}(n:n5 K C f):aO3 K C f=some none:=by
 unfold aO3;rw[show b5 K (.ref C) f=some none from n];rfl
structure Con(K:aO)(C:Addr)(f:Str)(v:V)(u:Value):Prop where
 at_:b5 K (.ref C) f=some (some u)
 rel:RelV v u
 get:PySem.W.specialIn K u "__get__"=some none
 cp:PySem.W.copiedNames.contains f=false
structure Meth(K:aO)(C:Addr)(m:Str)(f:Addr):Prop where
 at_:b5 K (.ref C) m=some (some (.ref f))
 fn:aOq K (.ref f)=true
 kp:cN K (.ref f)=true
section
variable {X:Cx}{aa:List (Addr×Obj)}{σ:St}{H:Hp}{s:Shared}{a C dx:Addr}{fs:List (Str×V)}{f:Str}{v:V}{A:Around}{E:Value->Shared->Prop}
variable{Q:Value->Shared->Prop}
theorem wH{b:Bool}(I:Inv X aa σ H s)(e:H a=some (.ins C dx fs))(c:Cls X.K C)(n:n5 X.K C f)(l:fs.lookup f=some v)
 (h:∀u s',Inv X aa σ H s'->RelV v u->Q u s'):wpAny (model X.prog X.w) A (getAttr (.ref a) f b) Q E s:=by
 obtain⟨mA,O,r,_,_,_⟩:=aAX I.hok e;obtain⟨u,hu,ru⟩:=oU.some_of (v:=v) (o:=mA f) (by rw[<-l];exact r f)
 exact aIF I.kIn O (c.get f) c.hd n hu (aEU ru) (h u _ (I.tok _) ru)
theorem xB{m:Str}{g:Addr}{pl:Sem Bool}{Q:Value×List Value->Shared->Prop}(I:Inv X aa σ H s)(e:H a=some (.ins C dx fs))(c:Cls X.K C)(k:Meth X.K C m g)(l:fs.lookup m=none)
 (h:Q (.ref g,[.ref a]) s):wpAny (model X.prog X.w) A (getMethod (.ref a) m pl) Q E s:=by
 obtain⟨mA,O,r,_,_,_⟩:=aAX I.hok e;have hn:mA m=none:=oU.none_of (by rw[<-l];exact r m)
 exact aG3 I.kIn O (c.get m) k.at_ k.fn hn h
theorem xK{y:V}{u:Value}{Q:Unit->Shared->Prop}(I:Inv X aa σ H s)(e:H a=some (.ins C dx fs))(c:Cls X.K C)(n:n5 X.K C f)(hl:fs.length<1000)(ry:RelV y u)
 (h:∀s',Inv X aa σ (upd H a (.ins C dx (oH f y fs))) s'->Q () s'):wpAny (model X.prog X.w) A (setAttr (.ref a) f u) Q E s:=by
 obtain⟨mA,O,r,wi,_,ho⟩:=aAX I.hok e;have hz:(fs.map (·.1)).length<=sizeLine:=by rw[aP,sizeLine_eq];lia
 refine aJW I.kIn O c.sa c.po n.taker c.hd wi hz fun h' O' sb=>h _ ?_
 have hd:∃o,h'.get? dx=some o:=let ⟨o,_,_,e',_⟩:=O'.ns;⟨o,e'⟩
 refine I.write (x:=a) (e:=dx) (by rw[e];exact True.intro) (.inr ho) (fun b q hb z=>(sb.2 b hb).trans z) hd ?_
 refine⟨by rw[fG O.ne];exact ho,?_,O.ne,O'.obj,_,O'.ns,fun g=>?_,fun g hg=>?_⟩
 ·have:=tU f y fs;lia
 ·show oU ((oH f y fs).lookup g) (if g=f then some u else mA g);rw[tX];by_cases q:g=f
  ·rw[if_pos q,if_pos q];exact ry
  ·rw[if_neg q,if_neg q];exact r g
 ·by_cases q:g=f
  ·rw[q];exact(sR f y fs).1
  ·refine(sR f y fs).2 g (wi g fun z=>hg ?_)
   show(if g=f then some u else mA g)=none;rw[if_neg q];exact z
theorem Inv.made(I:Inv X aa σ H s):Inv X aa σ (upd (upd H s.heap.objs.size (.own (s.heap.objs.size+1))) (s.heap.objs.size+1) (.ins C s.heap.objs.size []))
 {s with heap:=(s.heap.push c9).push (dM C s.heap.objs.size)}:=by
 have e1:(s.heap.push c9).get? s.heap.objs.size=some c9:=Heap.get?_push_size s.heap rfl;have e2:((s.heap.push c9).push (dM C s.heap.objs.size)).get? (s.heap.objs.size+1)=some (dM C s.heap.objs.size):=by
  have:=Heap.get?_push_size (s.heap.push c9) (o:=dM C s.heap.objs.size) rfl;rwa[Heap.size_push]at this
 have e3:(s.heap.push c9).Ns s.heap.objs.size (fun _=>none):=⟨c9,#[],_,e1,rfl,(fun e he=>absurd he (by simp)),fun _=>rfl⟩;have I1:=I.laid (a:=s.heap.objs.size) (o:=.own (s.heap.objs.size+1)) (h':=s.heap.push c9) (t':=s.toks) (fun b u q=>Heap.get?_push_of_some _ q) (bG _) ⟨_,e1⟩
 refine I1.laid (a:=s.heap.objs.size+1) (o:=.ins C s.heap.objs.size []) (t':=s.toks) (fun b u q=>Heap.get?_push_of_some _ q) (aPR (Heap.size_push _ _)) ?_
 have ne:s.heap.objs.size≠s.heap.objs.size+1:=bV (d8 _)
 refine⟨by rw[fG ne,iP],dQ _,ne,e2,fun _=>none,(Heap.Ns1.of_empty e3).at fun o q=>Heap.get?_push_of_some _ q,fun _=>True.intro,fun y hy=>absurd rfl hy⟩
theorem aKA{prog:Program}{w:World}{env:Env}{e:Expr}{f:Str}{pos:Pos}{s:Shared}(hb:attributeBase e f env (eval e env)=eval e env)
 (h:wpAny (model prog w) A (eval e env) (fun o aj=>wpAny (model prog w) A (getAttr o f true) Q E aj) E s):wpAny (model prog w) A (eval (.Attribute e f pos) env) Q E s:=
 Attribute_any_ h (by rw[arm_eval_Attribute,hb])
end
def tFld(K:aO)(ta:TE)(f:Str):TE:=fun σ H Q=>ta σ H fun x H1=>∃a C dx fs v,x=.ref a/\H1 a=some (.ins C dx fs)/\Cls K C/\n5 K C f/\fs.lookup f=some v/\Q v H1
def sFld(K:aO)(ta tv:TE)(f:Str):TS:=fun D σ H=>tv σ H fun y H1=>ta σ H1 fun x H2=>∃a C dx fs,x=.ref a/\H2 a=some (.ins C dx fs)/\Cls K C/\n5 K C f/\fs.length<1000/\
 D.nx σ (upd H2 a (.ins C dx (oH f y fs)))
def aIs(X:Cx)(op:Operator)(rd:V->V->Hp->VK->Prop):Prop:=
 ∀(aa:List (Addr×Obj))(s:Shared)(σ:St)(H:Hp)(x y:V)(u v:Value)(Q:VK),Inv X aa σ H s->RelV x u->RelV y v->rd x y H Q->wpAny (model X.prog X.w) X.A (inplaceOp op u v) (EP X aa σ Q) X.xe s
def sFldAug(K:aO)(ta tv:TE)(rd:V->V->Hp->VK->Prop)(f:Str):TS:=fun D σ H=>ta σ H fun x H1=>∃a C dx fs v,x=.ref a/\H1 a=some (.ins C dx fs)/\Cls K C/\n5 K C f/\fs.lookup f=some v/\
 tv σ H1 fun y H2=>rd v y H2 fun z H3=>∃mj kz,H3 a=some (.ins C mj kz)/\kz.length<1000/\D.nx σ (upd H3 a (.ins C mj (oH f z kz)))
section
variable {X:Cx}{o e value:Expr}{f:Str}{pos aq aw:Pos}{ta tv:TE}
theorem aLD(he:PE X e ta)(hb:attributeBase e f X.env (eval e X.env)=eval e X.env):PE X (.Attribute e f pos) (tFld X.K ta f):=by
 intro aa s σ H Q I h
 refine aKA hb (thn (he aa s σ H _ I h) fun u s1 zz=>?_)
 obtain⟨x,H1,I1,rx,a,C,dx,fs,v,ex,ea,c,n,l,q⟩:=zz;subst ex;obtain rfl:u=Value.ref a:=rx
 exact wH I1 ea c n l fun u' s2 I2 ru=>⟨v,H1,I2,ru,q⟩
theorem aLn(ha:PE X o ta)(hv:PE X value tv)(hs:swapsWith value (some (.Attribute o f aq)) pos.line X.env=pure false):PS X (.Assign [.Attribute o f aq] value pos) (sFld X.K ta tv f):=by
 intro aa s σ H D I h
 refine plainObj_wpAny_Assign_Attribute (thn (hv aa s σ H _ I h) fun u s1 ⟨y,H1,I1,ry,q⟩=>thn (ha aa s1 σ H1 _ I1 q) fun ov s2 ⟨x,H2,I2,rx,a,C,dx,fs,ex,ea,c,n,l,q2⟩=>?_) hs
 subst ex;obtain rfl:ov=Value.ref a:=rx
 exact xK I2 ea c n l ry fun s3 I3=>⟨σ,_,I3,q2⟩
theorem zI{op:Operator}{rd:V->V->Hp->VK->Prop}(ha:PE X o ta)(hv:PE X value tv)(xy:aIs X op rd):PS X (.AugAssign (.Attribute o f aw) op value pos) (sFldAug X.K ta tv rd f):=by
 intro aa s σ H D I h
 refine wpAny_AugAssign_AttributeAny (thn (ha aa s σ H _ I h) fun ov s1 zz=>?_)
 obtain⟨x,H1,I1,rx,a,C,dx,fs,v,ex,ea,c,n,l,q⟩:=zz;subst ex;obtain rfl:ov=Value.ref a:=rx
 refine wH I1 ea c n l fun u s2 I2 ru=>thn (hv aa s2 σ H1 _ I2 q) fun w3 s3 ⟨y,H2,I3,ry,q3⟩=>thn (xy aa s3 σ H2 v y u w3 _ I3 ru ry q3) fun w4 s4 zz=>?_
 obtain⟨z,H3,I4,rz,mj,kz,zm,l',q4⟩:=zz
 exact xK I4 zm c n l' rz fun s5 I5=>⟨σ,_,I5,q4⟩
def rAdd:V->V->Hp->VK->Prop:=fun x y H Q=>∃i j,x=.int i/\y=.int j/\Q (.int (i+j)) H
def rSub:V->V->Hp->VK->Prop:=fun x y H Q=>∃i j,x=.int i/\y=.int j/\Q (.int (i - j)) H
theorem aLB:aIs X .Add rAdd:=by
 rintro aa s σ H x y u v Q I rx ry ⟨i,j,rfl,rfl,q⟩;obtain⟨t,rfl⟩:=(show∃t,u=Value.int i t from rx);obtain⟨t',rfl⟩:=(show∃t',v=Value.int j t' from ry)
 exact aPZ ⟨.int (i+j),H,I.tok _,⟨_,rfl⟩,q⟩
theorem aHM:aIs X .Sub rSub:=by
 rintro aa s σ H x y u v Q I rx ry ⟨i,j,rfl,rfl,q⟩;obtain⟨t,rfl⟩:=(show∃t,u=Value.int i t from rx);obtain⟨t',rfl⟩:=(show∃t',v=Value.int j t' from ry)
 exact aP0 ⟨.int (i - j),H,I.tok _,⟨_,rfl⟩,q⟩
end
section
variable {X:Cx}{aa:List (Addr×Obj)}{σ:St}{H:Hp}{s:Shared}{A:Around}{E:Value->Shared->Prop}{Q:Value->Shared->Prop}{c:Value}{b:Bool}
end
variable{k:Nat}{A:Around}{C:Addr}{us:List Value}{kw:List (Str×Value)}
structure Room(k:Nat)(A:Around):Prop where
 hd:A.handled=none
 dp:A.depth+3*k+5<recursionLimit
 un:A.units+16*k+200<cLine
theorem Room.mono{j:Nat}(r:Room k A)(h:j<=k):Room j A:=⟨r.hd,by have:=r.dp;lia,by have:=r.un;lia⟩
theorem Room.deeper(r:Room (k+1) A)(env:Env):Room k (A.deeper env):=
 ⟨r.hd,by have:=r.dp;show A.depth+1+3*k+5<_;lia,by have:=r.un;show A.units+3+16*k+200<_;lia⟩
theorem aCF:(A.under (.builtin "type.__call__" ⟨.ref C::us,kw⟩)).depth=A.depth+1:=by
 first|rfl|simp[Around.under,Code.weight,Code.isCreation,Code.isGuard,Code.isCaller,Code.frames,Code.isFrame,guardIds]
theorem aDh:(A.under (.builtin "type.__call__" ⟨.ref C::us,kw⟩)).units=A.units+1:=by
 first|rfl|simp[Around.under,Code.cUnits,Code.frames,Code.isFrame]
theorem Room.make(r:Room (k+1) A)(C:Addr)(us:List Value)(kw:List (Str×Value)):Room k (A.under (.builtin "type.__call__" ⟨.ref C::us,kw⟩)):=
 ⟨r.hd,by have:=r.dp;rw[aCF];lia,by have:=r.un;rw[aDh];lia⟩
theorem Room.depth(r:Room k A):A.depth<recursionLimit:=by have:=r.dp;lia
noncomputable def aJ3:TA:=fun _ H Q=>Q [] H
noncomputable def aH7(ta:TE)(tr:TA):TA:=fun σ H Q=>ta σ H fun x H1=>tr σ H1 fun xs H2=>Q (x::xs) H2
section
variable {X:Cx}{e:Expr}{es:List Expr}{te:TE}{t:TA}{pos:Pos}
theorem aDf:PA X [] aJ3:=fun _ _ _ _ H Q I h=>Calls.spliced_nil ⟨[],H,I,.nil,h⟩
theorem vA(ha:PE X e te)(hr:PA X es t)(hs:starEach (e::es) X.env=(false,eval e X.env)::starEach es X.env:=by rfl):PA X (e::es) (aH7 te t):=by
 intro pos aa s σ H Q I h;rw[hs];show wpAny _ _ (spliced ((false,eval e X.env)::backTo pos (starEach es X.env))) _ _ s
 refine Calls.spliced_cons (thn (ha aa s σ H _ I h) fun u s1 zz=>?_)
 obtain⟨x,H1,I1,r1,q1⟩:=zz
 exact thn (hr pos aa s1 σ H1 _ I1 q1) fun us s2 ⟨xs,H2,I2,r2,q2⟩=>⟨x::xs,H2,I2,.cons r1 r2,q2⟩
def tTup(t:TA):TE:=fun σ H Q=>t σ H fun xs H1=>xs.length<=sizeLine/\∀p,H1 p=none->Q (.ref p) (upd H1 p (.tup xs))
def tLst(t:TA):TE:=fun σ H Q=>t σ H fun xs H1=>xs.length<=sizeLine/\∀p,H1 p=none->Q (.ref p) (upd H1 p (.lst xs))
theorem aLt{x1}(h:PA X es t):PE X (.Tuple es x1 pos) (tTup t):=by
 intro aa s σ H Q I hq
 refine wpAny_Tuple_spliced (thn (h pos aa s σ H _ I hq) fun us s1 ⟨xs,H1,I1,r,z,q⟩=>⟨by rw[<-r.length];exact z,?_⟩)
 have hf:H1 s1.heap.objs.size=none:=I1.hok.fresh (bG _)
 refine⟨.ref s1.heap.objs.size,upd H1 s1.heap.objs.size (.tup xs),I1.laid (t':=s1.toks) (fun b u e=>Heap.get?_push_of_some _ e) (bG _) ?_,rfl,q _ hf⟩
 exact⟨z,us,r,⟨_,Heap.get?_push_size _ rfl,rfl,_,rfl⟩⟩
theorem aLp(h:PA X es t):PE X (.List es pos) (tLst t):=by
 intro aa s σ H Q I hq
 refine wpAny_List_spliced (thn (h pos aa s σ H _ I hq) fun us s1 ⟨xs,H1,I1,r,z,q⟩=>⟨by rw[<-r.length];exact z,?_⟩)
 have hf:H1 s1.heap.objs.size=none:=I1.hok.fresh (bG _)
 refine⟨.ref s1.heap.objs.size,upd H1 s1.heap.objs.size (.lst xs),I1.laid (t':=s1.toks) (fun b u e=>Heap.get?_push_of_some _ e) (bG _) ?_,rfl,q _ hf⟩
 exact⟨z,us,0,r,Heap.get?_push_size _ rfl⟩
end
abbrev Sp:=List V->Hp->VK->XK->Prop
abbrev CXT:=List Env->Hp->Shared->XK->Value->Shared->Prop
structure Env0(P:Program)(w:World)(K:aO)(mg:Str->Option Value)(base:Heap)(A:Around)(outer:List Env)(s:Shared)(H:Hp):Prop where
 frames:A.frames=some outer
 mod:Mod K mg base
 bs:∀b o,base.get? b=some o->s.heap.get? b=some o/\H b=none
 bsz:base.objs.size<=s.heap.objs.size
 funs:s.heap.FunFrames base outer
 frf:∀b∈frs outer,H b=none
 hok:HOk P w H s.heap
 bare:AllBare s.gens
def CE(outer:List Env)(P:Program)(w:World)(H:Hp)(s:Shared)(Q:VK)(u:Value)(s':Shared):Prop:=
 ∃v H',s'.os=s.os/\AllBare s'.gens/\Un (frs outer) [] H H' s.heap s'.heap/\HOk P w H' s'.heap/\RelV v u/\Q v H'
def CR(CX:CXT)(outer:List Env)(P:Program)(w:World)(H:Hp)(s:Shared)(Q:VK)(E:XK)(r:Result)(s':Shared):Prop:=
 match r with
 | .ok (.ret u)=>CE outer P w H s Q u s'
 | .ok _=>False
 | .error e=>CX outer H s E e s'
structure mX(P:Program)(w:World)(K:aO)(mg:Str->Option Value)(base:Heap)(CX:CXT)(k:Nat)(f:Addr)(fd:FuncData)(ps:List Str)(sp:Sp):Prop where
 len:∀vs H Q E,sp vs H Q E->vs.length=ps.length
 run:∀(A:Around)(outer:List Env)(s:Shared)(H:Hp)(args:Args)(us:List Value)(vs:List V)(Q:VK)(E:XK),Room k A->Env0 P w K mg base A outer s H->BindsTo s fd args (ps.zip us)->Vals vs us->sp vs H Q E->
  codeAny (model P w) A (.call (.ref f) args) (CR CX outer P w H s Q E) s
theorem Env0.make{P:Program}{w:World}{K:aO}{mg:Str->Option Value}{base:Heap}{A:Around}{outer:List Env}{s:Shared}{H:Hp}(e:Env0 P w K mg base A outer s H)(C:Addr)(us:List Value)(kw:List (Str×Value)):
 Env0 P w K mg base (A.under (.builtin "type.__call__" ⟨.ref C::us,kw⟩)) outer s H:=⟨by first|exact e.frames| (simpa[Around.under,Code.envs,Code.isFrame,pushEnvs]using e.frames),e.mod,e.bs,e.bsz,e.funs,e.frf,e.hok,e.bare⟩
section
variable {X:Cx}{aa:List (Addr×Obj)}{σ:St}{H:Hp}{s s':Shared}
theorem Inv.env0(I:Inv X aa σ H s):Env0 X.prog X.w X.K X.mg X.base X.A X.stack s H:=
 ⟨I.ok.frames,I.ok.mod,I.bs,cB I.ok.bsz I.sz,I.stack,I.stkFree,I.hok,I.bare⟩
theorem Inv.after{Q:VK}{u:Value}(I:Inv X aa σ H s)(h:CE X.stack X.prog X.w H s Q u s'):EP X aa σ Q u s':=by
 obtain⟨v,H',os,bare,un,hok,r,q⟩:=h;obtain⟨hh,g,d,t,os'⟩:=s';obtain rfl:os'=s.os:=os
 exact⟨v,H',I.call (h':=hh) (g':=g) (d':=d) (t':=t) (ch:=[]) un hok bare (fun b z=>absurd z (by simp)),r,q⟩
end
noncomputable def aEv(sp:Sp)(bn:List V)(E:XK)(t:TA):TE:=fun σ H Q=>t σ H fun vs H1=>sp (vs++bn) H1 Q E
def aIg(C:Addr)(m:Str)(sp:Sp)(bn:List V)(E:XK)(ta:TE)(t:TA):TE:=fun σ H Q=>ta σ H fun x H1=>∃a dx fs,x=.ref a/\H1 a=some (.ins C dx fs)/\fs.lookup m=none/\
 t σ H1 fun vs H2=>sp (x::(vs++bn)) H2 Q E
def tMake(C:Addr)(sp:Sp)(bn:List V)(E:XK)(t:TA):TE:=fun σ H Q=>t σ H fun vs H1=>∀x dx,H1 x=none->H1 dx=none->dx≠x->
 sp (.ref x::(vs++bn)) (upd (upd H1 dx (.own x)) x (.ins C dx [])) (fun v H2=>v=.non/\Q (.ref x) H2) E
def Binds(K:aO)(fd:FuncData)(ps:List Str)(ds:List Value):Prop:=
 ∀(s:Shared)(us:List Value),K.In s.heap->(us++ds).length=ps.length->BindsTo s fd ⟨us,[]⟩ (ps.zip (us++ds))
theorem Binds.all{K:aO}{fd:FuncData}{ps:List Str}(h:∀us:List Value,us.length=ps.length->bindArgs fd ⟨us,[]⟩=pure (ps.zip us)):Binds K fd ps []:=fun s us _ hl=>by
 rw[aW]at hl|-
 exact .of_eq (h us hl)
def Passes(CX:CXT)(X:Cx)(E:XK):Prop:=∀(aa:List (Addr×Obj))(σ:St)(H:Hp)(s:Shared)(e:Value)(s':Shared),Inv X aa σ H s->CX X.stack H s E e s'->X.xe e s'
section
variable {X:Cx}{CX:CXT}{k:Nat}{f C:Addr}{fd:FuncData}{ps:List Str}{sp:Sp}{bn:List V}{ds:List Value}{E:XK}{x m:Str}{p pos al:Pos}{e o:Expr}{es:List Expr}{ta:TE}{t:TA}
variable{aa:List (Addr×Obj)}{σ:St}{Q:VK}{vs:List V}{pl:Sem Bool}
theorem aC6{H:Hp}{s:Shared}{us:List Value}(F:mX X.prog X.w X.K X.mg X.base CX k f fd ps sp)(hr:Room k X.A)(hb:Binds X.K fd ps ds)(hd:Vals bn ds)(hx:Passes CX X E)
 (I:Inv X aa σ H s)(r:Vals vs us)(h:sp (vs++bn) H Q E):wpAny (model X.prog X.w) X.A (call (.ref f) us) (EP X aa σ Q) X.xe s:=by
 have r2:Vals (vs++bn) (us++ds):=r.append hd;have hl:(us++ds).length=ps.length:=by rw[<-r2.length];exact F.len _ _ _ _ h
 refine wpAny_call (codeAny_mono (F.run X.A X.stack s H ⟨us,[]⟩ (us++ds) (vs++bn) Q E hr I.env0 (hb s us I.kIn hl) r2 h) fun r s' hq=>?_)
 cases r with
 |error e=>exact hx aa σ H s e s' I hq
 |ok fl=>
  cases fl with
  |ret u=>exact I.after hq
  |next=>exact False.elim hq
  |brk=>exact False.elim hq
  |cont=>exact False.elim hq
theorem aAi(F:mX X.prog X.w X.K X.mg X.base CX k f fd ps sp)(hr:Room k X.A)(hg:Gl X x)(hm:X.mg x=some (.ref f))(hk:cN X.K (.ref f)=true)(hb:Binds X.K fd ps ds)(hd:Vals bn ds)(hx:Passes CX X E)
 (ha:PA X (e::es) t)(dj:(x==("__debug__":Str))=false:=by decide)(he:starEach (e::es) X.env=(false,eval e X.env)::starEach es X.env:=by rfl)(av:(backTo pos (starEach es X.env)).any (·.1)=false:=by rfl):
 PE X (.Call (.Name x p) (e::es) [] pos) (aEv sp bn E t):=by
 intro aa s σ H Q I h
 refine wpAny_Call_Name_kw (aAl I hg hm ?_ dj)
 refine aOJ (h₀:=X.base) I.ok.mod.kin hk (thn (ha pos aa s σ H _ I h) fun us s1 ⟨vs,H1,I1,r,q⟩=>⟨I1.kIn,?_⟩) he av
 exact aC6 F hr hb hd hx I1 r q
theorem aJC(he:PE X o ta)(c:Cls X.K C)(hm:Meth X.K C m f)(F:mX X.prog X.w X.K X.mg X.base CX k f fd ps sp)(hr:Room k X.A)(hb:Binds X.K fd ps ds)(hd:Vals bn ds)(hx:Passes CX X E)(ha:PA X (e::es) t)
 (bi:starEach (e::es) X.env=(false,eval e X.env)::starEach es X.env:=by rfl)(av:(backTo pos (starEach es X.env)).any (·.1)=false:=by rfl)
 (ht:eval (.Call (.Attribute o m al) (e::es) [] pos) X.env=(do
  let ov<-eval o X.env
  standAt al.atName
  let (f,first)<-holding [ov] (getMethod ov m pl)
  callWith pos f first (backTo pos (starEach (e::es) X.env)) (backToKw pos (keywordEach [] X.env))):=by rfl):
 PE X (.Call (.Attribute o m al) (e::es) [] pos) (aIg C m sp bn E ta t):=by
 intro aa s σ H Q I h
 refine aO9 (pl:=pl) (thn (he aa s σ H _ I h) fun u s1 ⟨x,H1,I1,rx,a,dx,fs,ex,ea,l,q⟩=>?_) ht
 subst ex;obtain rfl:u=Value.ref a:=rx
 refine xB I1 ea c hm l ?_
 refine aOJ (first:=[.ref a]) (h₀:=X.base) I.ok.mod.kin hm.kp (thn (ha pos aa s1 σ H1 _ I1 q) fun us s2 ⟨vs,H2,I2,r,q2⟩=>⟨I2.kIn,?_⟩) bi av
 exact aC6 (us:=.ref a::us) (vs:=.ref a::vs) F hr hb hd hx I2 (.cons rfl r) q2
theorem aGK(he:PE X o ta)(c:Cls X.K C)(hm:Meth X.K C m f)(F:mX X.prog X.w X.K X.mg X.base CX k f fd ps sp)(hr:Room k X.A)(hb:Binds X.K fd ps ds)(hd:Vals bn ds)(hx:Passes CX X E)
 (ht:eval (.Call (.Attribute o m al) [] [] pos) X.env=(do
  let ov<-eval o X.env
  standAt al.atName
  let (f,first)<-holding [ov] (getMethod ov m pl)
  callWith pos f first (backTo pos (starEach [] X.env)) (backToKw pos (keywordEach [] X.env))):=by rfl):
 PE X (.Call (.Attribute o m al) [] [] pos) (aIg C m sp bn E ta aJ3):=by
 intro aa s σ H Q I h
 refine aO9 (pl:=pl) (thn (he aa s σ H _ I h) fun u s1 ⟨x,H1,I1,rx,a,dx,fs,ex,ea,l,q⟩=>?_) ht
 subst ex;obtain rfl:u=Value.ref a:=rx
 refine xB I1 ea c hm l ?_
 exact PySem.W.callWith_K0 (first:=[.ref a]) I1.kIn hm.kp (aC6 (us:=[.ref a]) (vs:=[.ref a]) F hr hb hd hx I1 (.cons rfl .nil) q)
structure Mk(K:aO)(C f:Addr):Prop where
 makes:aO4 K C=true
 init:b5 K (.ref C) "__init__"=some (some (.ref f))
 fn:aOq K (.ref f)=true
 kp:cN K (.ref C)=true
theorem aGy{H:Hp}{s:Shared}{us:List Value}(M:Mk X.K C f)(F:mX X.prog X.w X.K X.mg X.base CX k f fd ps sp)(hr:Room (k+1) X.A)(hb:Binds X.K fd ps ds)(hd:Vals bn ds)
 (hx:Passes CX X E)(I:Inv X aa σ H s)(r:Vals vs us)
 (h:∀x dx,H x=none->H dx=none->dx≠x->sp (.ref x::(vs++bn)) (upd (upd H dx (.own x)) x (.ins C dx [])) (fun v H2=>v=.non/\Q (.ref x) H2) E):
 wpAny (model X.prog X.w) X.A (call (.ref C) us) (EP X aa σ Q) X.xe s:=by
 have hq:=h (s.heap.objs.size+1) s.heap.objs.size (I.hok.fresh (aP3 _)) (I.hok.fresh (bG _)) (bV (d8 _));have I2:=Inv.made (C:=C) I;have r2:Vals (V.ref (s.heap.objs.size+1)::(vs++bn)) (Value.ref (s.heap.objs.size+1)::(us++ds)):=.cons rfl (r.append hd);have hl:(Value.ref (s.heap.objs.size+1)::us++ds).length=ps.length:=by
  have e:=r2.length;rw[F.len _ _ _ _ hq]at e
  exact e.symm
 refine wpAny_call (aFV (f:=f) I.kIn M.makes M.init (beq_iff_eq.mp M.fn) (codeAny_mono (F.run _ X.stack _ _ ⟨Value.ref (s.heap.objs.size+1)::us,[]⟩ (Value.ref (s.heap.objs.size+1)::(us++ds)) _ _ E (hr.make C us [])
  (I2.env0.make C us []) (hb _ (Value.ref (s.heap.objs.size+1)::us) I2.kIn hl) r2 hq) fun r s' se=>?_))
 cases r with
 |error e=>exact hx aa σ _ _ e s' I2 se
 |ok fl=>
  cases fl with
  |ret u=>
   obtain⟨v,H',I3,rv,ev,q3⟩:=I2.after se;subst ev
   exact⟨rv,⟨V.ref (s.heap.objs.size+1),H',I3,rfl,q3⟩⟩
  |next=>exact False.elim se
  |brk=>exact False.elim se
  |cont=>exact False.elim se
theorem aKm(M:Mk X.K C f)(F:mX X.prog X.w X.K X.mg X.base CX k f fd ps sp)(hr:Room (k+1) X.A)(hg:Gl X x)(hm:X.mg x=some (.ref C))(hb:Binds X.K fd ps ds)(hd:Vals bn ds)(hx:Passes CX X E)
 (ha:PA X (e::es) t)(dj:(x==("__debug__":Str))=false:=by decide)(he:starEach (e::es) X.env=(false,eval e X.env)::starEach es X.env:=by rfl)(av:(backTo pos (starEach es X.env)).any (·.1)=false:=by rfl):
 PE X (.Call (.Name x p) (e::es) [] pos) (tMake C sp bn E t):=by
 intro aa s σ H Q I h
 refine wpAny_Call_Name_kw (aAl I hg hm ?_ dj)
 refine aOJ (h₀:=X.base) I.ok.mod.kin M.kp (thn (ha pos aa s σ H _ I h) fun us s1 ⟨vs,H1,I1,r,q⟩=>⟨I1.kIn,?_⟩) he av
 exact aGy M F hr hb hd hx I1 r q
end
def PK(X:Cx)(km:List Keyword)(t:TA):Prop:=
 ∀(pos:Pos)(aa:List (Addr×Obj))(s:Shared)(σ:St)(H:Hp)(Q:List V->Hp->Prop),Inv X aa σ H s->t σ H Q->wpAny (model X.prog X.w) X.A (evalAll ((backToKw pos (keywordEach km X.env)).map (·.2))) (AP X aa σ Q) X.xe s
section
variable {X:Cx}{CX:CXT}{k:Nat}{f C:Addr}{fd:FuncData}{ps ks:List Str}{sp:Sp}{E:XK}{x m:Str}{p pos al xh:Pos}{e o:Expr}{es:List Expr}{km:List Keyword}{te ta:TE}{t tk:TA}{nm:Option Str}
theorem aLL:PK X [] aJ3:=fun _ _ _ _ H Q I h=>wpAny_evalAll_nil ⟨[],H,I,.nil,h⟩
theorem aJh(ha:PE X e te)(hr:PK X km t):PK X (⟨nm,e,xh⟩::km) (aH7 te t):=by
 intro pos aa s σ H Q I h;show wpAny _ _ (evalAll ((do let v<-eval e X.env;standAt pos;pure v)::(backToKw pos (keywordEach km X.env)).map (·.2))) _ _ s
 refine wpAny_evalAll_cons (wpAny_bind (thn (ha aa s σ H _ I h) fun u s1 ⟨x,H1,I1,r1,q1⟩=>wpAny_bind (wpAny_standAt (wpAny_pure ?_))))
 exact thn (hr pos aa s1 σ H1 _ I1 q1) fun us s2 ⟨xs,H2,I2,r2,q2⟩=>⟨x::xs,H2,I2,.cons r1 r2,q2⟩
variable {g:List Value->List Value->List Value}{gV:List V->List V->List V}
end
variable{CX:CXT}{mg:Str->Option Value}{base:Heap}{N ps:List Str}{qual:Str}{scope:Scope}{f:Addr}
structure pN(N P:List Str)(sc:Scope):Prop where
 kind:sc.kind=.function
 co:sc.isCoroutine=false
 gen:sc.isGenerator=false
 nd:N.Nodup
 pre:N.take P.length=P
 par:∀x∈P,sc.names.lookup x=some .local\/sc.names.lookup x=some .cell
 nofree:∀y∈sc.names,y.2≠ .free
theorem zV{kindOf:Str->Option NameKind}{x:Str}:∀{binds:List (Str×Value)}{m:Str->Option Value},(∀v,(x,v)∉binds)->bindL kindOf binds m x=m x
 | [],_,_=>rfl
 | (n,v)::r,m,h=>by
   unfold bindL;rw[zV fun w hw=>h w (bA _ hw)];split
   ·have:x≠n:=by rintro rfl;exact h v bJ
    simp[this]
   ·rfl
theorem yV{kindOf:Str->Option NameKind}{x:Str}:∀{binds:List (Str×Value)}{m:Str->Option Value},(∀v,(x,v)∉binds)->bindC kindOf binds m x=m x
 | [],_,_=>rfl
 | (n,v)::r,m,h=>by
   unfold bindC;rw[yV fun w hw=>h w (bA _ hw)];split
   ·rfl
   ·have:x≠n:=by rintro rfl;exact h v bJ
    simp[this]
theorem zH{kindOf:Str->Option NameKind}{x:Str}{v:Value}:∀{P:List Str}{vs:List Value}{i:Nat}{m:Str->Option Value},P.Nodup->P[i]?=some x->vs[i]?=some v->kindOf x=some .local->
 bindL kindOf (P.zip vs) m x=some v
 | [],_,_,_,_,h,_,_=>by simp at h
 |_::_,[],_,_,_,_,h,_=>by simp at h
 |p::P,w::vs,0,m,nd,h1,h2,hk=>by
  simp at h1 h2;subst h1;subst h2;show bindL kindOf ((p,w)::P.zip vs) m p=_;unfold bindL;rw[zV fun v hv=>(bX.mp nd).1 (aOo hv).1,if_pos hk];simp
 |p::P,w::vs,i+1,m,nd,h1,h2,hk=>by
  show bindL kindOf ((p,w)::P.zip vs) m x=_;unfold bindL
  exact zH (i:=i) (bX.mp nd).2 (by simpa using h1) (by simpa using h2) hk
theorem zF{kindOf:Str->Option NameKind}{x:Str}{v:Value}:∀{P:List Str}{vs:List Value}{i:Nat}{m:Str->Option Value},P.Nodup->P[i]?=some x->vs[i]?=some v->kindOf x≠some .local->
 bindC kindOf (P.zip vs) m x=some v
 | [],_,_,_,_,h,_,_=>by simp at h
 |_::_,[],_,_,_,_,h,_=>by simp at h
 |p::P,w::vs,0,m,nd,h1,h2,hk=>by
  simp at h1 h2;subst h1;subst h2;show bindC kindOf ((p,w)::P.zip vs) m p=_;unfold bindC;rw[yV fun v hv=>(bX.mp nd).1 (aOo hv).1,if_neg hk];simp
 |p::P,w::vs,i+1,m,nd,h1,h2,hk=>by
  show bindC kindOf ((p,w)::P.zip vs) m x=_;unfold bindC
  exact zF (i:=i) (bX.mp nd).2 (by simpa using h1) (by simpa using h2) hk
noncomputable def start(N:List Str)(vs:List V):St:=vs.map some++aT (N.length - vs.length) none
def aAV(CX:CXT)(P:Program)(w:World)(K:aO)(mg:Str->Option Value)(base:Heap)(N:List Str)(qual:Str)(scope:Scope)(f:Addr)(cd:Value)(A:Around)(outer:List Env)(s:Shared)(H:Hp)(E:XK):Cx where
 prog:=P
 w:=w
 K:=K
 mg:=mg
 base:=base
 A:=A.deeper (envOfC qual scope s.heap.objs.size f cd)
 N:=N
 s₀:=s
 H₀:=H
 env:=envOfC qual scope s.heap.objs.size f cd
 outer:=outer
 stack:=envOfC qual scope s.heap.objs.size f cd::outer
 ex:=[]
 calm:=true
 fn:=fun _=>true
 pn:=[]
 xe:=fun e s'=>wpAny (model P w) (A.deeper (envOfC qual scope s.heap.objs.size f cd)) (leaving (envOfC qual scope s.heap.objs.size f cd) e) (fun _ qk=>CX outer H s E e qk) (fun e' qk=>CX outer H s E e' qk) s'
theorem aBz{sc:Scope}{n:Nat}{x:Str}(h:sc.names.lookup x=some .cell):∃c,(cellsFrom n sc.names []).lookup x=some c:=by
 have q:=aO1 sc.names n [] (.inl h)
 exact cT.mp q
theorem aEK{P:Program}{w:World}{K:aO}{cd:Value}{A:Around}{outer:List Env}{s s1:Shared}{H:Hp}{E:XK}{us:List Value}{vs:List V}
 (S:pN N ps scope)(hd:A.handled=none)(e0:Env0 P w K mg base A outer s H)(hl:vs.length=ps.length)(r:Vals vs us)
 (x:InCallC s s.heap.objs.size (bindL (envOfC qual scope s.heap.objs.size f cd).kindOf (ps.zip us) fun _=>none) (cellsFrom (s.heap.objs.size+1) scope.names []) (bindC (envOfC qual scope s.heap.objs.size f cd).kindOf (ps.zip us) fun _=>none) s1):
 Inv (aAV CX P w K mg base N qual scope f cd A outer s H E) [] (start N vs) H s1:=by
 have av:ps.length<=N.length:=by have:=congrArg aPF S.pre;rw[dR]at this;lia
 obtain⟨h1,tk,rfl,hk⟩:=x.done;have qt:∀b:Addr,b∉(aAV CX P w K mg base N qual scope f cd A outer s H E).ex:=fun b z=>absurd (show b∈([]:List Addr)from z) (by simp)
 refine⟨⟨e0.mod,S.kind,rfl,rfl,bG _,fun y z c h1 h2=>?_,fun y hy=>?_,fun y c _ h=>?_,fun _=>hd,Around.frames_deeper e0.frames,.inr ⟨rfl,rfl⟩,fun b z=>absurd z (qt b),e0.bs,e0.bsz,fun b _ _=>qt b,fun b z=>absurd z (qt b),e0.funs,e0.frf⟩,
  rfl,e0.bare,Un.kept hk,⟨_,x.toInCall.ns,fun i y v h1 h2 h3=>?_⟩,fun y c h=>⟨_,x.cell y c h⟩,e0.hok.fresh (bG _),fun y c h=>?_,fun p hp=>absurd (show p∈([]:List (Addr×Obj))from hp) (by simp),e0.hok.kept hk,?_⟩
 ·exact name_of_addr x.apart (PySem.mem_of_lookup h1) (PySem.mem_of_lookup h2)
 ·have hy:scope.names.lookup y=some .cell\/scope.names.lookup y=some .free:=hy;rcases hy with hy|hy
  ·exact aBz hy
  ·exact absurd rfl (S.nofree _ (PySem.mem_of_lookup hy))
 ·exact aPq (x.above y c (PySem.mem_of_lookup h))
 ·have hi:i<vs.length:=by
   unfold start at h2;by_cases hi:i<vs.length
   ·exact hi
   ·rw[bH (by simpa using hi)]at h2;rw[cO]at h2;split at h2<;>cases h2
  have ha:vs[i]?=some v:=by
   unfold start at h2;rw[aZ (by simpa using hi),bK]at h2;cases e:vs[i]?with
   |none=>rw[e]at h2;cases h2
   |some a=>rw[e]at h2;cases h2;rfl
  obtain⟨u,hu,rv⟩:=r.get ha;have hp:ps[i]?=some y:=by
   rw[<-S.pre,d3 (by lia)];exact h1
  have ndP:ps.Nodup:=by rw[<-S.pre];exact S.nd.sublist (List.take_sublist _ _)
  refine⟨u,rv,?_⟩
  rcases S.par y (bD hp)with k|k
  ·exact .inl ⟨k,zH ndP hp hu k⟩
  ·obtain⟨c,e⟩:=aBz (n:=s.heap.objs.size+1) k
   refine .inr ⟨.inl k,c,e,?_⟩
   have q:=x.cell y c e;rw[zF ndP hp hu (by show scope.names.lookup y≠_;rw[k];decide)]at q
   exact q
 ·exact e0.hok.fresh (aPq (x.above y c (PySem.mem_of_lookup h)))
 ·unfold start;show _=N.length;rw[aU,aP,eO]
  lia
theorem aKD{P:Program}{w:World}{K:aO}{k:Nat}{name:Str}{params:Arguments}{body:List Stmt}{dV kV doc pm bc ct oc:Value}{an od:Option Addr}
 {fm:Array (Option Value)}{sp:Sp}(lk:K.lookup f=some ⟨oc,od,.func (cL name qual params body scope dV kV doc pm an bc ct),fm⟩)(iz:dL K bc qual=true)(S:pN N ps scope)
 (len:∀vs H Q E,sp vs H Q E->vs.length=ps.length)
 (dm:∀(A:Around)(outer:List Env)(s:Shared)(H:Hp)(vs:List V)(Q:VK)(E:XK),Room k (A.deeper (envOfC qual scope s.heap.objs.size f bc))->sp vs H Q E->
  ∃t,PSs (aAV CX P w K mg base N qual scope f bc A outer s H E) body t/\t {nx:=fun _ H'=>Q .non H',rt:=Q} (start N vs) H):
 mX P w K mg base CX (k+1) f (cL name qual params body scope dV kV doc pm an bc ct) ps sp:=by
 refine⟨len,fun A outer s H args us vs Q E hr e0 hb r ii=>?_⟩
 have hl:=len _ _ _ _ ii;have KX:K.In s.heap:=e0.mod.kin.keeps fun b o e=>(e0.bs b o e).1
 have lim:s.heap.NoLimit:=e0.mod.nolimit.keeps fun b o e=>(e0.bs b o e).1
 have sw:∀y∈ps.zip us,scope.names.lookup y.1=some .local\/(scope.names.lookup y.1=some .cell/\((cellsFrom (s.heap.objs.size+1) scope.names []).lookup y.1).isSome=true):=fun⟨n,v⟩ hy=>by
  rcases S.par n (aOo hy).1 with q|q
  ·exact .inl q
  ·exact .inr ⟨q,aO1 _ _ _ (.inl q)⟩
 refine codeAny_call_function hr.depth (KX _ _ lk) rfl S.co S.gen rfl (PySem.W.codeRec_of KX iz) (hb _ _ _ _ ?_)
 refine wpAny_newFunctionEnv_cells S.kind sw fun env he s1 x=>?_
 subst he
 refine⟨lim.keeps x.toInCall.keep,codeAny_func ?_⟩
 obtain⟨t,ht,hq⟩:=dm A outer s H vs Q E (hr.deeper _) ii;have I:Inv (aAV CX P w K mg base N qual scope f bc A outer s H E) [] (start N vs) H s1:=aEK S hr.hd e0 hl r x
 refine wpAny_mono (ht [] s1 (start N vs) H _ I hq) (fun fl s' hs=>?_) fun e s' hs=>hs
 have fin:∀{ai:St}{H':Hp}{v:V}{u:Value},Inv (aAV CX P w K mg base N qual scope f bc A outer s H E) [] ai H' s'->RelV v u->Q v H'->CE outer P w H s Q u s':=
  fun {ai H' v u} J rv q=>⟨v,H',J.os,J.bare,J.base,J.hok,rv,q⟩
 cases fl with
 |ret u=>
  obtain⟨v,ai,H',J,rv,q⟩:=hs
  exact fin J rv q
 |next=>
  obtain⟨ai,H',J,q⟩:=hs
  exact fin (v:=V.non) (u:=Value.none) J rfl q
 |brk=>
  obtain⟨_,_,_,q⟩:=hs
  exact False.elim q
 |cont=>
  obtain⟨_,_,_,q⟩:=hs
  exact False.elim q
section
variable {X:Cx}{x:Str}{p pos:Pos}{e:Expr}{es:List Expr}{t:TA}{id T:String}{r:List V->Hp->VK->Prop}
noncomputable def tCB(r:List V->Hp->VK->Prop)(t:TA):TE:=fun σ H Q=>t σ H fun vs H1=>r vs H1 Q
theorem aCl(hc:m9 X (.builtin id) r)(hg:Gl X x)(hm:X.mg x=none)(hv:bootBuiltins x=some (.builtin id))(ha:PA X (e::es) t)(hn:x≠"__name__":=by decide)(dj:(x==("__debug__":Str))=false:=by decide)
 (he:starEach (e::es) X.env=(false,eval e X.env)::starEach es X.env:=by rfl)(av:(backTo pos (starEach es X.env)).any (·.1)=false:=by rfl):PE X (.Call (.Name x p) (e::es) [] pos) (tCB r t):=by
 intro aa s σ H Q I h
 refine wpAny_Call_Name_kw (oZ I hg hm hv ?_ hn dj)
 exact aPA (thn (ha pos aa s σ H _ I h) fun us s1 ⟨vs,H1,I1,r1,q1⟩=>hc aa s1 σ H1 vs us Q I1 r1 q1) he av
theorem zK(hc:m9 X (.type T) r)(hg:Gl X x)(hm:X.mg x=none)(hv:bootBuiltins x=some (.type T))(ha:PA X (e::es) t)(hn:x≠"__name__":=by decide)(dj:(x==("__debug__":Str))=false:=by decide)
 (he:starEach (e::es) X.env=(false,eval e X.env)::starEach es X.env:=by rfl)(av:(backTo pos (starEach es X.env)).any (·.1)=false:=by rfl):PE X (.Call (.Name x p) (e::es) [] pos) (tCB r t):=by
 intro aa s σ H Q I h
 refine wpAny_Call_Name_kw (oZ I hg hm hv ?_ hn dj)
 exact dE (thn (ha pos aa s σ H _ I h) fun us s1 ⟨vs,H1,I1,r1,q1⟩=>hc aa s1 σ H1 vs us Q I1 r1 q1) he av
end
end L2
namespace HT
open PySem PyProof.Rows
section
open PySem.SeqAt
open PySem.AutoSeq1 (wpAny_loadPart')
open PySem.MeetsSeq PySem.MeetsSeq2 PySem.MeetsSeq3
end
section
variable {prog:Program}{w:World}{A:Around}{E:Value->Shared->Prop}{s:Shared}
noncomputable def sIx(n d:Nat):Option Int->Nat
 |none=>d
 |some v=>if v<0 then(v+(n:Int)).toNat else min v.toNat n
theorem aBE(n d:Nat):sIx n d none=d:=rfl
end
end HT
namespace L2
open PySem PySem.Spec PyProof.Rows
abbrev TO:=St->Hp->(Option Int->Hp->Prop)->Prop
def PO(X:Cx)(e:Option Expr)(t:TO):Prop:=
 ∀(aa:List (Addr×Obj))(s:Shared)(σ:St)(H:Hp)(Q:Option Int->Hp->Prop),Inv X aa σ H s->t σ H Q->
  wpAny (model X.prog X.w) X.A (evalPart e X.env) (fun u s'=>∃o H',Inv X aa σ H' s'/\IsPart u o/\Q o H') X.xe s
noncomputable def tNoPart:TO:=fun _ H Q=>Q none H
noncomputable def tPart(t:TE):TO:=fun σ H Q=>t σ H fun x H1=>∃i,x=.int i/\Q (some i) H1
theorem oJ{ns:List Int}:∀{us:List Value},Vals (ns.map V.int) us->IntsAre us ns:=by
 induction ns with
 |nil=>intro us r;rw[bC]at r;cases r;exact .nil
 |cons n ns ih=>
  intro us r;rw[aM]at r;cases r with
  |cons r1 r2=>
   obtain⟨t,e⟩:=r1;subst e
   exact .cons n t (ih r2)
section
variable {X:Cx}{e:Expr}{te:TE}{lo hi:Option Expr}{tl th:TO}{pos p2:Pos}
theorem aKe:PO X none tNoPart:=by
 intro aa s σ H Q I h;rw[evalPart_none]
 exact wpAny_pure ⟨none,H,I,.none,h⟩
theorem vE(h:PE X e te):PO X (some e) (tPart te):=by
 intro aa s σ H Q I hw;rw[evalPart_some]
 refine thn (h aa s σ H _ I hw) fun u s1 zz=>?_
 obtain⟨x,H1,I1,r1,q1⟩:=zz;obtain⟨i,rfl,q⟩:=q1;obtain⟨t,rfl⟩:=r1
 exact⟨some i,H1,I1,.int i t,q⟩
def SlR(X:Cx)(r:V->Option Int->Option Int->Hp->VK->Prop):Prop:=
 ∀(aa:List (Addr×Obj))(s:Shared)(σ:St)(H:Hp)(x:V)(v vl vu:Value)(lo hi:Option Int)(sl:Addr)(Q:VK),Inv X aa σ H s->RelV x v->s.heap.IsSliceOf sl vl vu .none->IsPart vl lo->IsPart vu hi->r x lo hi H Q->
  ∃T id,typeLookup (.type T) "__getitem__"=pure (some (.builtin id))/\s.TypeIs v T/\wpAny (model X.prog X.w) X.A (getItem v (.ref sl)) (EP X aa σ Q) X.xe s
noncomputable def tSl(r:V->Option Int->Option Int->Hp->VK->Prop)(te:TE)(tl th:TO):TE:=fun σ H Q=>te σ H fun x H1=>tl σ H1 fun l H2=>th σ H2 fun u H3=>r x l u H3 Q
theorem aGQ{r:V->Option Int->Option Int->Hp->VK->Prop}(hr:SlR X r)(he:PE X e te)(hl:PO X lo tl)(hu:PO X hi th):PE X (.Subscript e (.Slice lo hi none p2) pos) (tSl r te tl th):=by
 intro aa s σ H Q I h
 refine Subscript_ (thn (he aa s σ H _ I h) fun v s1 zz=>?_)
 obtain⟨x,H1,I1,r1,q1⟩:=zz
 refine wpAny_Slice (thn (hl aa s1 σ H1 _ I1 q1) fun vl s2 ⟨l,H2,I2,pl,q2⟩=>thn (hu aa s2 σ H2 _ I2 q2) fun vu s3 zz=>?_)
 obtain⟨u,H3,I3,pu,q3⟩:=zz;rw[evalPart_none]
 refine wpAny_pure ?_
 have I4:Inv X aa σ H3 {s3 with heap:=s3.heap.push {cls:=.type "slice",data:=.fields #[vl,vu,.none]}}:=I3.kept (t':=s3.toks) fun b ob q=>Heap.get?_push_of_some _ q
 obtain⟨T,id,hT,ht,hg⟩:=hr aa {s3 with heap:=s3.heap.push {cls:=.type "slice",data:=.fields #[vl,vu,.none]}} σ H3 x v vl vu l u s3.heap.objs.size Q I4 r1 (Heap.IsSliceOf.new ..) pl pu q3;show wpAny (model X.prog X.w) X.A (subscriptTail e (.Slice lo hi none p2) v (.ref s3.heap.objs.size)) (EP X aa σ Q) X.xe {s3 with heap:=s3.heap.push {cls:=.type "slice",data:=.fields #[vl,vu,.none]}}
 exact tail_any (ops:=[.ref s3.heap.objs.size,v]) ht hT hg (by with_unfolding_all rfl)
def aEL(xs:List V)(lo hi:Option Int):List V:=(xs.drop (HT.sIx xs.length 0 lo)).take (HT.sIx xs.length xs.length hi - HT.sIx xs.length 0 lo)
theorem aCc(xs:List V)(lo hi:Option Int):(aEL xs lo hi).length<=xs.length:=by
 unfold aEL;rw[dR,aOX]
 lia
end
variable{i:Int}{j:Nat}{α:Type}
noncomputable def ixN(n:Nat)(i:Int):Option Nat:=if 0<=i then(if i<n then some i.toNat else none)else if -(n:Int)<=i then some (i+n).toNat else none
def atI{α:Type}(xs:List α)(i:Int):Option α:=(ixN xs.length i).bind fun j=>xs[j]?
theorem aD0{n:Nat}(h:ixN n i=some j):seqIndex? i n=some j/\j<n/\ -(n:Int)<=i/\i<n:=by
 unfold ixN at h;by_cases h0:0<=i
 ·rw[if_pos h0]at h;by_cases h1:i<n
  ·rw[if_pos h1]at h;have e:i.toNat=j:=cH.inj h
   exact⟨by rw[seqIndex_of h0 h1,e],by lia,by lia,h1⟩
  ·rw[if_neg h1]at h;cases h
 ·rw[if_neg h0]at h;by_cases h1: -(n:Int)<=i
  ·rw[if_pos h1]at h;have e:(i+n).toNat=j:=cH.inj h
   exact⟨by rw[seqIndex_neg (by lia) h1,e],by lia,h1,by lia⟩
  ·rw[if_neg h1]at h;cases h
theorem u7{xs:List α}{v:α}(h:atI xs i=some v):∃j,seqIndex? i xs.length=some j/\xs[j]?=some v/\j<xs.length/\ -(xs.length:Int)<=i/\i<xs.length:=by
 unfold atI at h;cases e:ixN xs.length i with
 |none=>rw[e]at h;cases h
 |some j=>
  rw[e]at h;obtain⟨h1,h2,h3,h4⟩:=aD0 e
  exact⟨j,h1,h,h2,h3,h4⟩
theorem aD2{xs:List α}{v:α}(h:xs[j]?=some v):atI xs (j:Int)=some v:=by
 have hj:j<xs.length:=(aR.mp h).1;have e:ixN xs.length (j:Int)=some j:=by
  unfold ixN;rw[if_pos (by lia),if_pos (by lia)];simp
 unfold atI;rw[e];exact h
def PlainIx(b:Expr):Prop:=∀o i,subscripted b false o i=operate [o,i] (getItem o i)
def IxR(X:Cx)(r:R2):Prop:=
 ∀(value slice:Expr)(aa:List (Addr×Obj))(s:Shared)(σ:St)(H:Hp)(x y:V)(v u:Value)(Q:VK),Inv X aa σ H s->RelV x v->RelV y u->r x y H Q->
  subscripted slice false v u=operate [v,u] (getItem v u)->wpAny (model X.prog X.w) X.A (subscriptTail value slice v u) (EP X aa σ Q) X.xe s
def MtR(X:Cx)(id:String)(r:V->List V->Hp->VK->Prop):Prop:=
 ∀(aa:List (Addr×Obj))(s:Shared)(σ:St)(H:Hp)(x:V)(xs:List V)(v:Value)(us:List Value)(Q:VK),Inv X aa σ H s->RelV x v->Vals xs us->r x xs H Q->
  wpAny (model X.prog X.w) X.A (call (.builtin id) (v::us)) (EP X aa σ Q) X.xe s
section
variable {X:Cx}{a b:Expr}{ta tb:TE}{pos:Pos}
variable{r:R2}{aa:List (Addr×Obj)}{σ:St}{H:Hp}{s:Shared}{p:Addr}{xs:List V}{x:V}{v:Value}
theorem IxR.or{r':R2}(h:IxR X r)(h':IxR X r'):IxR X (fun x y H Q=>r x y H Q\/r' x y H Q):=by
 intro value slice aa s σ H x y v u Q I rx ry q hs;rcases q with q|q
 ·exact h value slice aa s σ H x y v u Q I rx ry q hs
 ·exact h' value slice aa s σ H x y v u Q I rx ry q hs
theorem aNf(hr:IxR X r)(ha:PE X a ta)(hb:PE X b tb)(hs:PlainIx b):PE X (.Subscript a b pos) (tOp r ta tb):=by
 intro aa s σ H Q I h
 exact Subscript_ (aLW ha hb I h fun v u s2 x y H2 I2 rx ry q=>hr a b aa s2 σ H2 x y v u Q I2 rx ry q (hs _ _))
def aKc(K:aO):R2:=fun x y H Q=>∃p xs i v,x=.ref p/\y=.int i/\SqL K H p xs/\atI xs i=some v/\Q v H
def rIxT(K:aO):R2:=fun x y H Q=>∃p xs i v,x=.ref p/\y=.int i/\SqT K H p xs/\atI xs i=some v/\Q v H
def rIxS:R2:=fun x y H Q=>∃z i c,x=.str z/\y=.int i/\z.length<=sizeLine/\atI z.cps.toList i=some c/\Q (.str ⟨#[c]⟩) H
theorem aIS:IxR X (aKc X.K):=by
 intro value slice aa s σ H x y v u Q I rx ry h hs;obtain⟨p,xs,i,z,rfl,rfl,hq,he,q⟩:=h;cases rx;obtain⟨t,rfl⟩:=ry;obtain⟨its,r,pl,hz⟩:=I.list hq;obtain⟨j,h1,h2,h3,h4,h5⟩:=u7 he;obtain⟨w,ew,fg⟩:=r.get h2;have hl:=r.length;have hn:=line63;have fin:EP X aa σ Q w s:=⟨z,H,I,fg,q⟩;by_cases h0:0<=i
 ·have hj:i.toNat=j:=by
   rw[seqIndex_of h0 h5]at h1
   exact cH.inj h1
  exact item_listR pl.isList h0 (by lia) (by rw[hj];simpa using ew) fin hs
 ·have hj:(i+(its.toArray.size:Int)).toNat=j:=by
   rw[seqIndex_neg (by lia) h4]at h1;rw[bF,<-hl]
   exact cH.inj h1
  exact subscriptTail_builtinR (x:=w) pl.isList.typeIs slot_list_getitem.lookup
   (wpAny_getItem_list_neg (Q:=fun r s'=>r=w/\EP X aa σ Q r s') pl.isList (by lia) (by rw[bF]<;>lia) (by lia) (by rw[hj];simpa using ew) ⟨rfl,fin⟩) hs
theorem aMF:IxR X (rIxT X.K):=by
 intro value slice aa s σ H x y v u Q I rx ry h hs;obtain⟨p,xs,i,z,rfl,rfl,hq,he,q⟩:=h;cases rx;obtain⟨t,rfl⟩:=ry;obtain⟨its,r,pl,hz⟩:=I.tuple hq;obtain⟨j,h1,h2,h3,h4,h5⟩:=u7 he;obtain⟨w,ew,fg⟩:=r.get h2;have hl:=r.length;have hn:=line63;have fin:EP X aa σ Q w s:=⟨z,H,I,fg,q⟩
 exact subscriptTail_builtinR (x:=w) pl.typeIs slot_tuple_getitem.lookup
  (getItem_tuple (j:=j) (Q:=fun r s'=>r=w/\EP X aa σ Q r s') pl (by lia) (by lia) (by rw[bF,<-hl];exact h1) (by simpa using ew) ⟨rfl,fin⟩) hs
theorem aLX:IxR X rIxS:=by
 intro value slice aa s σ H x y v u Q I rx ry h hs;obtain⟨z,i,c,rfl,rfl,hz,he,q⟩:=h;obtain⟨t,rfl⟩:=rx;obtain⟨t',rfl⟩:=ry;obtain⟨j,h1,h2,h3,h4,h5⟩:=u7 he;have hl:z.cps.toList.length=z.length:=by simp[Str.length]
 rw[hl]at h1 h4 h5;have hn:=line63
 exact tail_any (typeIs_str s z t) slot_str_getitem.lookup (getItem_str (c:=c) (by
  have e1:decide (i< -(2^63:Int))=false:=decide_eq_false (by lia);have e2:decide (i>=2^63)=false:=decide_eq_false (by lia);rw[e1,e2,Bool.or_false]) (by rw[h1];simpa using h2) ⟨.str ⟨#[c]⟩,H,I.tok _,⟨_,rfl⟩,q⟩) hs
def rIx(K:aO):R2:=fun x y H Q=>aKc K x y H Q\/rIxT K x y H Q\/rIxS x y H Q
theorem aMJ:IxR X (rIx X.K):=aIS.or (aMF.or aLX)
theorem aCy(its:List Value)(n j:Nat)(u:Value):Obj.mapSeq (·.setIfInBounds j u) {cls:=.type "list",data:=.seq its.toArray n}={cls:=.type "list",data:=.seq (its.set j u).toArray n}:=by
 simp[Obj.mapSeq]
theorem Inv.lst(I:Inv X aa σ H s)(h:H p=some (.lst xs)):
 ∃(its:List Value)(n:Nat),Vals xs its/\s.heap.get? p=some {cls:=.type "list",data:=.seq its.toArray n}/\xs.length<=sizeLine:=by
 obtain⟨z,its,n,r,e⟩:=I.hok p _ h
 exact⟨its,n,r,e,z⟩
theorem Inv.lstUpd{ys:List V}{its its':List Value}{n n':Nat}{f:Obj->Obj}(I:Inv X aa σ H s)(h:H p=some (.lst xs))
 (ho:s.heap.get? p=some {cls:=.type "list",data:=.seq its.toArray n})(hf:f {cls:=.type "list",data:=.seq its.toArray n}={cls:=.type "list",data:=.seq its'.toArray n'})(r:Vals ys its')(hz:ys.length<=sizeLine)(t:Nat):
 Inv X aa σ (upd H p (.lst ys)) {s with heap:=s.heap.update p f,toks:=t}:=by
 have e:(s.heap.update p f).get? p=some {cls:=.type "list",data:=.seq its'.toArray n'}:=by
  rw[Heap.get?_update_self f ho (by rw[hf]<;>rfl),hf]
 refine I.write (x:=p) (e:=p) (by rw[h];trivial) (.inl rfl) (fun b u hb q=>(Heap.get?_update_other _ _ (Ne.symm hb)).trans q) ⟨_,e⟩ ?_
 exact⟨hz,its',n',r,e⟩
def aHQ:V->V->V->Hp->(Hp->Prop)->Prop:=fun o i v H Q=>∃p xs k j,o=.ref p/\i=.int k/\H p=some (.lst xs)/\ixN xs.length k=some j/\Q (upd H p (.lst (xs.set j v)))
theorem aCr:aLo X aHQ:=by
 intro aa s σ H o i v ov iv u Q I ro ri rv h;obtain⟨p,xs,k,j,rfl,rfl,hp,hj,q⟩:=h;cases ro;obtain⟨t,rfl⟩:=ri;obtain⟨its,n,r,ho,hz⟩:=I.lst hp;obtain⟨h1,h2,h3,h4⟩:=aD0 hj;have hl:=r.length;have hn:=line63;have I':Inv X aa σ (upd H p (.lst (xs.set j v))) {s with heap:=s.heap.update p (Obj.mapSeq (·.setIfInBounds j u))}:=
  I.lstUpd hp ho (aCy its n j u) (r.set rv j) (by rw[cJ];exact hz) s.toks
 by_cases h0:0<=k
 ·have hk:k.toNat=j:=by
   rw[seqIndex_of h0 h4]at h1
   exact cH.inj h1
  exact PySem.W.ki_setAt ho h0 (by lia) (by rw[bF,<-hl];exact h4) (by rw[hk];exact⟨_,I',q⟩)
 ·have hk:(k+(its.toArray.size:Int)).toNat=j:=by
   rw[seqIndex_neg (by lia) h3]at h1;rw[bF,<-hl]
   exact cH.inj h1
  exact PySem.W.ki_setBack ho (by lia) (by rw[bF,<-hl];exact h3) (by lia) (by rw[hk];exact⟨_,I',q⟩)
theorem aA5(lo hi:Option Int)(n:Nat):(sliceBounds lo hi none n).1=((HT.sIx n 0 lo:Nat):Int)/\(sliceBounds lo hi none n).2.1=((HT.sIx n n hi:Nat):Int)/\(sliceBounds lo hi none n).2.2=1:=by
 refine⟨?_,?_,rfl⟩
 ·cases lo with
  |none=>simp[sliceBounds,HT.sIx]
  |some i=>
   simp only[sliceBounds,HT.sIx,aPB,show(1:Int)>0 by decide,if_true];by_cases h:i<0
   ·simp only[h,if_true]<;>lia
   ·simp only[h,if_false]<;>lia
 ·cases hi with
  |none=>simp[sliceBounds,HT.sIx]
  |some i=>
   simp only[sliceBounds,HT.sIx,aPB,show(1:Int)>0 by decide,if_true];by_cases h:i<0
   ·simp only[h,if_true]<;>lia
   ·simp only[h,if_false]<;>lia
theorem yK(its:List Value)(lo hi:Option Int):slicePick its.toArray lo hi none=((its.drop (HT.sIx its.length 0 lo)).take (HT.sIx its.length its.length hi - HT.sIx its.length 0 lo)).toArray:=by
 obtain⟨h1,h2,h3⟩:=aA5 lo hi its.toArray.size;unfold slicePick;rw[h1,h2,h3];simp only[sliceRange_one,pick_run,bF]<;>rfl
def rSlL(K:aO):V->Option Int->Option Int->Hp->VK->Prop:=fun x lo hi H Q=>∃a xs,x=.ref a/\SqL K H a xs/\∀p,H p=none->Q (.ref p) (upd H p (.lst (aEL xs lo hi)))
theorem aJE:SlR X (rSlL X.K):=by
 intro aa s σ H x v vl vu lo hi sl Q I rx hs pl pu h;obtain⟨a,xs,rfl,hx,q⟩:=h;cases rx;obtain⟨its,r,ht,hz⟩:=I.list hx;have ah:=r.length
 refine⟨"list",_,slot_list_getitem.lookup,ht.isList.typeIs,?_⟩
 refine wpAny_getItem_list_slice ht.isList hs pl pu .none (by simp) ?_ (by rw[bF]<;>lia)
 rw[yK,<-ah]
 refine⟨.ref s.heap.objs.size,_,I.laid (t':=s.toks) (o:=.lst (aEL xs lo hi)) (fun b ob q=>Heap.get?_push_of_some _ q) (bG _) ?_,rfl,q _ (I.hok.fresh (bG _))⟩
 exact⟨cB (aCc xs lo hi) hz,_,0,(r.drop (HT.sIx xs.length 0 lo)).take (HT.sIx xs.length xs.length hi - HT.sIx xs.length 0 lo),Heap.get?_push_size _ rfl⟩
noncomputable def flatV:V->Bool
 | .non=>true
 | .bl _=>true
 | .int _=>true
 | .str _=>true
 |_=>false
noncomputable def eqV:V->V->Bool
 | .non,.non=>true
 | .bl a,.bl b=>a==b
 | .bl a,.int b=>(if a then 1 else 0)==b
 | .int a,.bl b=>a==(if b then 1 else 0)
 | .int a,.int b=>a==b
 | .str a,.str b=>a==b
 |_,_=>false
theorem aL5{A:Around}{y:V}{u:Value}(ry:RelV y u)(rx:RelV x v)(fy:flatV y=true)(fx:flatV x=true):SeqAt.EqAt A s u v (eqV y x):=by
 cases y with
 |non=>
  cases ry;cases x with
  |non=>cases rx;exact SeqAt.EqAt.same _
  |bl b=>cases rx;exact SeqAt.EqAt.none_bool b
  |int b=>obtain⟨t,rfl⟩:=rx;exact SeqAt.EqAt.none_int b t
  |str b=>obtain⟨t,rfl⟩:=rx;exact SeqAt.EqAt.none_str b t
  |_=>exact absurd (show false=true from fx) bY
 |bl a=>
  cases ry;cases x with
  |non=>cases rx;exact SeqAt.EqAt.bool_none a
  |bl b=>cases rx;exact SeqAt.EqAt.bool_bool a b
  |int b=>obtain⟨t,rfl⟩:=rx;exact SeqAt.EqAt.bool_int a b t
  |str b=>obtain⟨t,rfl⟩:=rx;exact SeqAt.EqAt.bool_str a b t
  |_=>exact absurd (show false=true from fx) bY
 |int a=>
  obtain⟨t',rfl⟩:=ry;cases x with
  |non=>cases rx;exact SeqAt.EqAt.int_none a t'
  |bl b=>cases rx;exact SeqAt.EqAt.int_bool a t' b
  |int b=>obtain⟨t,rfl⟩:=rx;exact SeqAt.EqAt.int_int a t' b t
  |str b=>obtain⟨t,rfl⟩:=rx;exact SeqAt.EqAt.int_str a t' b t
  |_=>exact absurd (show false=true from fx) bY
 |str a=>
  obtain⟨t',rfl⟩:=ry;cases x with
  |non=>cases rx;exact SeqAt.EqAt.str_none a t'
  |bl b=>cases rx;exact SeqAt.EqAt.str_bool a t' b
  |int b=>obtain⟨t,rfl⟩:=rx;exact SeqAt.EqAt.str_int a t' b t
  |str b=>obtain⟨t,rfl⟩:=rx;exact SeqAt.EqAt.str_str a t' b t
  |_=>exact absurd (show false=true from fx) bY
 |_=>exact absurd (show false=true from fy) bY
theorem aAZ:m9 X (.builtin "len") (fun xs H Q=>∃p ys,xs=[.ref p]/\(SqL X.K H p ys\/SqT X.K H p ys)/\Q (.int ys.length) H):=by
 intro aa s σ H xs us Q I r h;obtain⟨p,ys,rfl,hq,q⟩:=h;obtain⟨u,rfl,rx⟩:=vals1 r;cases rx;have hn:=line63;rcases hq with hq|hq
 ·obtain⟨its,r',pl,hz⟩:=I.list hq;have ah:=r'.length
  exact Calls.call_len_list pl.isList (by simp only[bF]<;>lia) ⟨.int ys.length,H,I.tok _,⟨s.toks+1,by rw[bF,ah]⟩,q⟩
 ·obtain⟨its,r',pl,hz⟩:=I.tuple hq;have ah:=r'.length
  exact len_tuple pl (by simp only[bF]<;>lia) ⟨.int ys.length,H,I.tok _,⟨s.toks+1,by rw[bF,ah]⟩,q⟩
theorem aAu:m9 X (.type "list") (fun xs H Q=>∃p ys,xs=[.ref p]/\(SqL X.K H p ys\/SqT X.K H p ys)/\∀l,H l=none->Q (.ref l) (upd H l (.lst ys))):=by
 intro aa s σ H xs us Q I r h;obtain⟨p,ys,rfl,hq,q⟩:=h;obtain⟨u,rfl,rx⟩:=vals1 r;cases rx;have fin:∀(its:List Value),Vals ys its->ys.length<=sizeLine->∀(h':Heap)(c':Nat),(∀b o',s.heap.get? b=some o'->h'.get? b=some o')->
  h'.get? s.heap.objs.size=some {cls:=.type "list",dict:=none,data:=.seq its.toArray c',slots:=#[]}->EP X aa σ Q (.ref s.heap.objs.size) {s with heap:=h'}:=fun its r' hz h' c' kp e=>
  ⟨.ref s.heap.objs.size,_,I.laid (t':=s.toks) kp (bG _) (show jK X.prog X.w _ h' _ (.lst ys)from⟨hz,its,c',r',e⟩),rfl,q _ (I.hok.fresh (bG _))⟩
 rcases hq with hq|hq
 ·obtain⟨its,r',pl,hz⟩:=I.list hq;have ah:=r'.length;obtain⟨o,ho,hc,n,hd⟩:=pl.isList
  exact call_list_seq p (.inl rfl) ho hc hd (fun h' c' kp e=>fin its r' hz h' c' kp e) (by simp only[bF]<;>lia)
 ·obtain⟨its,r',pl,hz⟩:=I.tuple hq;have ah:=r'.length;obtain⟨o,ho,hc,n,hd⟩:=pl
  exact call_list_seq p (.inr rfl) ho hc hd (fun h' c' kp e=>fin its r' hz h' c' kp e) (by simp only[bF]<;>lia)
def tyV(K:aO)(T:String)(x:V)(H:Hp):Prop:=match x with
 | .str _=>T="str"
 | .int _=>T="int"
 | .ref p=>(T="list"/\∃xs,SqL K H p xs)\/(T="tuple"/\∃o,K.lookup p=some o/\o.cls=.type "tuple"/\o.dict=none)\/
  (T="dict"/\((∃kvs,H p=some (.dK kvs))\/∃kvs,H p=some (.dT kvs)))\/(T="set"/\∃S n,H p=some (.set S n))
 |_=>False
theorem aMk{T:String}(I:Inv X aa σ H s)(r:RelV x v)(ty:tyV X.K T x H):
 s.TypeIs v T/\∀a,v=.ref a->∃ob,s.heap.get? a=some ob/\ob.dict=none:=by
 cases x with
 |str z=>
  obtain⟨t,rfl⟩:=r;cases (show T="str" from ty)
  exact⟨typeIs_str s z t,fun _ e=>nomatch e⟩
 |int i=>
  obtain⟨t,rfl⟩:=r;cases (show T="int" from ty)
  exact⟨typeIs_int s i t,fun _ e=>nomatch e⟩
 |ref p=>
  cases r;rcases ty with⟨rfl,xs,hq⟩| ⟨rfl,o,hk,hc,hd⟩| ⟨rfl,hk⟩| ⟨rfl,S,n,hk⟩
  ·obtain⟨its,_,pl,_⟩:=I.list hq
   refine⟨pl.isList.typeIs,fun a e=>?_⟩
   cases e;obtain⟨o,n,e,c,hd,_⟩:=pl
   exact⟨o,e,hd⟩
  ·refine⟨⟨o,I.kIn p o hk,hc⟩,fun a e=>?_⟩
   cases e
   exact⟨o,I.kIn _ o hk,hd⟩
  ·have z:∃o,s.heap.get? p=some o/\o.ExactDict:=by
    rcases hk with⟨kvs,hk⟩| ⟨kvs,hk⟩
    ·obtain⟨_,_,_,_,o,_,_,e,ex,_⟩:=I.hok p _ hk
     exact⟨o,e,ex⟩
    ·obtain⟨_,_,_,_,o,_,_,e,ex,_⟩:=I.hok p _ hk
     exact⟨o,e,ex⟩
   obtain⟨o,e,ex⟩:=z
   refine⟨⟨o,e,ex.1⟩,fun a e2=>?_⟩
   cases e2
   exact⟨o,e,ex.2.1⟩
  ·obtain⟨o,_,_,_,e,ex,_⟩:=I.hok p _ hk
   refine⟨⟨o,e,ex.1⟩,fun a e2=>?_⟩
   cases e2
   exact⟨o,e,ex.2.1⟩
 |_=>exact False.elim ty
noncomputable def tBM(K:aO)(T:String)(r:V->List V->Hp->VK->Prop)(to:TE)(t:TA):TE:=fun σ H Q=>to σ H fun x H1=>tyV K T x H1/\t σ H1 fun xs H2=>r x xs H2 Q
variable {o e:Expr}{es:List Expr}{to:TE}{t:TA}{name:Str}{al ak:Pos}{T id:String}{r:V->List V->Hp->VK->Prop}
theorem aKF(pa:PlainAttrs T)(slot:Slot T name id)(hty:typeOf (.builtin id)=pure (.type "method_descriptor"))(hm:MtR X id r)(ho:PE X o to)(ha:PA X (e::es) t)
 (dn:attributeBase o name X.env (eval o X.env)=eval o X.env:=by rfl)
 (iw:((backTo ak (starEach (e::es) X.env)).all (fun x=> !x.1)&&(backToKw ak (keywordEach [] X.env)).all (fun x=>x.1.isSome)
  &&decide ((e::es).length+([]:List Keyword).length+(if([]:List Keyword).isEmpty then 0 else 1)<30))=true:=by rfl)
 (dh:(al.endLine==ak.line)=true:=by rfl)(hs:starEach (e::es) X.env=(false,eval e X.env)::starEach es X.env:=by rfl)(ca:(backTo ak (starEach es X.env)).any (·.1)=false:=by rfl):
 PE X (.Call (.Attribute o name al) (e::es) [] ak) (tBM X.K T r to t):=by
 intro aa s σ H Q I h
 refine wpAny_Call_method_late dn iw dh rfl (thn (ho aa s σ H _ I h) fun v s1 zz=>?_)
 obtain⟨x,H1,I1,r1,ty,q1⟩:=zz;obtain⟨h1,h2⟩:=aMk I1 r1 ty
 refine⟨T,id,pa,slot,hty,h1,h2,?_⟩
 have hA:=ha ak aa s1 σ H1 _ I1 q1;rw[hs]at hA|-
 refine Calls.callWith_builtin (by show(false||(backTo ak (starEach es X.env)).any (·.1))=false;rw[ca]<;>rfl) (Calls.evalArgs_plain ?_)
 exact thn hA fun us s2 ⟨vs,H2,I2,r2,q2⟩=>hm aa s2 σ H2 x vs v us Q I2 r1 r2 q2
end
def MtM(X:Cx)(id:String)(r:V->List V->Hp->VK->Prop):Prop:=
 ∀(aa:List (Addr×Obj))(s:Shared)(σ:St)(H:Hp)(x:V)(xs:List V)(v:Value)(us:List Value)(Q:VK),Inv X aa σ H s->RelV x v->Vals xs us->r x xs H Q->
  wpAny (model X.prog X.w) X.A (call (.builtin id) (v::us)) (EP X aa σ Q) X.xe s
theorem Vals.one:∀{x:V}{us:List Value},Vals [x] us->∃u,us=[u]/\RelV x u
 |_,_,.cons r .nil=>⟨_,rfl,r⟩
theorem Vals.two{x y:V}{us:List Value}(h:Vals [x,y] us):∃u v,us=[u,v]/\RelV x u/\RelV y v:=by
 cases h with
 |cons r h=>
  cases h with
  |cons q h=>
   cases h
   exact⟨_,_,rfl,r,q⟩
section
variable {X:Cx}{aa:List (Addr×Obj)}{σ:St}{H:Hp}{s:Shared}{l b:Addr}{xs ys zs:List V}
variable{its:List Value}{t':Nat}
theorem Inv.lset{its':List Value}{n:Nat}{f:Array Value->Array Value}(I:Inv X aa σ H s)(hH:H l=some (.lst xs))
 (e:s.heap.get? l=some {cls:=.type "list",data:=.seq its.toArray n})(hf:f its.toArray=its'.toArray)(hv:Vals ys its')(hz:ys.length<=sizeLine):
 Inv X aa σ (upd H l (.lst ys)) {s with heap:=s.heap.update l (Obj.mapSeq f),toks:=t'}:=by
 have q:=PySem.IsL.update e f;rw[hf]at q
 refine I.write (x:=l) (e:=l) (by rw[hH];exact trivial) (.inl rfl) (fun b' u hb hu=>(Heap.get?_update_other s.heap (Obj.mapSeq f) (Ne.symm hb)).trans hu) ⟨_,q⟩ ?_
 exact⟨hz,its',_,hv,q⟩
theorem Inv.lnew(I:Inv X aa σ H s)(hv:Vals ys its)(hz:ys.length<=sizeLine):
 Inv X aa σ (upd H s.heap.objs.size (.lst ys)) {s with heap:=s.heap.push {cls:=.type "list",data:=.seq its.toArray},toks:=t'}:=
 I.laid (fun _ _ q=>Heap.get?_push_of_some _ q) (bG _) ⟨hz,its,0,hv,Heap.get?_push_size _ rfl⟩
theorem Inv.fresh(I:Inv X aa σ H s):H s.heap.objs.size=none:=I.hok.fresh (bG _)
theorem Inv.lstM(I:Inv X aa σ H s)(hH:H l=some (.lst xs)):xs.length<=sizeLine/\∃(its:List Value)(n:Nat),Vals xs its/\xs.length=its.length/\s.heap.get? l=some {cls:=.type "list",data:=.seq its.toArray n}:=by
 obtain⟨z,its,n,r,e⟩:=I.hok l _ hH
 exact⟨z,its,n,r,r.length,e⟩
end
section
variable {X:Cx}
def rAppend:V->List V->Hp->VK->Prop:=fun x vs H Q=>∃l xs y,x=.ref l/\vs=[y]/\H l=some (.lst xs)/\xs.length<sizeLine/\Q .non (upd H l (.lst (xs++[y])))
theorem zE:MtM X "list.append" rAppend:=by
 intro aa s σ H x vs v us Q I rx rv h;obtain⟨l,xs,y,rfl,rfl,hH,hz,q⟩:=h;cases rx;obtain⟨u,rfl,ru⟩:=rv.one;obtain⟨z,its,n,r,hl,e⟩:=I.lstM hH
 refine call_meets F.slot_list_append ⟨_,e,rfl⟩ F.entry_list_append (F.args_list_append_2 _ _) (PySem.list_append l its.toArray n u (by rw[bF];lia)) ⟨e,?_⟩
 refine⟨.non,_,I.lset (its':=its++[u]) hH e (by simp) (r.append (.cons ru .nil)) ?_,rfl,q⟩
 rw[aU,List.length_singleton]
 lia
end
section
variable {prog:Program}{w:World}{A:Around}{E:Value->Shared->Prop}{s:Shared}
end
section
variable {X:Cx}
end
end L2
namespace Att
open PySem PySem.W PySem.Calls PyProof.Rows
variable{P:Params}{h:Heap}
theorem uN:∀(ns:List Int)(vs:List Value),WellAll P h vs (ns.map WData.int)->IntsAre vs ns:=by
 intro ns;induction ns with
 |nil=>
  intro vs w;rw[bC]at w;cases w
  exact .nil
 |cons n ns ih=>
  intro vs w;rw[aM]at w;cases w with
  |cons a b=>
   cases a
   exact .cons _ _ (ih _ b)
theorem aEX{l:OpenLaw}{n:Nat}(hn:l.most=some n){args:List WData}{vals:List Value}
 (ip:l.row.toRowW.claim.pre args=true)(il:WellAll P h vals args):
 ∃a vs ns,vals=[Value.ref a]/\args=[WData.list (ns.map WData.int)]/\h.get? a=some {cls:=.type "list",data:=.seq vs.toArray}/\IntsAre vs ns/\ns.length<=n:=by
 have hsh:WShape.hasAll [] args [.list .int]=true:=(pre_splitW ip).1;have hc:l.pre.holds [] {args:=args}=true:=(pre_splitW ip).2;obtain⟨d,r,rfl,h1,h2⟩:=hasAllW_cons hsh;obtain rfl:=hasAllW_nil h2;obtain⟨xs,rfl,h3⟩:=hasW_list h1;obtain⟨ns,rfl⟩:=items_int h3;have ah:ns.length<=n:=by
  unfold OpenLaw.pre at hc;have h4:(WTm.not (.lt (.lit (.int (n:Int))) (.len (.arg 0)))).holds [] {args:=[.list (ns.map .int)]}=true:=by
   have h4:=(holds_andW hc).1;rw[hn]at h4
   exact h4
  have h5:=condW_of h4 (w_not (w_lt w_lit (w_len_list (w_arg rfl))));rw[aP]at h5
  refine aOx fun q=>?_
  have q':(n:Int)<((ns.length:Nat):Int):=by lia
  first
   | (rw[decide_eq_true q']at h5;exact absurd h5 (by decide))
   | (simp at h5;lia)
 cases il with
 |cons w1 w2=>
  cases w2;cases w1 with
  |list ho i'=>exact⟨_,_,ns,rfl,rfl,ho,uN ns _ i',ah⟩
theorem aEP(l:OpenLaw)(args:List WData):l.row.toRowW.claim.post args (.bool true) args=true:=
 postW_of (r:=l.row.toRowW) (X:=(true==true))
  (show WShape.has [] (.bool true) .bool=true by first|rfl|decide|simp[WShape.has,WShape.arms,WShape.armsAll])
  (show(WTm.eq .res (.lit (.bool true))).value [] {args:=args,res:=some (.bool true),after:=args}=some (.bool (true==true))from w_eq_bool (w_res rfl) w_lit) rfl
section
variable {prog:Program}{w:World}{A:Around}{E:Value->Shared->Prop}{s:Shared}{K:Frag}
end
end Att
namespace L2
open PySem PySem.Spec PyProof.Rows
theorem yW:∀{vs:List Value}{ns:List Int},IntsAre vs ns->Vals (ns.map V.int) vs
 |_,_,.nil=>.nil
 |_,_,.cons n t h=>.cons ⟨t,rfl⟩ (yW h)
def Only(H:Hp):Prop:=∀b,H b=none\/∃o xs,H b=some (.frz o (.lst xs))
theorem aHG{P:Program}{w:World}{K:aO}{mg mb:Str->Option Value}{CX:CXT}{k:Nat}{fa a:Addr}{fd:FuncData}{x:Str}{sp:Sp}{aj:Shared}{vs:List Value}{ns:List Int}
 (KX:K.In aj.heap)(gc:aj.heap.Ns mainGlobals mg)(hb:aj.heap.Ns builtinsNs mb)(hbb:∀x:Str,x≠"__name__"->mb x=bootBuiltins x)(gd:aj.heap.NoLimit)(hg:aj.gens=#[])
 (ha:aj.heap.get? a=some {cls:=.type "list",data:=.seq vs.toArray})(hi:IntsAre vs ns)(hl:ns.length<=sizeLine)(hr:Room k callerA)
 (F:∀base:Heap,K.In base->base.Ns mainGlobals mg->mX P w K mg base CX k fa fd [x] sp)(tz:∀(s:Shared)(u:Value),BindsTo s fd ⟨[u],[]⟩ [(x,u)])
 (ii:∀H:Hp,Only H->SqL K H a (ns.map V.int)->sp [.ref a] H (fun v _=>v=.bl true) fun _ _ _=>False)
 (hCX:∀H e s',CX [] H aj (fun _ _ _=>False) e s'->False):
 codeAny (model P w) callerA (.call (.ref fa) ⟨[.ref a],[]⟩) (fun r s'=>r=.ok (.ret (.bool true))/\OldK aj.heap s'.heap/\s'.os=aj.os/\AllBare s'.gens) aj:=by
 have rv:=yW hi;have xg:=hi.length;have core:∀H:Hp,Only H->SqL K H a (ns.map V.int)->HOk P w H aj.heap->(∀b,H b≠none->b=a)->(H a≠none->K.lookup a=none)->
  codeAny (model P w) callerA (.call (.ref fa) ⟨[.ref a],[]⟩) (fun r s'=>r=.ok (.ret (.bool true))/\OldK aj.heap s'.heap/\s'.os=aj.os/\AllBare s'.gens) aj:=by
  intro H hO hS hok hA hK;have base_of:∀{b:Addr}{o:Obj},aj.heap.get? b=some o->H b=none->(aA1 aj.heap H).get? b=some o:=fun e n=>aHS e n
  have qt:∀{b:Addr}{o:Obj}{es:Array DictEntry}{ep:Nat},aj.heap.get? b=some o->o.data=.dict es ep->H b=none:=fun {b o es ep} e d=>by
   cases q:H b with
   |none=>rfl
   |some u=>
    have e':b=a:=hA b (by rw[q];simp);subst e';rw[ha]at e;cases e;have d':Data.seq vs.toArray _=Data.dict es ep:=d;cases d'
  have ut:∀{b:Addr}{m:Str->Option Value},aj.heap.Ns b m->(aA1 aj.heap H).Ns b m:=fun {b m} ⟨o,es,ep,e,d,r⟩=>⟨o,es,ep,base_of e (qt e d),d,r⟩
  have hKb:K.In (aA1 aj.heap H):=fun b o e=>base_of (KX b o e) (by
   cases q:H b with
   |none=>rfl
   |some u=>
    have e':b=a:=hA b (by rw[q];simp);subst e';rw[hK (by rw[q];simp)]at e;cases e)
  have hM:Mod K mg (aA1 aj.heap H):=⟨hKb,ut gc,⟨mb,ut hb,hbb⟩,let ⟨mc,h1,h2⟩:=gd;⟨mc,ut h1,h2⟩⟩;have e0:Env0 P w K mg (aA1 aj.heap H) callerA [] aj H:=⟨rfl,hM,fun b o e=>aJX e,aPR (aFw _ _),trivial,fun b hb=>absurd (show b∈([]:List Addr)from hb) (by simp),hok,.of_eq hg⟩
  refine codeAny_mono ((F _ hKb (ut gc)).run callerA [] aj H ⟨[.ref a],[]⟩ [.ref a] [.ref a] _ _ hr e0 (tz aj (.ref a)) (.cons rfl .nil) (ii H hO hS)) fun r s' h=>?_
  cases r with
  |error e=>exact(hCX H e s' h).elim
  |ok fl=>
   cases fl with
   |next=>exact False.elim h
   |brk=>exact False.elim h
   |cont=>exact False.elim h
   |ret u=>
    obtain⟨v,H',os,bare,un,xz,r',q⟩:=h;have q':v=.bl true:=q;subst q';obtain rfl:u=Value.bool true:=r'
    refine⟨rfl,OldK.of_keep fun b o e=>?_,os,bare⟩
    cases q:H b with
    |none=>exact un.keep b o e q (by intro z;exact absurd (show b∈([]:List Addr)from z) (by simp)) (by simp)
    |some u=>
     rcases hO b with z| ⟨ob,xs,z⟩
     ·rw[q]at z;cases z
     ·have z2:=un.frzs b ob _ z;obtain⟨e1,_⟩:=hok b _ z;obtain⟨e2,_⟩:=xz b _ z2;rw[e]at e1;cases e1
      exact e2
 cases hk:K.lookup a with
 |some o=>
  have e:=KX a o hk;rw[ha]at e;cases e
  refine core (fun _=>none) (fun _=>.inl rfl) (.inr ⟨_,vs.toArray,_,hk,rfl,rfl,rfl,by rw[bF,xg];exact hl,by simpa using rv⟩) (fun b u z=>by have z':(none:Option HO)=some u:=z;cases z') (fun b z=>absurd rfl z) fun z=>absurd rfl z
 |none=>
  refine core (fun b=>if b=a then some (.frz {cls:=.type "list",data:=.seq vs.toArray} (.lst (ns.map V.int)))else none) (fun b=>?_) (.inl (.inr ⟨{cls:=.type "list",data:=.seq vs.toArray},if_pos rfl⟩)) (fun b u z=>?_) (fun b z=>?_) fun _=>hk
  ·by_cases hb:b=a
   ·exact .inr ⟨_,_,if_pos hb⟩
   ·exact .inl (if_neg hb)
  ·by_cases hb:b=a
   ·have z':=(if_pos hb).symm.trans z;cases z';subst hb
    exact⟨ha,by rw[aP];exact hl,vs,_,rv,ha⟩
   ·have z':=(if_neg hb).symm.trans z;cases z'
  ·by_cases hb:b=a
   ·exact hb
   ·exact absurd (if_neg hb) z
noncomputable abbrev KOf{K:aO}{h:Heap}(_:K.In h):aO:=K
end L2
namespace L2
open PySem PySem.Spec PyProof.Rows
noncomputable abbrev CX0:CXT:=fun _ _ _ _ _ _=>False
structure Fun(K:aO)(x qual:Str)(st:Stmt)(f:Addr)(fd:FuncData):Prop where
 ex:∃(oc:Value)(od:Option Addr)(kV doc pm:Value)(an:Option Addr)(bc ct:Value)(fm:Array (Option Value)),
  fd=cL x qual (jM st) (iU st) (gC st) .none kV doc pm an bc ct/\K.lookup f=some ⟨oc,od,.func fd,fm⟩/\dL K bc qual=true
 kp:cN K (.ref f)=true
section
variable {P:Program}{w:World}{K:aO}{mg:Str->Option Value}{base:Heap}
variable{x qual:Str}{st:Stmt}{f:Addr}{fd:FuncData}{ps:List Str}
theorem Fun.ok{N:List Str}{k:Nat}{sp:Sp}(F:Fun K x qual st f fd)(S:pN N ps (gC st))(len:∀vs H Q E,sp vs H Q E->vs.length=ps.length)
 (dm:∀(bc:Value)(A:Around)(outer:List Env)(s:Shared)(H:Hp)(vs:List V)(Q:VK)(E:XK),Room k (A.deeper (envOfC qual (gC st) s.heap.objs.size f bc))->sp vs H Q E->
  ∃t,PSs (aAV CX0 P w K mg base N qual (gC st) f bc A outer s H E).nox (iU st) t/\t {nx:=fun _ H'=>Q .non H',rt:=Q} (start N vs) H):mX P w K mg base CX0 (k+1) f fd ps sp:=by
 obtain⟨oc,od,kV,doc,pm,an,bc,ct,fm,rfl,lk,iz⟩:=F.ex
 refine aKD lk iz S len fun A outer s H vs Q E hr ii=>?_
 obtain⟨t,h,q⟩:=dm bc A outer s H vs Q E hr ii
 exact⟨t,h.nox,q⟩
theorem Fun.binds(F:Fun K x qual st f fd)
 (h:∀(kV doc pm:Value)(an:Option Addr)(bc ct:Value)(us:List Value),us.length=ps.length->bindArgs (cL x qual (jM st) (iU st) (gC st) .none kV doc pm an bc ct) ⟨us,[]⟩=pure (ps.zip us)):Binds K fd ps []:=by
 obtain⟨oc,od,kV,doc,pm,an,bc,ct,fm,rfl,lk,iz⟩:=F.ex
 exact .all (h kV doc pm an bc ct)
theorem aCB{oc:Value}{od an:Option Addr}{fm:Array (Option Value)}{kV doc pm bc ct:Value}(l:K.lookup f=some ⟨oc,od,.func (cL x qual (jM st) (iU st) (gC st) .none kV doc pm an bc ct),fm⟩)
 (c:dL K bc qual=true)(k:cN K (.ref f)=true):Fun K x qual st f (cL x qual (jM st) (iU st) (gC st) .none kV doc pm an bc ct):=⟨⟨oc,od,kV,doc,pm,an,bc,ct,fm,rfl,l,c⟩,k⟩
end
section
variable {X:Cx}
end
variable{H H':Hp}
def Same(H H':Hp):Prop:=∀b o,H b=some o->H' b=some o
theorem Same.refl(H:Hp):Same H H:=fun _ _ h=>h
theorem Same.trans{H1 H2:Hp}(a:Same H H1)(b:Same H1 H2):Same H H2:=fun c o h=>b c o (a c o h)
theorem Same.free(e:Same H H'){l:Addr}(h:H' l=aP4):H l=aP4:=by
 cases q:H l with
 |none=>rfl
 |some o=>
  rw[e l o q]at h;cases h
theorem Same.seq{K:aO}{a:Addr}{xs:List V}(e:Same H H')(h:SqL K H a xs):SqL K H' a xs:=by
 rcases h with(h| ⟨o,h⟩)|h
 ·exact .inl (.inl (e _ _ h))
 ·exact .inl (.inr ⟨o,e _ _ h⟩)
 ·exact .inr h
end L2
namespace PySem
section
variable {M:Model}{A:Around}{E:Value->Shared->Prop}
variable {nm q:Str}{C N:Addr}{bs bm:List Value}{hdct:Bool}{sn:List Str}{sub:List Value}{ab:Bool}{col:Option Bool}{dd:Option Addr}{k0 k1 k2 k3 k5:Option Value}{newId:String}
variable {nm' q':Str}{D N':Addr}{bs' bm':List Value}{hdct':Bool}{sn':List Str}{sub':List Value}{ab':Bool}{col':Option Bool}{jl:Option Addr}{k0' k1' k2' k3' k5':Option Value}{wx:String}
end
end PySem
namespace TL
open PySem L2
variable{H:Hp}{Z:Addr->Prop}{ρ:Rho}{a:Addr}{o:HO}
inductive T where
 |non|bl (b:Bool)|int (i:Int)|str (x:Str)|lst (xs:List T)|tup (xs:List T)|cell (c:Nat)|exc (c:String)
noncomputable abbrev TSt:=List (Option T)
inductive Kd where
 |l|o (cls:String) (ns:List Str)|dk (ks:List Key)|dt (ks:List (List Key))|dz (ks:List (List Key))
noncomputable abbrev Cl:=Kd×List T
abbrev Sto:=List Cl
noncomputable abbrev Rho:=List Addr
open Classical in
noncomputable def mask(H:Hp)(Z:Addr->Prop)(ρ:Rho):Hp:=fun a=>if Z a\/a∈ρ then none else H a
theorem lK:mask H Z ρ a=some o↔¬Z a/\a∉ρ/\H a=some o:=by
 unfold mask;constructor
 ·intro h;split at h
  ·cases h
  ·rename_i q
   exact⟨fun z=>q (.inl z),fun z=>q (.inr z),h⟩
 ·rintro⟨h1,h2,h3⟩;rw[if_neg (by
   rintro(z|z)
   ·exact h1 z
   ·exact h2 z)]
  exact h3
theorem mG(h1:¬Z a)(h2:a∉ρ)(h3:H a=some o):mask H Z ρ a=some o:=lK.mpr ⟨h1,h2,h3⟩
theorem nS:Same (mask H Z ρ) H:=fun a o h=>(lK.mp h).2.2
noncomputable def exO(a C:Addr):HO:=.ext fun h=>∃ob,h.get? a=some ob/\ob.cls=.ref C
mutual
def RT(K:aO)(M:Hp)(ρ:Rho):T->V->Prop
 | .non,v=>v=.non
 | .bl b,v=>v=.bl b
 | .int i,v=>v=.int i
 | .str x,v=>v=.str x
 | .lst ts,v=>∃a vs,v=.ref a/\SqL K M a vs/\RTs K M ρ ts vs
 | .tup ts,v=>∃a vs,v=.ref a/\M a=some (.tup vs)/\RTs K M ρ ts vs
 | .cell c,v=>∃a,v=.ref a/\ρ[c]?=some a
 | .exc c,v=>∃a C,v=.ref a/\bW K mainGlobals (Str.ofString c)=some (some (.ref C))/\M a=some (exO a C)
def RTs(K:aO)(M:Hp)(ρ:Rho):List T->List V->Prop
 | [],vs=>vs=[]
 |t::ts,vs=>∃v r,vs=v::r/\RT K M ρ t v/\RTs K M ρ ts r
end
theorem Same.tseq{K:aO}{H H':Hp}{a:Addr}{xs:List V}(e:Same H H')(h:SqT K H a xs):SqT K H' a xs:=by
 rcases h with(h| ⟨o,h⟩)|h
 ·exact .inl (.inl (e _ _ h))
 ·exact .inl (.inr ⟨o,e _ _ h⟩)
 ·exact .inr h
theorem aJP{ρ e:Rho}{c:Nat}{a:Addr}(h:ρ[c]?=some a):(ρ++e)[c]?=some a:=by
 rw[aZ (aR.mp h).1];exact h
section
variable {K:aO}{M M':Hp}{ρ ae:Rho}
mutual
theorem RT.mono(s:Same M M')(p:∀(c:Nat)(a:Addr),ρ[c]?=some a->ae[c]?=some a):∀{t:T}{v:V},RT K M ρ t v->RT K M' ae t v
 | .non,_,h=>by unfold RT at*;exact h
 | .bl _,_,h=>by unfold RT at*;exact h
 | .int _,_,h=>by unfold RT at*;exact h
 | .str _,_,h=>by unfold RT at*;exact h
 | .lst ts,v,h=>by
   unfold RT at*;obtain⟨a,vs,e,q,r⟩:=h
   exact⟨a,vs,e,s.seq q,RTs.mono s p r⟩
 | .tup ts,v,h=>by
   unfold RT at*;obtain⟨a,vs,e,q,r⟩:=h
   exact⟨a,vs,e,s _ _ q,RTs.mono s p r⟩
 | .cell c,v,h=>by
   unfold RT at*;obtain⟨a,e,q⟩:=h
   exact⟨a,e,p c a q⟩
 | .exc c,v,h=>by
   unfold RT at*;obtain⟨a,C,e,q,r⟩:=h
   exact⟨a,C,e,q,s _ _ r⟩
theorem RTs.mono(s:Same M M')(p:∀(c:Nat)(a:Addr),ρ[c]?=some a->ae[c]?=some a):∀{ts:List T}{vs:List V},RTs K M ρ ts vs->RTs K M' ae ts vs
 | [],_,h=>by unfold RTs at*;exact h
 |t::ts,vs,h=>by
  unfold RTs at*;obtain⟨v,r,e,h1,h2⟩:=h
  exact⟨v,r,e,RT.mono s p h1,RTs.mono s p h2⟩
end
variable{t:T}{ts:List T}{v:V}{vs:List V}
theorem RTs.nil:RTs K M ρ [] []:=by unfold RTs;rfl
theorem RTs.cons(h:RT K M ρ t v)(hs:RTs K M ρ ts vs):RTs K M ρ (t::ts) (v::vs):=by
 unfold RTs;exact⟨v,vs,rfl,h,hs⟩
theorem RTs.nil_inv(h:RTs K M ρ [] vs):vs=[]:=by unfold RTs at h;exact h
theorem RTs.cons_inv(h:RTs K M ρ (t::ts) vs):∃v r,vs=v::r/\RT K M ρ t v/\RTs K M ρ ts r:=by unfold RTs at h;exact h
theorem RTs.length:∀{ts:List T}{vs:List V},RTs K M ρ ts vs->vs.length=ts.length
 | [],_,h=>by rw[h.nil_inv];rfl
 |t::ts,vs,h=>by
  obtain⟨v,r,rfl,_,h2⟩:=h.cons_inv;simp[h2.length]
theorem RTs.get:∀{ts:List T}{vs:List V}{i:Nat}{t:T},RTs K M ρ ts vs->ts[i]?=some t->∃v,vs[i]?=some v/\RT K M ρ t v
 | [],_,_,_,_,e=>by simp at e
 |x::ts,vs,0,t,h,e=>by
  obtain⟨v,r,rfl,h1,h2⟩:=h.cons_inv;simp at e;subst e
  exact⟨v,rfl,h1⟩
 |x::ts,vs,i+1,t,h,e=>by
  obtain⟨v,r,rfl,h1,h2⟩:=h.cons_inv;obtain⟨u,q1,q2⟩:=RTs.get (i:=i) h2 (by simpa using e)
  exact⟨u,by simpa using q1,q2⟩
theorem RTs.append:∀{ts us:List T}{vs ws:List V},RTs K M ρ ts vs->RTs K M ρ us ws->RTs K M ρ (ts++us) (vs++ws)
 | [],_,_,_,h,h'=>by rw[h.nil_inv];exact h'
 |t::ts,_,_,_,h,h'=>by
  obtain⟨v,r,rfl,h1,h2⟩:=h.cons_inv
  exact .cons h1 (h2.append h')
theorem RTs.take:∀(n:Nat){ts:List T}{vs:List V},RTs K M ρ ts vs->RTs K M ρ (ts.take n) (vs.take n)
 |0,_,_,_=>by simpa using RTs.nil
 |n+1,[],_,h=>by rw[h.nil_inv];simpa using RTs.nil
 |n+1,t::ts,_,h=>by
  obtain⟨v,r,rfl,h1,h2⟩:=h.cons_inv
  exact .cons h1 (h2.take n)
theorem RTs.drop:∀(n:Nat){ts:List T}{vs:List V},RTs K M ρ ts vs->RTs K M ρ (ts.drop n) (vs.drop n)
 |0,_,_,h=>h
 |n+1,[],_,h=>by rw[h.nil_inv];simpa using RTs.nil
 |n+1,t::ts,_,h=>by
  obtain⟨v,r,rfl,h1,h2⟩:=h.cons_inv
  exact h2.drop n
theorem RTs.set(h0:RT K M ρ t v):∀(n:Nat){ts:List T}{vs:List V},RTs K M ρ ts vs->RTs K M ρ (ts.set n t) (vs.set n v)
 |_,[],_,h=>by rw[h.nil_inv];simpa using RTs.nil
 |0,x::ts,_,h=>by
  obtain⟨u,r,rfl,h1,h2⟩:=h.cons_inv
  exact .cons h0 h2
 |n+1,x::ts,_,h=>by
  obtain⟨u,r,rfl,h1,h2⟩:=h.cons_inv
  exact .cons h1 (h2.set h0 n)
end
variable{H H':Hp}{a:Addr}{K:aO}{ρ ae:Rho}{Z:Addr->Prop}
def Hob(K:aO):Kd->List V->HO->Prop
 | .l,vs,o=>o=.lst vs
 | .o cls ns,vs,o=>ns.length=vs.length/\∃C dx,bW K mainGlobals (Str.ofString cls)=some (some (.ref C))/\o=.ins C dx (ns.zip vs)
 | .dk ks,vs,o=>ks.length=vs.length/\o=.dK (ks.zip vs)
 | .dt ks,vs,o=>ks.length=vs.length/\o=.dT (ks.zip vs)
 | .dz ks,vs,o=>ks.length=vs.length/\∃ob,o=.frz ob (.dT (ks.zip vs))
def NT:Option HO->Prop
 |some (.tup _)=>False
 |none=>False
 |_=>True
theorem NT.same(s:Same H H')(h:NT (H a)):NT (H' a):=by
 cases e:H a with
 |none=>rw[e]at h;exact False.elim h
 |some o=>rw[s a o e,<-e];exact h
theorem NT.some(h:NT (H a)):H a≠none:=fun z=>by rw[z]at h;exact h
theorem Hob.nt{k:Kd}{vs:List V}{o:HO}(h:Hob K k vs o):NT (some o):=by
 cases k with
 |l=>unfold Hob at h;subst h;trivial
 |o c ns=>unfold Hob at h;obtain⟨_,C,dx,_,rfl⟩:=h;trivial
 |dk ks=>unfold Hob at h;obtain⟨_,rfl⟩:=h;trivial
 |dt ks=>unfold Hob at h;obtain⟨_,rfl⟩:=h;trivial
 |dz ks=>unfold Hob at h;obtain⟨_,ob,rfl⟩:=h;trivial
def nfz:Option HO->Prop
 |some (.frz _ _)=>False
 |_=>True
structure Rel(K:aO)(H₀:Hp)(Z:Addr->Prop)(ρ:Rho)(τ:TSt)(C:Sto)(σ:St)(H:Hp):Prop where
 old:Same H₀ H
 frs:∀a∈ρ,H₀ a=none/\¬Z a
 nd:ρ.Nodup
 zd:∀a,Z a->NT (H a)
 loc:∀(i:Nat)(t:T),τ[i]?=some (some t)->∃v,σ[i]?=some (some v)/\RT K (mask H Z ρ) ρ t v
 cel:∀(c:Nat)(a:Addr),ρ[c]?=some a->∃x vs o,C[c]?=some x/\H a=some o/\Hob K x.1 vs o/\RTs K (mask H Z ρ) ρ x.2 vs
 len:ρ.length=C.length
 lnt:τ.length=σ.length
structure Step(H H':Hp)(ρ ae:Rho):Prop where
 kept:∀(a:Addr)(o:HO),H a=some o->a∉ρ->a∉ae/\H' a=some o
 pre:∃e,ae=ρ++e
 fz:∀(a:Addr) ob u,H a=some (.frz ob u)->H' a=some (.frz ob u)
theorem Step.refl:Step H H ρ ρ:=⟨fun a o h n=>⟨n,h⟩,⟨[],by simp⟩,fun _ _ _ h=>h⟩
theorem Step.trans{H1 H2:Hp}{af ar:Rho}(a:Step H H1 ρ af)(b:Step H1 H2 af ar):Step H H2 ρ ar:=by
 obtain⟨e,he⟩:=a.pre;obtain⟨f,hf⟩:=b.pre
 exact⟨fun x o h n=>(b.kept x o (a.kept x o h n).2 (a.kept x o h n).1),⟨e++f,by rw[hf,he,cP]⟩,fun x ob u h=>b.fz x ob u (a.fz x ob u h)⟩
theorem Step.of{e:Rho}(s:Same H H')(h:∀a∈e,H a=none):Step H H' ρ (ρ++e):=
 ⟨fun a o q n=>⟨fun z=>(bM.mp z).elim n (fun z=>by rw[h a z]at q;cases q),s a o q⟩,⟨e,rfl⟩,fun a ob u h=>s a _ h⟩
theorem Step.of0(s:Same H H'):Step H H' ρ ρ:=⟨fun a o q n=>⟨n,s a o q⟩,⟨[],by simp⟩,fun a ob u h=>s a _ h⟩
theorem Step.idx(s:Step H H' ρ ae):∀(c:Nat)(a:Addr),ρ[c]?=some a->ae[c]?=some a:=fun c a h=>by
 obtain⟨e,he⟩:=s.pre;rw[he];exact aJP h
theorem Step.msk(s:Step H H' ρ ae)(Z:Addr->Prop):Same (mask H Z ρ) (mask H' Z ae):=fun a o h=>by
 obtain⟨h1,h2,h3⟩:=lK.mp h
 exact mG h1 (s.kept a o h3 h2).1 (s.kept a o h3 h2).2
theorem RT.step{t:T}{v:V}(h:RT K (mask H Z ρ) ρ t v)(s:Step H H' ρ ae):RT K (mask H' Z ae) ae t v:=h.mono (s.msk Z) s.idx
theorem RTs.step{t:List T}{v:List V}(h:RTs K (mask H Z ρ) ρ t v)(s:Step H H' ρ ae):RTs K (mask H' Z ae) ae t v:=h.mono (s.msk Z) s.idx
abbrev SStep(Z:Addr->Prop)(H H':Hp)(ρ ae:Rho):Prop:=Step H H' ρ ae
theorem Step.ss(s:Step H H' ρ ae):Step H H' ρ ae:=s
section
variable {K:aO}{H₀ H H':Hp}{Z:Addr->Prop}{ρ ae:Rho}{τ:TSt}{C:Sto}{σ:St}
variable{p:Addr}{kd:Kd}{ob:HO}{c:Nat}
theorem Rel.alloc(R:Rel K H₀ Z ρ τ C σ H){o:HO}(hp:H p=none):Rel K H₀ Z ρ τ C σ (upd H p o)/\Step H (upd H p o) ρ ρ:=by
 have sm:Same H (upd H p o):=fun b u h=>by rw[fG (fun z=>by rw[z,hp]at h;cases h)];exact h
 have st:Step H (upd H p o) ρ ρ:=.of0 sm
 refine⟨⟨R.old.trans sm,R.frs,R.nd,fun a z=>(R.zd a z).same sm,fun i t e=>?_,fun c a e=>?_,R.len,R.lnt⟩,st⟩
 ·obtain⟨v,h1,h2⟩:=R.loc i t e
  exact⟨v,h1,h2.step st⟩
 ·obtain⟨x,vs,ob,h1,h2,h4,h3⟩:=R.cel c a e
  exact⟨x,vs,ob,h1,sm _ _ h2,h4,h3.step st⟩
theorem Rel.fresh_not(R:Rel K H₀ Z ρ τ C σ H)(hp:H p=none):¬Z p/\p∉ρ/\H₀ p=none:=by
 refine⟨fun z=>(R.zd p z).some hp,fun z=>?_,R.old.free hp⟩
 obtain⟨c,hc⟩:=bT.mp z;obtain⟨_,_,_,_,h,_⟩:=R.cel c p hc;rw[hp]at h;cases h
theorem Rel.alloc_lst(R:Rel K H₀ Z ρ τ C σ H){ts:List T}{vs:List V}(hp:H p=none)(h:RTs K (mask H Z ρ) ρ ts vs):
 RT K (mask (upd H p (.lst vs)) Z ρ) ρ (.lst ts) (.ref p):=by
 obtain⟨h1,h2,_⟩:=R.fresh_not hp;unfold RT
 exact⟨p,vs,rfl,.of (mG h1 h2 iP),h.step (R.alloc hp).2⟩
theorem Rel.alloc_tup(R:Rel K H₀ Z ρ τ C σ H){ts:List T}{vs:List V}(hp:H p=none)(h:RTs K (mask H Z ρ) ρ ts vs):
 RT K (mask (upd H p (.tup vs)) Z ρ) ρ (.tup ts) (.ref p):=by
 obtain⟨h1,h2,_⟩:=R.fresh_not hp;unfold RT
 exact⟨p,vs,rfl,(mG h1 h2 iP),h.step (R.alloc hp).2⟩
theorem Rel.alloc_cl(R:Rel K H₀ Z ρ τ C σ H){ts:List T}{vs:List V}(hp:H p=none)(si:Hob K kd vs ob)(h:RTs K (mask H Z ρ) ρ ts vs):
 Rel K H₀ Z (ρ++[p]) τ (C++[(kd,ts)]) σ (upd H p ob)/\Step H (upd H p ob) ρ (ρ++[p])/\RT K (mask (upd H p ob) Z (ρ++[p])) (ρ++[p]) (.cell C.length) (.ref p):=by
 obtain⟨n1,n2,n3⟩:=R.fresh_not hp;have sm:Same H (upd H p ob):=fun b u h=>by rw[fG (fun z=>by rw[z,hp]at h;cases h)];exact h
 have st:Step H (upd H p ob) ρ (ρ++[p]):=.of sm fun a ha=>by rw[bU.mp ha];exact hp
 refine⟨⟨R.old.trans sm,fun a ha=>?_,?_,fun a z=>(R.zd a z).same sm,fun i t e=>?_,fun c a e=>?_,by simp[R.len],R.lnt⟩,st,?_⟩
 ·rcases bM.mp ha with ha|ha
  ·exact R.frs a ha
  ·rw[bU.mp ha];exact⟨n3,n1⟩
 ·refine dX.mpr ⟨R.nd,by simp,fun a ha b hb=>?_⟩
  rw[bU.mp hb];rintro rfl
  exact n2 ha
 ·obtain⟨v,h1,h2⟩:=R.loc i t e
  exact⟨v,h1,h2.step st⟩
 ·by_cases hc:c<ρ.length
  ·rw[aZ hc]at e;obtain⟨us,ws,o2,h1,h2,h4,h3⟩:=R.cel c a e
   exact⟨us,ws,o2,by rw[aZ (by rw[<-R.len];exact hc)];exact h1,sm _ _ h2,h4,h3.step st⟩
  ·have ow:c=ρ.length:=by
    have:=(aR.mp e).1;simp at this;lia
   subst ow;rw[bH (bG _)]at e;simp at e;subst e
   exact⟨(kd,ts),vs,ob,by rw[R.len];simp,iP,si,h.step st⟩
 ·unfold RT
  exact⟨p,rfl,by rw[<-R.len];simp⟩
theorem Rel.alloc_cell(R:Rel K H₀ Z ρ τ C σ H){ts:List T}{vs:List V}(hp:H p=none)(h:RTs K (mask H Z ρ) ρ ts vs):
 Rel K H₀ Z (ρ++[p]) τ (C++[(.l,ts)]) σ (upd H p (.lst vs))/\Step H (upd H p (.lst vs)) ρ (ρ++[p])/\RT K (mask (upd H p (.lst vs)) Z (ρ++[p])) (ρ++[p]) (.cell C.length) (.ref p):=R.alloc_cl hp rfl h
theorem Rel.celL(R:Rel K H₀ Z ρ τ C σ H){a:Addr}{ts:List T}(hc:ρ[c]?=some a)(e:C[c]?=some (.l,ts)):∃vs,H a=some (.lst vs)/\RTs K (mask H Z ρ) ρ ts vs:=by
 obtain⟨x,vs,ob,h1,h2,h4,h3⟩:=R.cel c a hc;rw[e]at h1;cases h1;have h4:ob=.lst vs:=h4;subst h4
 exact⟨vs,h2,h3⟩
theorem Rel.put0(R:Rel K H₀ Z ρ τ C σ H){a:Addr}{ts:List T}{vs:List V}(hc:ρ[c]?=some a)(si:Hob K kd vs ob)(h:RTs K (mask H Z ρ) ρ ts vs):
 Rel K H₀ Z ρ τ (C.set c (kd,ts)) σ (upd H a ob)/\mask (upd H a ob) Z ρ=mask H Z ρ:=by
 have am:a∈ρ:=bD hc;have em:mask (upd H a ob) Z ρ=mask H Z ρ:=by
  funext b;unfold mask;split
  ·rfl
  ·rename_i q;rw[fG (by rintro rfl;exact q (.inr am))]
 refine⟨⟨fun b o q=>?_,R.frs,R.nd,fun b z=>?_,fun i t e=>?_,fun d b e=>?_,by simp[R.len],R.lnt⟩,em⟩
 ·rw[fG (by rintro rfl;rw[(R.frs b am).1]at q;cases q)]
  exact R.old b o q
 ·rw[fG (by rintro rfl;exact(R.frs b am).2 z)];exact R.zd b z
 ·rw[em];exact R.loc i t e
 ·rw[em];by_cases hd:d=c
  ·subst hd;rw[hc]at e;cases e;have hl:d<C.length:=by rw[<-R.len];exact(aR.mp hc).1
   exact⟨(kd,ts),vs,ob,by rw[bO hl],iP,si,h⟩
  ·obtain⟨us,ws,o2,h1,h2,h4,h3⟩:=R.cel d b e
   refine⟨us,ws,o2,by rw[aS (Ne.symm hd)];exact h1,?_,h4,h3⟩
   rw[fG]
   ·exact h2
   ·rintro rfl;obtain⟨l1,e1⟩:=aR.mp e;obtain⟨l2,e2⟩:=aR.mp hc
    exact hd ((aOv R.nd).mp (e1.trans e2.symm))
theorem Rel.put(R:Rel K H₀ Z ρ τ C σ H){a:Addr}{ts:List T}{vs:List V}(hc:ρ[c]?=some a)(vg:nfz (H a))(si:Hob K kd vs ob)(h:RTs K (mask H Z ρ) ρ ts vs):
 Rel K H₀ Z ρ τ (C.set c (kd,ts)) σ (upd H a ob)/\SStep Z H (upd H a ob) ρ ρ:=
 have am:a∈ρ:=bD hc
 ⟨(R.put0 hc si h).1,⟨fun b o q n=>⟨n,by rw[fG (by rintro rfl;exact n am)];exact q⟩,⟨[],by simp⟩,fun b ob u h=>by rw[fG (by rintro rfl;rw[h]at vg;exact vg)];exact h⟩⟩
theorem Rel.write(R:Rel K H₀ Z ρ τ C σ H){a:Addr}{ts:List T}{vs:List V}(hc:ρ[c]?=some a)(vg:nfz (H a))(h:RTs K (mask H Z ρ) ρ ts vs):
 Rel K H₀ Z ρ τ (C.set c (.l,ts)) σ (upd H a (.lst vs))/\SStep Z H (upd H a (.lst vs)) ρ ρ:=R.put hc vg rfl h
theorem Rel.set(R:Rel K H₀ Z ρ τ C σ H){i:Nat}{t:T}{v:V}(h:RT K (mask H Z ρ) ρ t v):Rel K H₀ Z ρ (τ.set i (some t)) C (σ.set i (some v)) H:=by
 refine⟨R.old,R.frs,R.nd,R.zd,fun j u e=>?_,R.cel,R.len,by simp[R.lnt]⟩
 by_cases hj:j=i
 ·subst hj;have nq:j<τ.length:=by
   have:=(aR.mp e).1;simpa using this
  rw[bO nq]at e;cases e
  exact⟨v,by rw[bO (by rw[<-R.lnt];exact nq)],h⟩
 ·rw[aS (Ne.symm hj)]at e;obtain⟨w,h1,h2⟩:=R.loc j u e
  exact⟨w,by rw[aS (Ne.symm hj)];exact h1,h2⟩
theorem Rel.weak(R:Rel K H₀ Z ρ τ C σ H){ag:TSt}(hl:ag.length=τ.length)(h:∀(i:Nat) t,ag[i]?=some (some t)->τ[i]?=some (some t)):Rel K H₀ Z ρ ag C σ H:=
 ⟨R.old,R.frs,R.nd,R.zd,fun i t e=>R.loc i t (h i t e),R.cel,R.len,hl.trans R.lnt⟩
end
noncomputable def lim:Nat:=400000
abbrev FE:=TSt->Sto->Option (T×Sto)
abbrev FN:=TSt->Sto->Option (List T×Sto)
abbrev FB:=TSt->Sto->Option (Bool×Sto)
def trE(K:aO)(f:FE):TE:=fun σ H Q=>∃H₀ Z ρ τ C t C',Rel K H₀ Z ρ τ C σ H/\f τ C=some (t,C')/\
 ∀v H' ae,Rel K H₀ Z ae τ C' σ H'->RT K (mask H' Z ae) ae t v->Step H H' ρ ae->Q v H'
def trA(K:aO)(f:FN):TA:=fun σ H Q=>∃H₀ Z ρ τ C ts C',Rel K H₀ Z ρ τ C σ H/\f τ C=some (ts,C')/\
 ∀vs H' ae,Rel K H₀ Z ae τ C' σ H'->RTs K (mask H' Z ae) ae ts vs->Step H H' ρ ae->Q vs H'
def trN(K:aO)(f:FN):TE:=fun σ H Q=>∃H₀ Z ρ τ C ts C',Rel K H₀ Z ρ τ C σ H/\f τ C=some (ts,C')/\
 ∀p H' ae vs,Rel K H₀ Z ae τ C' σ H'->H' p=none->RTs K (mask H' Z ae) ae ts vs->Step H H' ρ ae->Q (.ref p) (upd H' p (.lst vs))
noncomputable def trT(K:aO)(f:FB):TT:=fun σ H Q=>∃H₀ Z ρ τ C b C',Rel K H₀ Z ρ τ C σ H/\f τ C=some (b,C')/\
 ∀H' ae,Rel K H₀ Z ae τ C' σ H'->Step H H' ρ ae->Q b H'
def trV(K:aO)(σ:St)(ts:List T)(vs:List V)(g:Sto->Option (T×Sto))(H:Hp)(Q:VK):Prop:=∃H₀ Z ρ τ C t C',Rel K H₀ Z ρ τ C σ H/\RTs K (mask H Z ρ) ρ ts vs/\g C=some (t,C')/\
 ∀v H' ae,Rel K H₀ Z ae τ C' σ H'->RT K (mask H' Z ae) ae t v->Step H H' ρ ae->Q v H'
def trW(K:aO)(σ:St)(ts:List T)(vs:List V)(g:Sto->Option (List T))(H:Hp)(Q:VK):Prop:=∃H₀ Z ρ τ C us,Rel K H₀ Z ρ τ C σ H/\RTs K (mask H Z ρ) ρ ts vs/\g C=some us/\
 ∀p H' ae ws,Rel K H₀ Z ae τ C σ H'->H' p=none->RTs K (mask H' Z ae) ae us ws->Step H H' ρ ae->Q (.ref p) (upd H' p (.lst ws))
noncomputable def jQ(i:Nat):FE:=fun τ C=>match τ[i]?with
 |some (some t)=>some (t,C)
 |_=>none
noncomputable def fC(t:T):FE:=fun _ C=>some (t,C)
abbrev Y0:FE:=jQ 0
abbrev Y1:FE:=jQ 1
abbrev Y2:FE:=jQ 2
abbrev Y3:FE:=jQ 3
abbrev Y4:FE:=jQ 4
abbrev Y5:FE:=jQ 5
abbrev Y6:FE:=jQ 6
abbrev Y7:FE:=jQ 7
abbrev Y8:FE:=jQ 8
abbrev Y9:FE:=jQ 9
abbrev Y10:FE:=jQ 10
abbrev Y11:FE:=jQ 11
abbrev Y12:FE:=jQ 12
abbrev Y13:FE:=jQ 13
abbrev Y14:FE:=jQ 14
abbrev fI(n:Int):FE:=fC (.int n)
noncomputable def iO(fa fb:FE)(g:T->T->Sto->Option (T×Sto)):FE:=fun τ C=>(fa τ C).bind fun p=>(fb τ p.2).bind fun q=>g p.1 q.1 q.2
noncomputable def fUn(fa:FE)(g:T->Sto->Option (T×Sto)):FE:=fun τ C=>(fa τ C).bind fun p=>g p.1 p.2
noncomputable def wB(fa fb:FE)(g:T->T->Sto->Option (List T)):FN:=fun τ C=>(fa τ C).bind fun p=>(fb τ p.2).bind fun q=>(g p.1 q.1 q.2).map fun us=>(us,q.2)
noncomputable def fF:FN:=fun _ C=>some ([],C)
noncomputable def eV(fa:FE)(fr:FN):FN:=fun τ C=>(fa τ C).bind fun p=>(fr τ p.2).map fun q=>(p.1::q.1,q.2)
noncomputable def mV(fa:FN)(g:List T->Sto->Option (T×Sto)):FE:=fun τ C=>(fa τ C).bind fun p=>g p.1 p.2
noncomputable def tY(fa:FN)(g:List T->Sto->Option (List T)):FN:=fun τ C=>(fa τ C).bind fun p=>(g p.1 p.2).map fun us=>(us,p.2)
noncomputable def fS(f:FN):FE:=fun τ C=>(f τ C).map fun p=>(.lst p.1,p.2)
noncomputable def iG(f:FN):FE:=fun τ C=>(f τ C).map fun p=>(.cell p.2.length,p.2++[(.l,p.1)])
section
variable {K:aO}{σ:St}{H:Hp}{Q:VK}
variable{fa fb:FE}{g:Int->Int->V}{f:Int->Int->T}{C:Sto}{M H₀:Hp}{τ:TSt}{x y:V}
theorem aNC{i:Nat}(h:trE K (jQ i) σ H Q):tVar i σ H Q:=by
 obtain⟨H₀,Z,ρ,τ,C,t,C',R,e,k⟩:=h;unfold jQ at e;split at e
 ·rename_i u hu;cases e;obtain⟨v,h1,h2⟩:=R.loc i t hu
  exact⟨v,h1,k v H ρ R h2 .refl⟩
 ·cases e
theorem i_C{t:T}{v:V}(ht:∀M ρ,RT K M ρ t v)(h:trE K (fC t) σ H Q):tC v σ H Q:=by
 obtain⟨H₀,Z,ρ,τ,C,t,C',R,e,k⟩:=h;cases e
 exact k v H ρ R (ht _ _) .refl
theorem aEC{g:T->T->Sto->Option (T×Sto)}(h:trE K (iO fa fb g) σ H Q):
 trE K fa σ H fun x H1=>trE K fb σ H1 fun y H2=>∃t1 t2,trV K σ [t1,t2] [x,y] (g t1 t2) H2 Q:=by
 obtain⟨H₀,Z,ρ,τ,C,t,C',R,e,k⟩:=h;unfold iO at e;obtain⟨⟨t1,C1⟩,e1,e⟩:=aK.mp e;obtain⟨⟨t2,C2⟩,e2,e⟩:=aK.mp e
 refine⟨H₀,Z,ρ,τ,C,t1,C1,R,e1,fun x H1 af R1 h1 s1=>?_⟩
 refine⟨H₀,Z,af,τ,C1,t2,C2,R1,e2,fun y H2 ar R2 h2 s2=>?_⟩
 exact⟨t1,t2,H₀,Z,ar,τ,C2,t,C',R2,.cons (h1.step s2) (.cons h2 .nil),e,fun v H3 az R3 h3 s3=>k v H3 az R3 h3 ((s1.trans s2).trans s3)⟩
theorem aMA{g:T->Sto->Option (T×Sto)}(h:trE K (fUn fa g) σ H Q):
 trE K fa σ H fun x H1=>∃t1,trV K σ [t1] [x] (g t1) H1 Q:=by
 obtain⟨H₀,Z,ρ,τ,C,t,C',R,e,k⟩:=h;unfold fUn at e;obtain⟨⟨t1,C1⟩,e1,e⟩:=aK.mp e
 refine⟨H₀,Z,ρ,τ,C,t1,C1,R,e1,fun x H1 af R1 h1 s1=>?_⟩
 exact⟨t1,H₀,Z,af,τ,C1,t,C',R1,.cons h1 .nil,e,fun v H3 az R3 h3 s3=>k v H3 az R3 h3 (s1.trans s3)⟩
theorem aMB{g:T->T->Sto->Option (List T)}(h:trN K (wB fa fb g) σ H Q):
 trE K fa σ H fun x H1=>trE K fb σ H1 fun y H2=>∃t1 t2,trW K σ [t1,t2] [x,y] (g t1 t2) H2 Q:=by
 obtain⟨H₀,Z,ρ,τ,C,ts,C',R,e,k⟩:=h;unfold wB at e;obtain⟨⟨t1,C1⟩,e1,e⟩:=aK.mp e;obtain⟨⟨t2,C2⟩,e2,e⟩:=aK.mp e;obtain⟨us,e3,e⟩:=aL.mp e;cases e
 refine⟨H₀,Z,ρ,τ,C,t1,C1,R,e1,fun x H1 af R1 h1 s1=>?_⟩
 refine⟨H₀,Z,af,τ,C1,t2,_,R1,e2,fun y H2 ar R2 h2 s2=>?_⟩
 exact⟨t1,t2,H₀,Z,ar,τ,_,_,R2,.cons (h1.step s2) (.cons h2 .nil),e3,fun p H3 az ws R3 n3 h3 s3=>k p H3 az ws R3 n3 h3 ((s1.trans s2).trans s3)⟩
theorem aKM{Q:List V->Hp->Prop}(h:trA K fF σ H Q):aJ3 σ H Q:=by
 obtain⟨H₀,Z,ρ,τ,C,ts,C',R,e,k⟩:=h;cases e
 exact k [] H ρ R .nil .refl
theorem aMR{fr:FN}{Q:List V->Hp->Prop}(h:trA K (eV fa fr) σ H Q):aH7 (trE K fa) (trA K fr) σ H Q:=by
 obtain⟨H₀,Z,ρ,τ,C,ts,C',R,e,k⟩:=h;unfold eV at e;obtain⟨⟨t1,C1⟩,e1,e⟩:=aK.mp e;obtain⟨⟨t2,C2⟩,e2,e⟩:=aL.mp e;cases e
 refine⟨H₀,Z,ρ,τ,C,t1,C1,R,e1,fun x H1 af R1 h1 s1=>?_⟩
 exact⟨H₀,Z,af,τ,C1,t2,_,R1,e2,fun vs H2 ar R2 h2 s2=>k (x::vs) H2 ar R2 (.cons (h1.step s2) h2) (s1.trans s2)⟩
theorem aBN{fa:FN}{g:List T->Sto->Option (T×Sto)}(h:trE K (mV fa g) σ H Q):
 trA K fa σ H fun vs H1=>∃ts,trV K σ ts vs (g ts) H1 Q:=by
 obtain⟨H₀,Z,ρ,τ,C,t,C',R,e,k⟩:=h;unfold mV at e;obtain⟨⟨ts,C1⟩,e1,e⟩:=aK.mp e
 refine⟨H₀,Z,ρ,τ,C,ts,C1,R,e1,fun x H1 af R1 h1 s1=>?_⟩
 exact⟨ts,H₀,Z,af,τ,C1,t,C',R1,h1,e,fun v H3 az R3 h3 s3=>k v H3 az R3 h3 (s1.trans s3)⟩
theorem aH9{fa:FN}{g:List T->Sto->Option (List T)}(h:trN K (tY fa g) σ H Q):
 trA K fa σ H fun vs H1=>∃ts,trW K σ ts vs (g ts) H1 Q:=by
 obtain⟨H₀,Z,ρ,τ,C,ts,C',R,e,k⟩:=h;unfold tY at e;obtain⟨⟨us,C1⟩,e1,e⟩:=aK.mp e;obtain⟨ws,e2,e⟩:=aL.mp e;cases e
 refine⟨H₀,Z,ρ,τ,C,us,_,R,e1,fun x H1 af R1 h1 s1=>?_⟩
 exact⟨us,H₀,Z,af,τ,_,_,R1,h1,e2,fun p H3 az ws R3 n3 h3 s3=>k p H3 az ws R3 n3 h3 (s1.trans s3)⟩
theorem aHC{f:FN}(h:trE K (fS f) σ H Q):trN K f σ H Q:=by
 obtain⟨H₀,Z,ρ,τ,C,t,C',R,e,k⟩:=h;unfold fS at e;obtain⟨⟨us,C1⟩,e1,e⟩:=aL.mp e;cases e
 exact⟨H₀,Z,ρ,τ,C,us,_,R,e1,fun p H1 af vs R1 n1 h1 s1=>k _ _ af (R1.alloc n1).1 (R1.alloc_lst n1 h1) (s1.trans (R1.alloc n1).2)⟩
theorem aGR{f:FN}(h:trE K (iG f) σ H Q):trN K f σ H Q:=by
 obtain⟨H₀,Z,ρ,τ,C,t,C',R,e,k⟩:=h;unfold iG at e;obtain⟨⟨us,C1⟩,e1,e⟩:=aL.mp e;cases e
 refine⟨H₀,Z,ρ,τ,C,us,_,R,e1,fun p H1 af vs R1 n1 h1 s1=>?_⟩
 obtain⟨q1,q2,q3⟩:=R1.alloc_cell n1 h1
 exact k _ _ _ q1 q3 (s1.trans q2)
noncomputable def lc(C:Sto)(c:Nat):Option (List T):=(C[c]?).bind fun x=>match x.1 with
 | .l=>some x.2
 |_=>none
theorem gS{c:Nat}{ts:List T}:lc C c=some ts↔C[c]?=some (.l,ts):=by
 unfold lc;constructor
 ·intro h;obtain⟨⟨k,us⟩,e,h⟩:=aK.mp h;cases k<;>cases h
  exact e
 ·intro h;rw[h];rfl
def liT(C:Sto):T->Option (List T)
 | .lst ts=>some ts
 | .cell c=>lc C c
 |_=>none
def sqT(C:Sto):T->Option (List T)
 | .lst ts=>some ts
 | .cell c=>lc C c
 | .tup ts=>some ts
 |_=>none
theorem SqL.msk{Z:Addr->Prop}{ρ:Rho}{a:Addr}{vs:List V}(h:SqL K (mask M Z ρ) a vs):SqL K M a vs:=nS.seq h
theorem SqT.msk{Z:Addr->Prop}{ρ:Rho}{a:Addr}{vs:List V}(h:SqT K (mask M Z ρ) a vs):SqT K M a vs:=Same.tseq nS h
theorem Rel.li{Z:Addr->Prop}{ρ:Rho}(R:Rel K H₀ Z ρ τ C σ H){t:T}{v:V}{ts:List T}(h:RT K (mask H Z ρ) ρ t v)(e:liT C t=some ts):
 ∃a vs,v=.ref a/\SqL K H a vs/\RTs K (mask H Z ρ) ρ ts vs:=by
 cases t with
 |lst us=>
  cases e;unfold RT at h;obtain⟨a,vs,e,q,r⟩:=h
  exact⟨a,vs,e,SqL.msk q,r⟩
 |cell c=>
  unfold RT at h;obtain⟨a,e1,q⟩:=h;obtain⟨ws,h2,h3⟩:=R.celL q (gS.mp e)
  exact⟨a,ws,e1,.of h2,h3⟩
 |_=>cases e
theorem Rel.sq{Z:Addr->Prop}{ρ:Rho}(R:Rel K H₀ Z ρ τ C σ H){t:T}{v:V}{ts:List T}(h:RT K (mask H Z ρ) ρ t v)(e:sqT C t=some ts):
 ∃a vs,v=.ref a/\(SqL K H a vs\/SqT K H a vs)/\RTs K (mask H Z ρ) ρ ts vs:=by
 cases t with
 |lst us=>
  obtain⟨a,vs,h1,h2,h3⟩:=R.li h (show liT C (.lst us)=some ts from e)
  exact⟨a,vs,h1,.inl h2,h3⟩
 |cell c=>
  obtain⟨a,vs,h1,h2,h3⟩:=R.li h (show liT C (.cell c)=some ts from e)
  exact⟨a,vs,h1,.inl h2,h3⟩
 |tup us=>
  cases e;unfold RT at h;obtain⟨a,vs,e,q,r⟩:=h
  exact⟨a,vs,e,.inr (SqT.msk (.of q)),r⟩
 |_=>cases e
theorem RT.int_inv{ρ:Rho}{i:Int}{v:V}(h:RT K M ρ (.int i) v):v=.int i:=by unfold RT at h;exact h
theorem RT.bl_inv{ρ:Rho}{b:Bool}{v:V}(h:RT K M ρ (.bl b) v):v=.bl b:=by unfold RT at h;exact h
theorem RT.non_inv{ρ:Rho}{v:V}(h:RT K M ρ .non v):v=.non:=by unfold RT at h;exact h
theorem RT.int{M:Hp}{ρ:Rho}{i:Int}:RT K M ρ (.int i) (.int i):=by unfold RT;rfl
theorem RT.bl{M:Hp}{ρ:Rho}{i:Bool}:RT K M ρ (.bl i) (.bl i):=by unfold RT;rfl
theorem RT.non{M:Hp}{ρ:Rho}:RT K M ρ .non .non:=by unfold RT;rfl
noncomputable def gI(f:Int->Int->T):T->T->Sto->Option (T×Sto)
 | .int i,.int j,C=>some (f i j,C)
 |_,_,_=>none
noncomputable def gIc(c:Int->Int->Bool)(f:Int->Int->T):T->T->Sto->Option (T×Sto)
 | .int i,.int j,C=>if c i j=true then some (f i j,C)else none
 |_,_,_=>none
theorem o_I(yu:∀i j M ρ,RT K M ρ (f i j) (g i j))(h:∃t1 t2,trV K σ [t1,t2] [x,y] (gI f t1 t2) H Q):
 ∃i j,x=.int i/\y=.int j/\Q (g i j) H:=by
 obtain⟨t1,t2,H₀,Z,ρ,τ,C,t,C',R,r,e,k⟩:=h;obtain⟨_,_,z,r1,r⟩:=r.cons_inv;cases z;obtain⟨_,_,z,r2,r⟩:=r.cons_inv;cases z;unfold gI at e;split at e
 ·cases e
  exact⟨_,_,r1.int_inv,r2.int_inv,k _ H ρ R (yu _ _ _ _) .refl⟩
 ·cases e
theorem aHN{c:Int->Int->Bool}(yu:∀i j M ρ,RT K M ρ (f i j) (g i j))(h:∃t1 t2,trV K σ [t1,t2] [x,y] (gIc c f t1 t2) H Q):
 ∃i j,x=.int i/\y=.int j/\c i j=true/\Q (g i j) H:=by
 obtain⟨t1,t2,H₀,Z,ρ,τ,C,t,C',R,r,e,k⟩:=h;obtain⟨_,_,z,r1,r⟩:=r.cons_inv;cases z;obtain⟨_,_,z,r2,r⟩:=r.cons_inv;cases z;unfold gIc at e;split at e
 ·split at e
  ·rename_i hc;cases e
   exact⟨_,_,r1.int_inv,r2.int_inv,hc,k _ H ρ R (yu _ _ _ _) .refl⟩
  ·cases e
 ·cases e
end
inductive Fl where
 |nx|bk|ct|rt (t:T)|ex (c:String)
abbrev FS:=TSt->Sto->Option (Fl×TSt×Sto)
abbrev XW:=String->St->Hp->Prop
def EndF(K:aO)(W:XW)(D:Ends)(Z:Addr->Prop)(ρ:Rho)(fl:Fl)(σ:St)(H:Hp):Prop:=match fl with
 | .nx=>D.nx σ H
 | .bk=>D.bk σ H
 | .ct=>D.ct σ H
 | .rt t=>∀v,RT K (mask H Z ρ) ρ t v->D.rt v H
 | .ex c=>W c σ H
noncomputable def trS(K:aO)(W:XW)(F:FS):TS:=fun D σ H=>∃H₀ Z ρ τ C fl ag C',Rel K H₀ Z ρ τ C σ H/\F τ C=some (fl,ag,C')/\
 ∀ai H' ae,Rel K H₀ Z ae ag C' ai H'->SStep Z H H' ρ ae->EndF K W D Z ae fl ai H'
abbrev FG:=T->Sto->TSt->Option TSt
def trG(K:aO)(g:FG):TG:=fun v σ H Q=>∃H₀ Z ρ τ C t ag,Rel K H₀ Z ρ τ C σ H/\RT K (mask H Z ρ) ρ t v/\g t C τ=some ag/\
 ∀ai,Rel K H₀ Z ρ ag C ai H->Q ai H
noncomputable def jJ:FS:=fun τ C=>some (.nx,τ,C)
noncomputable def aAK:FS:=fun _ _=>none
noncomputable def fJ(F G:FS):FS:=fun τ C=>(F τ C).bind fun r=>match r with
 | (.nx,ap,C1)=>G ap C1
 |r=>some r
noncomputable def fIf(c:FB)(F G:FS):FS:=fun τ C=>(c τ C).bind fun p=>if p.1=true then F τ p.2 else G τ p.2
def hV(f:FE):FS:=fun τ C=>(f τ C).map fun p=>(.rt p.1,τ,p.2)
noncomputable def mT(f:FE):FS:=fun τ C=>(f τ C).map fun p=>(.nx,τ,p.2)
noncomputable def fU(f:FE)(g:FG):FS:=fun τ C=>(f τ C).bind fun p=>(g p.1 p.2 τ).map fun ag=>(.nx,ag,p.2)
noncomputable def gN(i:Nat):FG:=fun t _ τ=>some (τ.set i (some t))
noncomputable def setAll:List Nat->List T->TSt->TSt
 |i::is,t::ts,τ=>setAll is ts (τ.set i (some t))
 |_,_,τ=>τ
def gU(is:List Nat):FG:=fun t C τ=>(sqT C t).bind fun ts=>if ts.length=is.length then some (setAll is ts τ)else none
section
variable {K:aO}{W:XW}{σ:St}{H:Hp}{D:Ends}
variable{F G:FS}{c:FB}{f:FE}{g:FG}{H₀ H1:Hp}{τ:TSt}{C:Sto}{af:Rho}{n:Nat}
theorem aHZ(h:trS K W jJ D σ H):aH5 D σ H:=by
 obtain⟨H₀,Z,ρ,τ,C,fl,ag,C',R,e,k⟩:=h;cases e
 exact k σ H ρ R .refl
theorem aJB(h:trS K W aAK D σ H):False:=by
 obtain⟨H₀,Z,ρ,τ,C,fl,ag,C',R,e,k⟩:=h;cases e
theorem aNa(h:trS K W (fJ F G) D σ H):tSeq (trS K W F) (trS K W G) D σ H:=by
 obtain⟨H₀,Z,ρ,τ,C,fl,ag,C',R,e,k⟩:=h;unfold fJ at e;obtain⟨⟨f1,ap,C1⟩,e1,e⟩:=aK.mp e
 refine⟨H₀,Z,ρ,τ,C,f1,ap,C1,R,e1,fun cw H1 af R1 s1=>?_⟩
 cases f1 with
 |nx=>exact⟨H₀,Z,af,ap,C1,fl,ag,C',R1,e,fun bq H2 ar R2 s2=>k bq H2 ar R2 (s1.trans s2)⟩
 |bk=>cases e;exact k cw H1 af R1 s1
 |ct=>cases e;exact k cw H1 af R1 s1
 |rt t=>cases e;exact k cw H1 af R1 s1
 |ex c=>cases e;exact k cw H1 af R1 s1
theorem aOb(h:trS K W (fIf c F G) D σ H):tIfS (trT K c) (trS K W F) (trS K W G) D σ H:=by
 obtain⟨H₀,Z,ρ,τ,C,fl,ag,C',R,e,k⟩:=h;unfold fIf at e;obtain⟨⟨b,C1⟩,e1,e⟩:=aK.mp e
 refine⟨H₀,Z,ρ,τ,C,b,C1,R,e1,fun H1 af R1 s1=>?_⟩
 cases b with
 |true=>
  rw[if_pos rfl]at e|-
  exact⟨H₀,Z,af,τ,C1,fl,ag,C',R1,e,fun bq H2 ar R2 s2=>k bq H2 ar R2 (s1.ss.trans s2)⟩
 |false=>
  rw[if_neg (by simp)]at e|-
  exact⟨H₀,Z,af,τ,C1,fl,ag,C',R1,e,fun bq H2 ar R2 s2=>k bq H2 ar R2 (s1.ss.trans s2)⟩
theorem aNx(h:trS K W (hV f) D σ H):tRet (trE K f) D σ H:=by
 obtain⟨H₀,Z,ρ,τ,C,fl,ag,C',R,e,k⟩:=h;unfold hV at e;obtain⟨⟨t,C1⟩,e1,e⟩:=aL.mp e;cases e
 exact⟨H₀,Z,ρ,τ,C,t,_,R,e1,fun v H1 af R1 h1 s1=>k σ H1 af R1 s1.ss v h1⟩
theorem aMx(h:trS K W (mT f) D σ H):aGB (trE K f) D σ H:=by
 obtain⟨H₀,Z,ρ,τ,C,fl,ag,C',R,e,k⟩:=h;unfold mT at e;obtain⟨⟨t,C1⟩,e1,e⟩:=aL.mp e;cases e
 exact⟨H₀,Z,ρ,τ,C,t,_,R,e1,fun v H1 af R1 h1 s1=>k σ H1 af R1 s1.ss⟩
theorem aEa(h:trS K W (fU f g) D σ H):aDd (trE K f) (trG K g) D σ H:=by
 obtain⟨H₀,Z,ρ,τ,C,fl,ag,C',R,e,k⟩:=h;unfold fU at e;obtain⟨⟨t,C1⟩,e1,e⟩:=aK.mp e;obtain⟨ap,e2,e⟩:=aL.mp e;cases e
 refine⟨H₀,Z,ρ,τ,C,t,_,R,e1,fun v H1 af R1 h1 s1=>?_⟩
 exact⟨H₀,Z,af,τ,_,t,_,R1,h1,e2,fun ai R'=>k ai H1 af R' s1.ss⟩
theorem aAv{i:Nat}{v:V}{Q:St->Hp->Prop}(h:trG K (gN i) v σ H Q):r6 i v σ H Q:=by
 obtain⟨H₀,Z,ρ,τ,C,t,ag,R,r,e,k⟩:=h;cases e
 exact k _ (R.set r)
theorem Rel.setAll{H₀:Hp}{Z:Addr->Prop}{ρ:Rho}{C:Sto}:∀{is:List Nat}{ts:List T}{vs:List V}{τ:TSt}{σ:St},Rel K H₀ Z ρ τ C σ H->RTs K (mask H Z ρ) ρ ts vs->ts.length=is.length->∀{Q:St->Hp->Prop},
 (∀ai,Rel K H₀ Z ρ (TL.setAll is ts τ) C ai H->Q ai H)->(is.foldr (fun i g=>aEf (r6 i) g) aJt) vs σ H Q
 | [],[],vs,τ,σ,R,r,_,Q,k=>⟨r.nil_inv,k σ R⟩
 |i::is,t::ts,vs,τ,σ,R,r,hl,Q,k=>by
  obtain⟨v,r',rfl,h1,h2⟩:=r.cons_inv
  exact⟨v,r',rfl,Rel.setAll (is:=is) (ts:=ts) (R.set h1) h2 (by simpa using hl) k⟩
 | [],t::ts,_,_,_,_,_,hl,_,_=>by simp at hl
 |i::is,[],_,_,_,_,_,hl,_,_=>by simp at hl
open Classical in
def j6(P:Sto->Prop)(g:FG)(F:FS):List T->FS
 | [],τ,C=>some (.nx,τ,C)
 |t::ts,τ,C=>(g t C τ).bind fun ap=>(F ap C).bind fun r=>match r with
  | (.nx,ao,C2)=>if P C2 then j6 P g F ts ao C2 else none
  | (.ct,ao,C2)=>if P C2 then j6 P g F ts ao C2 else none
  | (.bk,ao,C2)=>some (.nx,ao,C2)
  | (.rt v,ao,C2)=>some (.rt v,ao,C2)
  | (.ex c,ao,C2)=>some (.ex c,ao,C2)
def stays(t:T)(ts:List T)(C:Sto):Prop:=match t with
 | .cell c=>lc C c=some ts
 |_=>True
def mU(f:FE)(g:FG)(F:FS):FS:=fun τ C=>(f τ C).bind fun p=>(liT p.2 p.1).bind fun ts=>j6 (stays p.1 ts) g F ts τ p.2
theorem Rel.same{H₀:Hp}{Z:Addr->Prop}{ρ:Rho}{τ:TSt}{C:Sto}{H':Hp}(R:Rel K H₀ Z ρ τ C σ H)(s:Same H H'):Rel K H₀ Z ρ τ C σ H'/\Step H H' ρ ρ:=by
 have st:Step H H' ρ ρ:=.of0 s
 refine⟨⟨R.old.trans s,R.frs,R.nd,fun a z=>(R.zd a z).same s,fun i t e=>?_,fun c a e=>?_,R.len,R.lnt⟩,st⟩
 ·obtain⟨v,h1,h2⟩:=R.loc i t e
  exact⟨v,h1,h2.step st⟩
 ·obtain⟨ts,vs,ob,h1,h2,h4,h3⟩:=R.cel c a e
  exact⟨ts,vs,ob,h1,s _ _ h2,h4,h3.step st⟩
structure Wlk(K:aO)(J:It)(Z:Addr->Prop)(H1:Hp)(af:Rho)(ts:List T)(P:Sto->Prop):Prop where
 go:∀(i:Nat)(t:T)(H₀:Hp)(Z':Addr->Prop)(ae:Rho)(τ:TSt)(C:Sto)(σ:St)(H:Hp),ts[i]?=some t->Rel K H₀ Z' ae τ C σ H->Same (mask H1 Z af) (mask H Z' ae)->
  (∀(c:Nat)(a:Addr),af[c]?=some a->ae[c]?=some a)->(P C\/Same H1 H)->(∀a ob u,H1 a=some (.frz ob u)->H a=some (.frz ob u))->J.go i H/\∀x H',J.yld i H x H'->Same H H'/\RT K (mask H' Z' ae) ae t x
 stop:∀(H₀:Hp)(Z':Addr->Prop)(ae:Rho)(τ:TSt)(C:Sto)(σ:St)(H:Hp),Rel K H₀ Z' ae τ C σ H->Same (mask H1 Z af) (mask H Z' ae)->
  (∀(c:Nat)(a:Addr),af[c]?=some a->ae[c]?=some a)->(P C\/Same H1 H)->(∀a ob u,H1 a=some (.frz ob u)->H a=some (.frz ob u))->J.stop ts.length H
theorem vF{J:It}{Z:Addr->Prop}{ρ:Rho}{ag:TSt}{C':Sto}{P:Sto->Prop}{ts:List T}{fl:Fl}{cw:St}
 (R:Rel K H₀ Z ρ τ C cw H1)(hP:P C)(e:j6 P g F ts τ C=some (fl,ag,C'))(w:Wlk K J Z H1 ρ ts P)
 (k:∀ai H' ae,Rel K H₀ Z ae ag C' ai H'->SStep Z H1 H' ρ ae->EndF K W D Z ae fl ai H'):
 ∃V:Nat->Nat->St->Hp->Prop,(∃m,V 0 m cw H1)/\∀i m σ H,V i m σ H->
  (J.stop i H/\D.nx σ H)\/(J.go i H/\∃N:St->Hp->Prop,(∀ai H',N ai H'->∃m',m'<m/\V (i+1) m' ai H')/\∀x H',J.yld i H x H'->trG K g x σ H' fun bq H2=>trS K W F {D with nx:=N,ct:=N,bk:=D.nx} bq H2):=by
 refine⟨fun i m σ H=>∃ae ap C1 rest,m=rest.length/\ts.drop i=rest/\i<=ts.length/\Rel K H₀ Z ae ap C1 σ H/\SStep Z H1 H ρ ae/\P C1/\j6 P g F rest ap C1=some (fl,ag,C'),
  ⟨ts.length,ρ,τ,C,ts,rfl,rfl,dQ _,R,.refl,hP,e⟩,?_⟩
 rintro i m σ H ⟨ae,ap,C1,rest,rfl,hd,hi,R1,s1,mh,e1⟩;cases rest with
 |nil=>
  have dy:i=ts.length:=by
   have:ts.length<=i:=by simpa using hd
   lia
  subst dy;cases e1
  exact .inl ⟨w.stop _ _ _ _ _ _ _ R1 (s1.msk _) s1.idx (.inl mh) s1.fz,k σ H ae R1 s1⟩
 |cons t rest=>
  have ht:ts[i]?=some t:=by
   have:=congrArg (fun l=>l[0]?) hd;simpa using this
  have bo:i<ts.length:=(aR.mp ht).1;have jh:ts.drop (i+1)=rest:=by
   have:=congrArg aP9 hd;simpa using this
  obtain⟨g1,g2⟩:=w.go i t _ _ ae ap C1 σ H ht R1 (s1.msk _) s1.idx (.inl mh) s1.fz;unfold j6 at e1;obtain⟨ao,eg,e1⟩:=aK.mp e1;obtain⟨⟨f3,ei,C3⟩,eF,e1⟩:=aK.mp e1
  refine .inr ⟨g1,fun ai H'=>∃az ei C3,Rel K H₀ Z az ei C3 ai H'/\SStep Z H1 H' ρ az/\P C3/\j6 P g F rest ei C3=some (fl,ag,C'),?_,?_⟩
  ·rintro ai H' ⟨az,ei,C3,R3,s3,uc,e3⟩
   exact⟨rest.length,by simp,az,ei,C3,rest,rfl,jh,bo,R3,s3,uc,e3⟩
  ·intro x H' y;obtain⟨sm,rx⟩:=g2 x H' y;obtain⟨um,ax⟩:=R1.same sm
   refine⟨H₀,Z,ae,ap,C1,t,ao,um,rx,eg,fun bq R2=>?_⟩
   refine⟨H₀,Z,ae,ao,C1,f3,ei,C3,R2,eF,fun cj H3 az R3 s3=>?_⟩
   have qj:=(s1.trans ax.ss).trans s3;cases f3 with
   |nx=>
    dsimp only at e1;split at e1
    ·rename_i uc
     exact⟨az,ei,C3,R3,qj,uc,e1⟩
    ·cases e1
   |ct=>
    dsimp only at e1;split at e1
    ·rename_i uc
     exact⟨az,ei,C3,R3,qj,uc,e1⟩
    ·cases e1
   |bk=>
    cases e1
    exact k cj H3 az R3 qj
   |rt v=>
    cases e1
    exact k cj H3 az R3 qj
   |ex c=>
    cases e1
    exact k cj H3 az R3 qj
theorem o8{t:T}{ts:List T}(e:liT C t=some ts):stays t ts C:=by
 cases t with
 |cell c=>exact e
 |_=>trivial
theorem aBS{Z:Addr->Prop}{σ:St}{t:T}{ts:List T}{a:Addr}(R1:Rel K H₀ Z af τ C σ H1)(h1:RT K (mask H1 Z af) af t (.ref a))(e2:liT C t=some ts):
 Wlk K (Itl K a) Z H1 af ts (stays t ts):=by
 have there:∀{H₀:Hp}{Z':Addr->Prop}{ae:Rho}{ag:TSt}{C':Sto}{σ:St}{H:Hp},Rel K H₀ Z' ae ag C' σ H->Same (mask H1 Z af) (mask H Z' ae)->(∀(c:Nat)(a:Addr),af[c]?=some a->ae[c]?=some a)->(stays t ts C'\/Same H1 H)->
  ∃ws,SqL K H a ws/\RTs K (mask H Z' ae) ae ts ws:=by
  intro H₀ Z' ae ag C' σ H R' sm ix ax;rcases ax with ax|ax
  ·have h2:=h1.mono sm ix;have e3:liT C' t=some ts:=by
    cases t with
    |cell c=>exact ax
    |lst us=>exact e2
    |_=>cases e2
   obtain⟨a',ws,ij,q',r'⟩:=R'.li h2 e3;cases ij
   exact⟨ws,q',r'⟩
  ·obtain⟨a',ws,ij,q',r'⟩:=R1.li h1 e2;cases ij
   exact⟨ws,ax.seq q',r'.mono sm ix⟩
 refine⟨fun i t' H₀ Z' ae ag C' σ H ht R' sm ix ax _=>?_,fun H₀ Z' ae ag C' σ H R' sm ix ax _=>?_⟩
 ·obtain⟨ws,q',r'⟩:=there R' sm ix ax;obtain⟨x,hx,rx⟩:=r'.get ht
  refine⟨⟨ws,x,q',hx⟩,fun y H' ⟨hy,z⟩=>?_⟩
  subst hy;have:=z ws q';rw[hx]at this;cases this
  exact⟨.refl _,rx⟩
 ·obtain⟨ws,q',r'⟩:=there R' sm ix ax
  exact⟨ws,q',by rw[r'.length];exact bG _⟩
noncomputable def uL(lo:Int)(n:Nat):List T:=(bI n).map fun(i:Nat)=>T.int (lo+(i:Int))
theorem sY{Z:Addr->Prop}{lo:Int}:Wlk K (Itr lo n) Z H1 af (uL lo n) (fun _=>True):=by
 refine⟨fun i t' H₀ Z' ae ag C' σ H ht R' sm ix ax _=>?_,fun H₀ Z' ae ag C' σ H R' sm ix ax _=>?_⟩
 ·unfold uL at ht;have hi:i<n:=by
   have:=(aR.mp ht).1;simpa using this
  rw[bK,dN hi]at ht;cases ht
  refine⟨hi,fun x H' ⟨h1,h2⟩=>?_⟩
  subst h1;rw[h2];exact⟨.refl _,.int⟩
 ·show n<=_;simp[uL]
theorem aNP(h:trS K W (mU f g F) D σ H):aGY (aHL K (trE K f)) (trG K g) (trS K W F) D σ H:=by
 obtain⟨H₀,Z,ρ,τ,C,fl,ag,C',R,e,k⟩:=h;unfold mU at e;obtain⟨⟨t,C1⟩,e1,e⟩:=aK.mp e;obtain⟨ts,e2,e⟩:=aK.mp e
 refine⟨H₀,Z,ρ,τ,C,t,C1,R,e1,fun v H1 af R1 h1 s1=>?_⟩
 obtain⟨a,vs,ev,q,r⟩:=R1.li h1 e2;subst ev
 exact⟨a,rfl,⟨vs,q⟩,vF R1 (o8 e2) e (aBS R1 h1 e2) fun ai H' ae R' s'=>k ai H' ae R' (s1.ss.trans s')⟩
def fForR(lo:Int)(n:Nat)(g:FG)(F:FS):FS:=j6 (fun _=>True) g F (uL lo n)
def kR(f:FE)(g:FG)(F:FS):FS:=fun τ C=>(f τ C).bind fun p=>match p.1 with
 | .int j=>if -(2^62)<=j/\j<2^62 then fForR 0 j.toNat g F τ p.2 else none
 |_=>none
def qS(f1 f2:FE)(g:FG)(F:FS):FS:=fun τ C=>(f1 τ C).bind fun p=>(f2 τ p.2).bind fun q=>match p.1,q.1 with
 | .int i,.int j=>if -(2^62)<=i/\i<2^62/\ -(2^62)<=j/\j<2^62 then fForR i (j - i).toNat g F τ q.2 else none
 |_,_=>none
theorem aJk(h:trS K W (kR f g F) D σ H):aGY (aG6 (trA K (eV f fF))) (trG K g) (trS K W F) D σ H:=by
 obtain⟨H₀,Z,ρ,τ,C,fl,ag,C',R,e,k⟩:=h;unfold kR at e;obtain⟨⟨t,C1⟩,e1,e⟩:=aK.mp e
 refine⟨H₀,Z,ρ,τ,C,[t],C1,R,by simp[eV,fF,e1],fun vs H1 af R1 h1 s1=>?_⟩
 obtain⟨v,r,rfl,q1,q2⟩:=h1.cons_inv;rw[q2.nil_inv];dsimp only at e;split at e
 ·split at e
  ·rename_i hj
   exact⟨_,by rw[q1.int_inv],hj.1,hj.2,vF (P:=fun _=>True) R1 trivial e sY fun ai H' ae R' s'=>k ai H' ae R' (s1.ss.trans s')⟩
  ·cases e
 ·cases e
theorem aJV{f1 f2:FE}(h:trS K W (qS f1 f2 g F) D σ H):aGY (iRng2 (trA K (eV f1 (eV f2 fF)))) (trG K g) (trS K W F) D σ H:=by
 obtain⟨H₀,Z,ρ,τ,C,fl,ag,C',R,e,k⟩:=h;unfold qS at e;obtain⟨⟨t,C1⟩,e1,e⟩:=aK.mp e;obtain⟨⟨u,C2⟩,e2,e⟩:=aK.mp e
 refine⟨H₀,Z,ρ,τ,C,[t,u],C2,R,by simp[eV,fF,e1,e2],fun vs H1 af R1 h1 s1=>?_⟩
 obtain⟨v,r,rfl,q1,q2⟩:=h1.cons_inv;obtain⟨v',r',rfl,q3,q4⟩:=q2.cons_inv;rw[q4.nil_inv];dsimp only at e;split at e
 ·split at e
  ·rename_i hj
   exact⟨_,_,by rw[q1.int_inv,q3.int_inv],hj,vF (P:=fun _=>True) R1 trivial e sY fun ai H' ae R' s'=>k ai H' ae R' (s1.ss.trans s')⟩
  ·cases e
 ·cases e
def lH(c:FB)(F:FS):Nat->FS
 |0,_,_=>none
 |n+1,τ,C=>(c τ C).bind fun p=>if p.1=true then(F τ p.2).bind fun r=>match r with
  | (.nx,ao,C2)=>lH c F n ao C2
  | (.ct,ao,C2)=>lH c F n ao C2
  | (.bk,ao,C2)=>some (.nx,ao,C2)
  | (.rt v,ao,C2)=>some (.rt v,ao,C2)
  | (.ex v,ao,C2)=>some (.ex v,ao,C2)
  else some (.nx,τ,p.2)
theorem aJJ(h:trS K W (lH c F n) D σ H):tWhile (trT K c) (trS K W F) D σ H:=by
 obtain⟨H₀,Z,ρ,τ,C,fl,ag,C',R,e,k⟩:=h
 refine⟨fun m cw H1=>∃af ap C1,Rel K H₀ Z af ap C1 cw H1/\SStep Z H H1 ρ af/\lH c F m ap C1=some (fl,ag,C'),⟨n,ρ,τ,C,R,.refl,e⟩,?_⟩
 rintro m cw H1 ⟨af,ap,C1,R1,s1,e1⟩;cases m with
 |zero=>cases e1
 |succ m=>
  unfold lH at e1;obtain⟨⟨b,C2⟩,e2,e1⟩:=aK.mp e1
  refine⟨H₀,Z,af,ap,C1,b,C2,R1,e2,fun H2 ar R2 s2=>?_⟩
  cases b with
  |false=>
   rw[if_neg (by simp)]at e1|-;cases e1
   exact k cw H2 ar R2 (s1.trans s2.ss)
  |true=>
   rw[if_pos rfl]at e1|-;obtain⟨⟨f3,ei,C3⟩,e3,e1⟩:=aK.mp e1
   refine⟨fun ai H'=>∃az ei C3,Rel K H₀ Z az ei C3 ai H'/\SStep Z H H' ρ az/\lH c F m ei C3=some (fl,ag,C'),fun ai H' z=>⟨m,d8 _,z⟩,?_⟩
   refine⟨H₀,Z,ar,ap,C2,f3,ei,C3,R2,e3,fun wc H4 jn R4 s4=>?_⟩
   cases f3 with
   |nx=>exact⟨jn,ei,C3,R4,(s1.trans s2.ss).trans s4,e1⟩
   |ct=>exact⟨jn,ei,C3,R4,(s1.trans s2.ss).trans s4,e1⟩
   |bk=>cases e1;exact k wc H4 jn R4 ((s1.trans s2.ss).trans s4)
   |rt v=>cases e1;exact k wc H4 jn R4 ((s1.trans s2.ss).trans s4)
   |ex c=>cases e1;exact k wc H4 jn R4 ((s1.trans s2.ss).trans s4)
end
section
variable {K:aO}{σ:St}{H:Hp}{Q:VK}
variable{M:Hp}{x y:V}{f fa fb fo:FE}{xs:List V}{c d:FB}{D:Ends}
theorem aGp{ρ:Rho}{ts:List T}{vs:List V}{i:Int}{t:T}(h:RTs K M ρ ts vs)(e:atI ts i=some t):∃v,atI vs i=some v/\RT K M ρ t v:=by
 unfold atI at e|-;rw[h.length];cases q:ixN ts.length i with
 |none=>rw[q]at e;cases e
 |some j=>
  rw[q]at e
  exact h.get e
def gIx(t1 t2:T)(C:Sto):Option (T×Sto):=match t2 with
 | .int i=>(sqT C t1).bind fun ts=>(atI ts i).map fun t=>(t,C)
 |_=>none
theorem aN9(h:∃t1 t2,trV K σ [t1,t2] [x,y] (gIx t1 t2) H Q):rIx K x y H Q:=by
 obtain⟨t1,t2,H₀,Z,ρ,τ,C,t,C',R,r,e,k⟩:=h;obtain⟨_,_,z,r1,r⟩:=r.cons_inv;cases z;obtain⟨_,_,z,r2,r⟩:=r.cons_inv;cases z;unfold gIx at e;split at e
 ·obtain⟨ts,e1,e⟩:=aK.mp e;obtain⟨u,e2,e⟩:=aL.mp e;cases e;obtain⟨a,vs,ev,q,rr⟩:=R.sq r1 e1;obtain⟨v,h1,h2⟩:=aGp rr e2;have fin:=k v H ρ R h2 .refl;rcases q with q|q
  ·exact .inl ⟨a,vs,_,v,ev,r2.int_inv,q,h1,fin⟩
  ·exact .inr (.inl ⟨a,vs,_,v,ev,r2.int_inv,q,h1,fin⟩)
 ·cases e
abbrev FO:=TSt->Sto->Option (Option Int×Sto)
noncomputable def lF:FO:=fun _ C=>some (none,C)
noncomputable def nA(f:FE):FO:=fun τ C=>(f τ C).bind fun p=>match p.1 with
 | .int i=>some (some i,p.2)
 |_=>none
noncomputable def trO(K:aO)(f:FO):TO:=fun σ H Q=>∃H₀ Z ρ τ C o C',Rel K H₀ Z ρ τ C σ H/\f τ C=some (o,C')/\
 ∀H' ae,Rel K H₀ Z ae τ C' σ H'->Step H H' ρ ae->Q o H'
theorem aIn{Q:Option Int->Hp->Prop}(h:trO K lF σ H Q):tNoPart σ H Q:=by
 obtain⟨H₀,Z,ρ,τ,C,o,C',R,e,k⟩:=h;cases e
 exact k H ρ R .refl
theorem aLc{Q:Option Int->Hp->Prop}(h:trO K (nA f) σ H Q):tPart (trE K f) σ H Q:=by
 obtain⟨H₀,Z,ρ,τ,C,o,C',R,e,k⟩:=h;unfold nA at e;obtain⟨⟨t,C1⟩,e1,e⟩:=aK.mp e;dsimp only at e;split at e
 ·cases e
  exact⟨H₀,Z,ρ,τ,C,_,_,R,e1,fun v H1 af R1 h1 s1=>⟨_,h1.int_inv,k H1 af R1 s1⟩⟩
 ·cases e
def aCN(xs:List T)(lo hi:Option Int):List T:=(xs.drop (HT.sIx xs.length 0 lo)).take (HT.sIx xs.length xs.length hi - HT.sIx xs.length 0 lo)
theorem RTs.cut{ρ:Rho}{ts:List T}{vs:List V}(h:RTs K M ρ ts vs)(lo hi:Option Int):RTs K M ρ (aCN ts lo hi) (aEL vs lo hi):=by
 unfold aCN aEL;rw[h.length]
 exact(h.drop _).take _
def fSl(f:FE)(lo hi:FO):FN:=fun τ C=>(f τ C).bind fun p=>(lo τ p.2).bind fun q=>(hi τ q.2).bind fun r=>(liT r.2 p.1).map fun ts=>(aCN ts q.1 r.1,r.2)
theorem aN6{lo hi:FO}(h:trN K (fSl f lo hi) σ H Q):tSl (rSlL K) (trE K f) (trO K lo) (trO K hi) σ H Q:=by
 obtain⟨H₀,Z,ρ,τ,C,ts,C',R,e,k⟩:=h;unfold fSl at e;obtain⟨⟨t,C1⟩,e1,e⟩:=aK.mp e;obtain⟨⟨l,C2⟩,e2,e⟩:=aK.mp e;obtain⟨⟨u,C3⟩,e3,e⟩:=aK.mp e;obtain⟨us,e4,e⟩:=aL.mp e;cases e
 refine⟨H₀,Z,ρ,τ,C,t,C1,R,e1,fun v H1 af R1 h1 s1=>?_⟩
 refine⟨H₀,Z,af,τ,C1,l,C2,R1,e2,fun H2 ar R2 s2=>?_⟩
 refine⟨H₀,Z,ar,τ,C2,u,_,R2,e3,fun H3 az R3 s3=>?_⟩
 obtain⟨a,vs,ev,q,r⟩:=R3.li ((h1.step s2).step s3) e4
 exact⟨a,vs,ev,q,fun p hp=>k p H3 az _ R3 hp (r.cut l u) ((s1.trans s2).trans s3)⟩
def rCatL(K:aO):R2:=fun x y H Q=>∃l b xs zs,x=.ref l/\y=.ref b/\SqL K H l xs/\SqL K H b zs/\xs.length+zs.length<=lim/\∀p,H p=none->Q (.ref p) (upd H p (.lst (xs++zs)))
def aFy(t1 t2:T)(C:Sto):Option (List T):=(liT C t1).bind fun ts=>(liT C t2).bind fun us=>if ts.length+us.length<=lim then some (ts++us)else none
theorem aNX(h:∃t1 t2,trW K σ [t1,t2] [x,y] (aFy t1 t2) H Q):rCatL K x y H Q:=by
 obtain⟨t1,t2,H₀,Z,ρ,τ,C,us,R,r,e,k⟩:=h;obtain⟨_,_,z,r1,r⟩:=r.cons_inv;cases z;obtain⟨_,_,z,r2,r⟩:=r.cons_inv;cases z;unfold aFy at e;obtain⟨ts,e1,e⟩:=aK.mp e;obtain⟨ws,e2,e⟩:=aK.mp e;split at e
 ·rename_i hl;cases e;obtain⟨a,vs,ea,qa,ra⟩:=R.li r1 e1;obtain⟨b,zs,eb,qb,rb⟩:=R.li r2 e2
  exact⟨a,b,vs,zs,ea,eb,qa,qb,by rw[ra.length,rb.length];exact hl,fun p hp=>k p H ρ _ R hp (ra.append rb) .refl⟩
 ·cases e
def gO(fa:FN):FN:=tY fa fun ts _=>if ts.length<=lim then some ts else none
theorem aMz{fa:FN}(hz:lim<=sizeLine)(h:trN K (gO fa) σ H Q):tLst (trA K fa) σ H Q:=by
 obtain⟨H₀,Z,ρ,τ,C,ts,C',R,e,k⟩:=aH9 h
 refine⟨H₀,Z,ρ,τ,C,ts,C',R,e,fun vs H1 af R1 h1 s1=>?_⟩
 obtain⟨us,jd,Z',ae,ag,C1,ws,R',r,e,k⟩:=k vs H1 af R1 h1 s1;split at e
 ·rename_i hl;cases e
  exact⟨by rw[r.length];exact cB hl hz,fun p hp=>k p H1 ae _ R' hp r .refl⟩
 ·cases e
def aDQ(ts:List T)(C:Sto):Option (List T):=match ts with
 | [t]=>sqT C t
 |_=>none
theorem aMe(h:∃ts,trW K σ ts xs (aDQ ts) H Q):∃p ys,xs=[.ref p]/\(SqL K H p ys\/SqT K H p ys)/\∀l,H l=none->Q (.ref l) (upd H l (.lst ys)):=by
 obtain⟨ts,H₀,Z,ρ,τ,C,us,R,r,e,k⟩:=h;unfold aDQ at e;split at e
 ·obtain⟨v,_,rfl,r1,r⟩:=r.cons_inv;rw[r.nil_inv];obtain⟨a,vs,ea,qa,ra⟩:=R.sq r1 e
  exact⟨a,vs,by rw[ea],qa,fun p hp=>k p H ρ _ R hp ra .refl⟩
 ·cases e
def aFz(ts:List T)(C:Sto):Option (T×Sto):=match ts with
 | [t]=>(sqT C t).map fun us=>(.int us.length,C)
 |_=>none
theorem aNE(h:∃ts,trV K σ ts xs (aFz ts) H Q):∃p ys,xs=[.ref p]/\(SqL K H p ys\/SqT K H p ys)/\Q (.int ys.length) H:=by
 obtain⟨ts,H₀,Z,ρ,τ,C,t,C',R,r,e,k⟩:=h;unfold aFz at e;split at e
 ·obtain⟨v,_,rfl,r1,r⟩:=r.cons_inv;rw[r.nil_inv];obtain⟨us,e1,e⟩:=aL.mp e;cases e;obtain⟨a,vs,ea,qa,ra⟩:=R.sq r1 e1
  exact⟨a,vs,by rw[ea],qa,k _ H ρ R (by rw[ra.length];exact .int) .refl⟩
 ·cases e
noncomputable def ints?:List T->Option (List Int)
 | []=>some []
 | .int i::ts=>(ints? ts).map (i:: ·)
 |_::_=>none
noncomputable def bls?:List T->Option (List Bool)
 | []=>some []
 | .bl i::ts=>(bls? ts).map (i:: ·)
 |_::_=>none
theorem yM{ρ:Rho}:∀{ts:List T}{vs:List V}{ns:List Int},RTs K M ρ ts vs->ints? ts=some ns->vs=ns.map V.int:=by
 intro ts;induction ts with
 |nil=>intro _ _ r e;cases e;rw[r.nil_inv];rfl
 |cons t ts ih=>
  intro _ _ r e;cases t with
  |int i=>
   obtain⟨v,vs,rfl,r1,r⟩:=r.cons_inv;obtain⟨ns,e1,rfl⟩:=aL.mp e;rw[aM,r1.int_inv,ih r e1]
  |_=>cases e
theorem aHD{ρ:Rho}:∀{ts:List T}{vs:List V}{ns:List Bool},RTs K M ρ ts vs->bls? ts=some ns->vs=ns.map V.bl:=by
 intro ts;induction ts with
 |nil=>intro _ _ r e;cases e;rw[r.nil_inv];rfl
 |cons t ts ih=>
  intro _ _ r e;cases t with
  |bl i=>
   obtain⟨v,vs,rfl,r1,r⟩:=r.cons_inv;obtain⟨ns,e1,rfl⟩:=aL.mp e;rw[aM,r1.bl_inv,ih r e1]
  |_=>cases e
theorem p8(ns:List Int):ints? (ns.map T.int)=some ns:=by
 induction ns with
 |nil=>rfl
 |cons n ns ih=>simp[ints?,ih]
theorem aHH(ns:List Bool):bls? (ns.map T.bl)=some ns:=by
 induction ns with
 |nil=>rfl
 |cons n ns ih=>simp[bls?,ih]
def vY(c:List Int->Bool)(f:List Int->Int)(ts:List T)(C:Sto):Option (T×Sto):=match ts with
 | [t]=>(liT C t).bind fun us=>(ints? us).bind fun ns=>if c ns=true then some (.int (f ns),C)else none
 |_=>none
def aCv(K:aO)(c:List Int->Bool)(f:List Int->Int):List V->Hp->VK->Prop:=fun xs H Q=>∃p ns,xs=[.ref p]/\SqL K H p (ns.map V.int)/\c ns=true/\Q (.int (f ns)) H
theorem aC2{c:List Int->Bool}{f:List Int->Int}(h:∃ts,trV K σ ts xs (vY c f ts) H Q):aCv K c f xs H Q:=by
 obtain⟨ts,H₀,Z,ρ,τ,C,t,C',R,r,e,k⟩:=h;unfold vY at e;split at e
 ·obtain⟨v,_,rfl,r1,r⟩:=r.cons_inv;rw[r.nil_inv];obtain⟨us,e1,e⟩:=aK.mp e;obtain⟨ns,e2,e⟩:=aK.mp e;split at e
  ·rename_i hc;cases e;obtain⟨a,vs,ea,qa,ra⟩:=R.li r1 e1;have:=yM ra e2;subst this
   exact⟨a,ns,by rw[ea],qa,hc,k _ H ρ R .int .refl⟩
  ·cases e
 ·cases e
def aHJ(f:List Bool->Bool)(ts:List T)(C:Sto):Option (T×Sto):=match ts with
 | [t]=>(liT C t).bind fun us=>(bls? us).map fun ns=>(.bl (f ns),C)
 |_=>none
def rBls(K:aO)(f:List Bool->Bool):List V->Hp->VK->Prop:=fun xs H Q=>∃p ns,xs=[.ref p]/\SqL K H p (ns.map V.bl)/\Q (.bl (f ns)) H
theorem aNM{f:List Bool->Bool}(h:∃ts,trV K σ ts xs (aHJ f ts) H Q):rBls K f xs H Q:=by
 obtain⟨ts,H₀,Z,ρ,τ,C,t,C',R,r,e,k⟩:=h;unfold aHJ at e;split at e
 ·obtain⟨v,_,rfl,r1,r⟩:=r.cons_inv;rw[r.nil_inv];obtain⟨us,e1,e⟩:=aK.mp e;obtain⟨ns,e2,e⟩:=aL.mp e;cases e;obtain⟨a,vs,ea,qa,ra⟩:=R.li r1 e1;have:=aHD ra e2;subst this
  exact⟨a,ns,by rw[ea],qa,k _ H ρ R .bl .refl⟩
 ·cases e
noncomputable def gI2(f:Int->Int->Int)(ts:List T)(C:Sto):Option (T×Sto):=match ts with
 | [.int i,.int j]=>some (.int (f i j),C)
 |_=>none
theorem aNY{f:Int->Int->Int}(h:∃ts,trV K σ ts xs (gI2 f ts) H Q):∃i j,xs=[.int i,.int j]/\Q (.int (f i j)) H:=by
 obtain⟨ts,H₀,Z,ρ,τ,C,t,C',R,r,e,k⟩:=h;unfold gI2 at e;split at e
 ·obtain⟨v,_,rfl,r1,r⟩:=r.cons_inv;obtain⟨w,_,rfl,r2,r⟩:=r.cons_inv;rw[r.nil_inv,r1.int_inv,r2.int_inv];cases e
  exact⟨_,_,rfl,k _ H ρ R .int .refl⟩
 ·cases e
def aMl(C:Sto):T->Option Bool
 | .non=>some false
 | .bl b=>some b
 | .int i=>some (i !=0)
 | .lst ts=>some (!ts.isEmpty)
 | .tup ts=>some (!ts.isEmpty)
 | .cell c=>(lc C c).map fun ts=> !ts.isEmpty
 | .str _=>none
 | .exc _=>none
def qA(f:FE):FB:=fun τ C=>(f τ C).bind fun p=>(aMl p.2 p.1).map fun b=>(b,p.2)
theorem qW{ρ:Rho}{ts:List T}{vs:List V}(h:RTs K M ρ ts vs):vs.isEmpty=ts.isEmpty:=by
 cases ts with
 |nil=>rw[h.nil_inv];rfl
 |cons t ts=>obtain⟨v,r,rfl,_⟩:=h.cons_inv;rfl
theorem aNc{Q:Bool->Hp->Prop}(h:trT K (qA f) σ H Q):trE K f σ H fun x H1=>∃k,aK1 K x H1 k/\Q k H1:=by
 obtain⟨H₀,Z,ρ,τ,C,b,C',R,e,k⟩:=h;unfold qA at e;obtain⟨⟨t,C1⟩,e1,e⟩:=aK.mp e;obtain⟨b',e2,e⟩:=aL.mp e;cases e
 refine⟨H₀,Z,ρ,τ,C,t,_,R,e1,fun v H1 af R1 h1 s1=>⟨b,?_,k H1 af R1 s1⟩⟩
 dsimp only at e2 R1;cases t with
 |non=>rw[h1.non_inv];cases e2;rfl
 |bl c=>rw[h1.bl_inv];cases e2;rfl
 |int i=>rw[h1.int_inv];cases e2;rfl
 |str x=>cases e2
 |exc x=>cases e2
 |lst ts=>
  obtain⟨a,vs,ea,qa,ra⟩:=R1.li h1 rfl;rw[ea];cases e2
  exact .inl ⟨vs,qa,by rw[qW ra]⟩
 |tup ts=>
  unfold RT at h1;obtain⟨a,vs,ea,qa,ra⟩:=h1;rw[ea];cases e2
  exact .inr (.inl ⟨vs,SqT.msk (.of qa),by rw[qW ra]⟩)
 |cell c=>
  obtain⟨ts,e3,e2⟩:=aL.mp e2;obtain⟨a,vs,ea,qa,ra⟩:=R1.li h1 e3;rw[ea];cases e2
  exact .inl ⟨vs,qa,by rw[qW ra]⟩
noncomputable def i8(f:FE):FB:=fun τ C=>(f τ C).bind fun p=>match p.1 with
 | .bl b=>some (b,p.2)
 |_=>none
theorem aF5{te:TE}{Q:Bool->Hp->Prop}(hi:∀σ H Q,trE K f σ H Q->te σ H Q)(h:trT K (i8 f) σ H Q):tTest te σ H Q:=by
 obtain⟨H₀,Z,ρ,τ,C,b,C',R,e,k⟩:=h;unfold i8 at e;obtain⟨⟨t,C1⟩,e1,e⟩:=aK.mp e;dsimp only at e;split at e
 ·cases e
  exact hi _ _ _ ⟨H₀,Z,ρ,τ,C,_,_,R,e1,fun v H1 af R1 h1 s1=>⟨_,h1.bl_inv,k H1 af R1 s1⟩⟩
 ·cases e
noncomputable def qH(c d:FB):FB:=fun τ C=>(c τ C).bind fun p=>if p.1=true then d τ p.2 else some (false,p.2)
noncomputable def aAq(c d:FB):FB:=fun τ C=>(c τ C).bind fun p=>if p.1=true then some (true,p.2)else d τ p.2
noncomputable def qM(c:FB):FB:=fun τ C=>(c τ C).map fun p=>(!p.1,p.2)
theorem aLF{Q:Bool->Hp->Prop}(h:trT K (qH c d) σ H Q):tAnd (trT K c) (trT K d) σ H Q:=by
 obtain⟨H₀,Z,ρ,τ,C,b,C',R,e,k⟩:=h;unfold qH at e;obtain⟨⟨b1,C1⟩,e1,e⟩:=aK.mp e
 refine⟨H₀,Z,ρ,τ,C,b1,C1,R,e1,fun H1 af R1 s1=>?_⟩
 cases b1 with
 |true=>
  rw[if_pos rfl]at e|-
  exact⟨H₀,Z,af,τ,C1,b,C',R1,e,fun H2 ar R2 s2=>k H2 ar R2 (s1.trans s2)⟩
 |false=>
  rw[if_neg (by simp)]at e|-;cases e
  exact k H1 af R1 s1
theorem aNy{Q:Bool->Hp->Prop}(h:trT K (aAq c d) σ H Q):tOr (trT K c) (trT K d) σ H Q:=by
 obtain⟨H₀,Z,ρ,τ,C,b,C',R,e,k⟩:=h;unfold aAq at e;obtain⟨⟨b1,C1⟩,e1,e⟩:=aK.mp e
 refine⟨H₀,Z,ρ,τ,C,b1,C1,R,e1,fun H1 af R1 s1=>?_⟩
 cases b1 with
 |false=>
  rw[if_neg (by simp)]at e|-
  exact⟨H₀,Z,af,τ,C1,b,C',R1,e,fun H2 ar R2 s2=>k H2 ar R2 (s1.trans s2)⟩
 |true=>
  rw[if_pos rfl]at e|-;cases e
  exact k H1 af R1 s1
theorem aME{Q:Bool->Hp->Prop}(h:trT K (qM c) σ H Q):tNot (trT K c) σ H Q:=by
 obtain⟨H₀,Z,ρ,τ,C,b,C',R,e,k⟩:=h;unfold qM at e;obtain⟨⟨b1,C1⟩,e1,e⟩:=aL.mp e;cases e
 exact⟨H₀,Z,ρ,τ,C,b1,_,R,e1,fun H1 af R1 s1=>k H1 af R1 s1⟩
noncomputable def zB(fa fb:FE):FE:=fun τ C=>(fa τ C).bind fun p=>match p.1 with
 | .bl true=>fb τ p.2
 | .bl false=>some (.bl false,p.2)
 |_=>none
noncomputable def y3(fa:FE):FE:=fun τ C=>(fa τ C).bind fun p=>match p.1 with
 | .bl b=>some (.bl (!b),p.2)
 |_=>none
theorem aMw(h:trE K (zB fa fb) σ H Q):tAndV (trE K fa) (trE K fb) σ H Q:=by
 obtain⟨H₀,Z,ρ,τ,C,t,C',R,e,k⟩:=h;unfold zB at e;obtain⟨⟨t1,C1⟩,e1,e⟩:=aK.mp e
 refine⟨H₀,Z,ρ,τ,C,t1,C1,R,e1,fun v H1 af R1 h1 s1=>?_⟩
 dsimp only at e;split at e
 ·refine⟨true,h1.bl_inv,?_⟩
  rw[if_pos rfl]
  exact⟨H₀,Z,af,τ,C1,t,C',R1,e,fun v H2 ar R2 h2 s2=>k v H2 ar R2 h2 (s1.trans s2)⟩
 ·refine⟨false,h1.bl_inv,?_⟩
  rw[if_neg (by simp)];cases e
  exact k _ H1 af R1 .bl s1
 ·cases e
theorem aM3(h:trE K (y3 fa) σ H Q):tNotV (trE K fa) σ H Q:=by
 obtain⟨H₀,Z,ρ,τ,C,t,C',R,e,k⟩:=h;unfold y3 at e;obtain⟨⟨t1,C1⟩,e1,e⟩:=aK.mp e
 refine⟨H₀,Z,ρ,τ,C,t1,C1,R,e1,fun v H1 af R1 h1 s1=>?_⟩
 dsimp only at e;split at e
 ·cases e
  exact⟨_,h1.bl_inv,k _ H1 af R1 .bl s1⟩
 ·cases e
noncomputable def aFv(c:FB)(fa fb:FE):FE:=fun τ C=>(c τ C).bind fun p=>if p.1=true then fa τ p.2 else fb τ p.2
theorem aM9(h:trE K (aFv c fa fb) σ H Q):tIf (trT K c) (trE K fa) (trE K fb) σ H Q:=by
 obtain⟨H₀,Z,ρ,τ,C,t,C',R,e,k⟩:=h;unfold aFv at e;obtain⟨⟨b1,C1⟩,e1,e⟩:=aK.mp e
 refine⟨H₀,Z,ρ,τ,C,b1,C1,R,e1,fun H1 af R1 s1=>?_⟩
 cases b1 with
 |false=>
  rw[if_neg (by simp)]at e|-
  exact⟨H₀,Z,af,τ,C1,t,C',R1,e,fun v H2 ar R2 h2 s2=>k v H2 ar R2 h2 (s1.trans s2)⟩
 |true=>
  rw[if_pos rfl]at e|-
  exact⟨H₀,Z,af,τ,C1,t,C',R1,e,fun v H2 ar R2 h2 s2=>k v H2 ar R2 h2 (s1.trans s2)⟩
noncomputable def tF(fa fb fc:FE)(p q:Int->Int->Bool):FE:=fun τ C=>(fa τ C).bind fun x=>(fb τ x.2).bind fun y=>match x.1,y.1 with
 | .int i,.int j=>if p i j=true then(fc τ y.2).bind fun z=>match z.1 with
  | .int l=>some (.bl (q j l),z.2)
  |_=>none
   else some (.bl false,y.2)
 |_,_=>none
theorem aJb{fc:FE}{p q:Int->Int->Bool}(h:trE K (tF fa fb fc p q) σ H Q):
 tChain (fun x y H Q=>∃i j,x=.int i/\y=.int j/\Q (.bl (p i j)) H) (fun x y H Q=>∃i j,x=.int i/\y=.int j/\Q (.bl (q i j)) H) (trE K fa) (trE K fb) (trE K fc) σ H Q:=by
 obtain⟨H₀,Z,ρ,τ,C,t,C',R,e,k⟩:=h;unfold tF at e;obtain⟨⟨t1,C1⟩,e1,e⟩:=aK.mp e;obtain⟨⟨t2,C2⟩,e2,e⟩:=aK.mp e
 refine⟨H₀,Z,ρ,τ,C,t1,C1,R,e1,fun x H1 af R1 h1 s1=>?_⟩
 refine⟨H₀,Z,af,τ,C1,t2,C2,R1,e2,fun y H2 ar R2 h2 s2=>?_⟩
 dsimp only at e;split at e
 ·refine⟨_,_,h1.int_inv,h2.int_inv,_,rfl,?_⟩
  split at e
  ·rename_i hp;rw[if_pos hp];obtain⟨⟨t3,C3⟩,e3,e⟩:=aK.mp e
   refine⟨H₀,Z,ar,τ,C2,t3,C3,R2,e3,fun z H3 az R3 h3 s3=>?_⟩
   dsimp only at e;split at e
   ·cases e
    exact⟨_,_,h2.int_inv,h3.int_inv,k _ H3 az R3 .bl ((s1.trans s2).trans s3)⟩
   ·cases e
  ·rename_i hp;rw[if_neg hp];cases e
   exact k _ H2 ar R2 .bl (s1.trans s2)
 ·cases e
def pH(fe fo fi:FE):FS:=fun τ C=>(fe τ C).bind fun p=>(fo τ p.2).bind fun q=>(fi τ q.2).bind fun r=>match q.1,r.1 with
 | .cell c,.int i=>(lc r.2 c).bind fun ts=>(ixN ts.length i).map fun j=>(.nx,τ,r.2.set c (.l,ts.set j p.1))
 |_,_=>none
theorem aLd{fe fi:FE}(h:trS K W (pH fe fo fi) D σ H):aDd (trE K fe) (gSub (trE K fo) (trE K fi) aHQ) D σ H:=by
 obtain⟨H₀,Z,ρ,τ,C,fl,ag,C',R,e,k⟩:=h;unfold pH at e;obtain⟨⟨t1,C1⟩,e1,e⟩:=aK.mp e;obtain⟨⟨t2,C2⟩,e2,e⟩:=aK.mp e;obtain⟨⟨t3,C3⟩,e3,e⟩:=aK.mp e
 refine⟨H₀,Z,ρ,τ,C,t1,C1,R,e1,fun x H1 af R1 h1 s1=>?_⟩
 refine⟨H₀,Z,af,τ,C1,t2,C2,R1,e2,fun y H2 ar R2 h2 s2=>?_⟩
 refine⟨H₀,Z,ar,τ,C2,t3,C3,R2,e3,fun z H3 az R3 h3 s3=>?_⟩
 dsimp only at e;split at e
 ·obtain⟨ts,e4,e⟩:=aK.mp e;obtain⟨j,e5,e⟩:=aL.mp e;cases e;have h2':=h2.step s3;unfold RT at h2';obtain⟨a,ea,qa⟩:=h2';obtain⟨vs,c2,c3⟩:=R3.celL qa (gS.mp e4);obtain⟨w1,w2⟩:=R3.write qa (by rw[c2];trivial) (c3.set ((h1.step s2).step s3) j)
  exact⟨a,vs,_,j,ea,h3.int_inv,c2,by rw[c3.length];exact e5,k σ _ az w1 (((s1.trans s2).trans s3).ss.trans w2)⟩
 ·cases e
def aFg(fo:FE)(fa:FN)(g:List T->List T->Option (List T)):FS:=fun τ C=>(fo τ C).bind fun p=>(fa τ p.2).bind fun q=>match p.1 with
 | .cell c=>(lc p.2 c).bind fun _=>(lc q.2 c).bind fun ts=>(g ts q.1).map fun us=>(.nx,τ,q.2.set c (.l,us))
 |_=>none
def aMm(g:List V->List V->Option (List V)):V->List V->Hp->VK->Prop:=fun x vs H Q=>∃l xs ys,x=.ref l/\H l=some (.lst xs)/\g xs vs=some ys/\Q .non (upd H l (.lst ys))
theorem aKO{fa:FN}{g:List T->List T->Option (List T)}{gv:List V->List V->Option (List V)}
 (hg:∀M ρ ts us ws vs xs,RTs K M ρ ts vs->RTs K M ρ us xs->g ts us=some ws->∃ys,gv vs xs=some ys/\RTs K M ρ ws ys)
 (h:trS K W (aFg fo fa g) D σ H):aGB (tBM K "list" (aMm gv) (trE K fo) (trA K fa)) D σ H:=by
 obtain⟨H₀,Z,ρ,τ,C,fl,ag,C',R,e,k⟩:=h;unfold aFg at e;obtain⟨⟨t1,C1⟩,e1,e⟩:=aK.mp e;obtain⟨⟨t2,C2⟩,e2,e⟩:=aK.mp e
 refine⟨H₀,Z,ρ,τ,C,t1,C1,R,e1,fun x H1 af R1 h1 s1=>?_⟩
 dsimp only at e;split at e
 ·obtain⟨_,e3,e⟩:=aK.mp e;obtain⟨ts,e4,e⟩:=aK.mp e;obtain⟨us,e5,e⟩:=aL.mp e;cases e
  refine⟨?_,H₀,Z,af,τ,C1,t2,C2,R1,e2,fun xs H2 ar R2 h2 s2=>?_⟩
  ·have jb:=h1;unfold RT at jb;obtain⟨a,ea,qa⟩:=jb;obtain⟨vs,c2,c3⟩:=R1.celL qa (gS.mp e3);rw[ea]
   exact .inl ⟨rfl,vs,.of c2⟩
  ·have jb:=h1.step s2;unfold RT at jb;obtain⟨a,ea,qa⟩:=jb;obtain⟨vs,c2,c3⟩:=R2.celL qa (gS.mp e4);obtain⟨ys,y1,y2⟩:=hg _ _ _ _ _ _ _ c3 h2 e5;obtain⟨w1,w2⟩:=R2.write qa (by rw[c2];trivial) y2
   exact⟨a,vs,ys,ea,c2,y1,k σ _ ar w1 ((s1.trans s2).ss.trans w2)⟩
 ·cases e
end
mutual
def CF:T->Bool
 | .cell _=>false
 | .lst ts=>CFs ts
 | .tup ts=>CFs ts
 |_=>true
def CFs:List T->Bool
 | []=>true
 |t::ts=>CF t&&CFs ts
end
theorem aAS{ts:List T}:CFs ts=true↔∀t∈ts,CF t=true:=by
 induction ts with
 |nil=>simp[CFs]
 |cons t ts ih=>simp[CFs,ih]
section
variable {K:aO}{σ:St}{H:Hp}{Q:VK}
mutual
theorem RT.cf{M:Hp}{ρ ae:Rho}:∀{t:T}{v:V},CF t=true->RT K M ρ t v->RT K M ae t v
 | .non,_,_,h=>by unfold RT at*;exact h
 | .bl _,_,_,h=>by unfold RT at*;exact h
 | .int _,_,_,h=>by unfold RT at*;exact h
 | .str _,_,_,h=>by unfold RT at*;exact h
 | .exc _,_,_,h=>by unfold RT at*;exact h
 | .lst ts,v,c,h=>by
   unfold RT at*;obtain⟨a,vs,e,q,r⟩:=h
   exact⟨a,vs,e,q,RTs.cf (by unfold CF at c;exact c) r⟩
 | .tup ts,v,c,h=>by
   unfold RT at*;obtain⟨a,vs,e,q,r⟩:=h
   exact⟨a,vs,e,q,RTs.cf (by unfold CF at c;exact c) r⟩
 | .cell c,_,h,_=>by unfold CF at h;cases h
theorem RTs.cf{M:Hp}{ρ ae:Rho}:∀{ts:List T}{vs:List V},CFs ts=true->RTs K M ρ ts vs->RTs K M ae ts vs
 | [],_,_,h=>by unfold RTs at*;exact h
 |t::ts,vs,c,h=>by
  unfold CFs at c;rw[aOY]at c;unfold RTs at*;obtain⟨v,r,e,h1,h2⟩:=h
  exact⟨v,r,e,RT.cf c.1 h1,RTs.cf c.2 h2⟩
end
variable{H₀:Hp}{τ:TSt}{C:Sto}{neg:Bool}{x y:V}{n m k:Nat}{F:List T->Option T}{E:XK}{α:Type}{D:Addr}{is:List Nat}{g:FG}{tc:FB}{fe f:FE}
noncomputable def mapO(f:T->Option T):List T->Option (List T)
 | []=>some []
 |t::ts=>(f t).bind fun u=>(mapO f ts).map (u:: ·)
def dr:Nat->Sto->T->Option T
 |0,_,t=>if CF t=true then some t else none
 |n+1,C,.cell c=>(lc C c).bind fun ts=>(mapO (dr n C) ts).map T.lst
 |n+1,C,.lst ts=>if CFs ts=true then some (.lst ts)else(mapO (dr n C) ts).map T.lst
 |n+1,C,.tup ts=>if CFs ts=true then some (.tup ts)else(mapO (dr n C) ts).map T.tup
 |_+1,_,t=>if CF t=true then some t else none
theorem pU{Z:Addr->Prop}{ρ:Rho}:Same (mask H Z ρ) (mask H Z []):=fun a o h=>by
 obtain⟨h1,h2,h3⟩:=lK.mp h
 exact mG h1 (by simp) h3
theorem RTs.mapO{M M':Hp}{ρ ae:Rho}{f:T->Option T}(hf:∀t v t',RT K M ρ t v->f t=some t'->RT K M' ae t' v):∀{ts:List T}{vs:List V}{us:List T},RTs K M ρ ts vs->TL.mapO f ts=some us->RTs K M' ae us vs
 | [],_,_,h,e=>by cases e;rw[h.nil_inv];exact .nil
 |t::ts,_,us,h,e=>by
  obtain⟨v,r,rfl,h1,h2⟩:=h.cons_inv;unfold TL.mapO at e;obtain⟨u,e1,e⟩:=aK.mp e;obtain⟨us,e2,rfl⟩:=aL.mp e
  exact .cons (hf t v u h1 e1) (RTs.mapO hf h2 e2)
theorem Rel.dr{Z:Addr->Prop}{ρ:Rho}(R:Rel K H₀ Z ρ τ C σ H):∀(n:Nat)(t:T)(v:V)(t':T),RT K (mask H Z ρ) ρ t v->TL.dr n C t=some t'->RT K (mask H Z []) [] t' v:=by
 intro n;induction n with
 |zero=>
  intro t v t' h e;unfold TL.dr at e;split at e
  ·rename_i hc;cases e
   exact(h.cf hc).mono pU (fun c a z=>z)
  ·cases e
 |succ n ih=>
  intro t v t' h e;by_cases hc:∃c,t=.cell c
  ·obtain⟨c,rfl⟩:=hc;unfold TL.dr at e;obtain⟨ts,e1,e⟩:=aK.mp e;obtain⟨us,e2,rfl⟩:=aL.mp e;unfold RT at h;obtain⟨a,ea,qa⟩:=h;obtain⟨vs,c2,c3⟩:=R.celL qa (gS.mp e1);unfold RT
   exact⟨a,vs,ea,.of (mG (R.frs a (bD qa)).2 (by simp) c2),c3.mapO ih e2⟩
  ·have fin:CF t=true->t=t'->RT K (mask H Z []) [] t' v:=fun hc z=>by
    subst z
    exact(h.cf hc).mono pU (fun c a z=>z)
   have jk:∀{p:Bool}{u:T},(if p=true then some u else none)=some t'->p=true/\u=t':=fun {p u} z=>by
    cases p with
    |true=>exact⟨rfl,cH.inj z⟩
    |false=>cases z
   cases t with
   |cell c=>exact absurd ⟨c,rfl⟩ hc
   |lst ts=>
    unfold TL.dr at e;split at e
    ·rename_i hc
     exact fin (by unfold CF;exact hc) (cH.inj e)
    ·obtain⟨us,e2,rfl⟩:=aL.mp e;unfold RT at h;obtain⟨a,vs,ea,qa,ra⟩:=h;unfold RT
     exact⟨a,vs,ea,pU.seq qa,ra.mapO ih e2⟩
   |tup ts=>
    unfold TL.dr at e;split at e
    ·rename_i hc
     exact fin (by unfold CF;exact hc) (cH.inj e)
    ·obtain⟨us,e2,rfl⟩:=aL.mp e;unfold RT at h;obtain⟨a,vs,ea,qa,ra⟩:=h;unfold RT
     exact⟨a,vs,ea,pU _ _ qa,ra.mapO ih e2⟩
   |non=>exact fin (jk e).1 (jk e).2
   |bl _=>exact fin (jk e).1 (jk e).2
   |int _=>exact fin (jk e).1 (jk e).2
   |str _=>exact fin (jk e).1 (jk e).2
   |exc _=>exact fin (jk e).1 (jk e).2
noncomputable def eqF:T->T->Option Bool
 | .bl a,.bl b=>some (a==b)
 | .int a,.int b=>some (a==b)
 | .str a,.str b=>some (a==b)
 |_,_=>none
noncomputable def eqL(e:T->T->Option Bool):List T->List T->Option Bool
 | [],[]=>some true
 |x::xs,y::ys=>(e x y).bind fun a=>(eqL e xs ys).map fun b=>a&&b
 |_,_=>none
def eqT:Nat->T->T->Option Bool
 |n+1,.lst xs,.lst ys=>if xs.length=ys.length then eqL (eqT n) xs ys else some false
 |_,a,b=>eqF a b
def aK7(K:aO)(neg:Bool):R2:=fun x y H Q=>∃t1 t2 b,RT K H [] t1 x/\RT K H [] t2 y/\eqT 5 t1 t2=some b/\Q (.bl (if neg then !b else b)) H
def gEq(neg:Bool)(t1 t2:T)(C:Sto):Option (T×Sto):=(dr 3 C t1).bind fun u1=>(dr 3 C t2).bind fun u2=>(eqT 5 u1 u2).map fun b=>(.bl (if neg then !b else b),C)
theorem aMH(h:∃t1 t2,trV K σ [t1,t2] [x,y] (gEq neg t1 t2) H Q):aK7 K neg x y H Q:=by
 obtain⟨t1,t2,H₀,Z,ρ,τ,C,t,C',R,r,e,k⟩:=h;obtain⟨_,_,z,r1,r⟩:=r.cons_inv;cases z;obtain⟨_,_,z,r2,r⟩:=r.cons_inv;cases z;unfold gEq at e;obtain⟨u1,e1,e⟩:=aK.mp e;obtain⟨u2,e2,e⟩:=aK.mp e;obtain⟨b,e3,e⟩:=aL.mp e;cases e
 exact⟨u1,u2,b,(R.dr _ _ _ _ r1 e1).mono nS (fun c a z=>z),(R.dr _ _ _ _ r2 e2).mono nS (fun c a z=>z),e3,k _ H ρ R .bl .refl⟩
noncomputable def inL(e:T->Option Bool):List T->Option Bool
 | []=>some false
 |x::xs=>(e x).bind fun a=>(inL e xs).map fun b=>a||b
def aM5(K:aO)(neg:Bool):R2:=fun x y H Q=>∃t p vs ts b,RT K H [] t x/\y=.ref p/\SqL K H p vs/\RTs K H [] ts vs/\inL (fun u=>eqT 5 u t) ts=some b/\Q (.bl (if neg then !b else b)) H
def gIn(neg:Bool)(t1 t2:T)(C:Sto):Option (T×Sto):=(dr 3 C t1).bind fun u1=>(liT C t2).bind fun ts=>(mapO (dr 3 C) ts).bind fun us=>(inL (fun u=>eqT 5 u u1) us).map fun b=>(.bl (if neg then !b else b),C)
theorem aNw(h:∃t1 t2,trV K σ [t1,t2] [x,y] (gIn neg t1 t2) H Q):aM5 K neg x y H Q:=by
 obtain⟨t1,t2,H₀,Z,ρ,τ,C,t,C',R,r,e,k⟩:=h;obtain⟨_,_,z,r1,r⟩:=r.cons_inv;cases z;obtain⟨_,_,z,r2,r⟩:=r.cons_inv;cases z;unfold gIn at e;obtain⟨u1,e1,e⟩:=aK.mp e;obtain⟨ts,e2,e⟩:=aK.mp e;obtain⟨us,e4,e⟩:=aK.mp e;obtain⟨b,e3,e⟩:=aL.mp e;cases e;obtain⟨a,vs,ea,qa,ra⟩:=R.li r2 e2
 exact⟨u1,a,vs,us,b,(R.dr _ _ _ _ r1 e1).mono nS (fun c a z=>z),ea,qa,ra.mapO (fun t v t' h e=>(R.dr _ _ _ _ h e).mono nS (fun c a z=>z)) e4,e3,k _ H ρ R .bl .refl⟩
def spT(K:aO)(n:Nat)(F:List T->Option T):Sp:=fun vs H Q _=>∃Z ts t,ts.length=n/\(∀a,Z a->NT (H a))/\RTs K (mask H Z []) [] ts vs/\F ts=some t/\
 ∀v H',Same H H'->RT K (mask H' Z []) [] t v->Q v H'
theorem gH:∀vs H Q E,spT K n F vs H Q E->vs.length=n:=fun vs H Q E zz=>by obtain⟨Z,ts,t,h,_,r,_⟩:=zz;rw[r.length,h]
noncomputable def sca:T->Bool
 | .non=>true
 | .bl _=>true
 | .int _=>true
 | .str _=>true
 |_=>false
theorem RT.sca{M M':Hp}{ρ ae:Rho}{t:T}{v:V}(hs:TL.sca t=true)(h:RT K M ρ t v):RT K M' ae t v:=by
 cases t with
 |non=>unfold RT at*;exact h
 |bl _=>unfold RT at*;exact h
 |int _=>unfold RT at*;exact h
 |str _=>unfold RT at*;exact h
 |_=>cases hs
def iF(n:Nat)(F:List T->Option T)(ts:List T)(C:Sto):Option (T×Sto):=if ts.length=n then
 if CFs ts=true then(F ts).map fun t=>(t,C)
 else(mapO (dr 3 C) ts).bind fun us=>(F us).bind fun t=>if sca t=true then some (t,C)else none
 else none
theorem aAG{Z:Addr->Prop}{ρ:Rho}:mask H (fun a=>Z a\/a∈ρ) []=mask H Z ρ:=by
 funext a;unfold mask;by_cases h:Z a\/a∈ρ
 ·rw[if_pos (.inl h),if_pos h]
 ·rw[if_neg (by rintro(z|z);·exact h z
                ·cases z),if_neg h]
theorem aBg{f:T->Option T}:∀{ts us:List T},mapO f ts=some us->us.length=ts.length
 | [],_,e=>by cases e;rfl
 |t::ts,us,e=>by
  unfold mapO at e;obtain⟨u,e1,e⟩:=aK.mp e;obtain⟨us,e2,rfl⟩:=aL.mp e;simp[aBg e2]
theorem Rel.cel_some{Z:Addr->Prop}{ρ:Rho}(R:Rel K H₀ Z ρ τ C σ H){a:Addr}(ha:a∈ρ):NT (H a):=by
 obtain⟨c,hc⟩:=bT.mp ha;obtain⟨_,_,_,_,h,hb,_⟩:=R.cel c a hc;rw[h];exact hb.nt
theorem aLj{vs:List V}(h:∃ts,trV K σ ts vs (iF n F ts) H Q):spT K n F vs H Q E:=by
 obtain⟨ts,H₀,Z,ρ,τ,C,t,C',R,r,e,k⟩:=h;unfold iF at e;split at e
 ·rename_i hn;split at e
  ·rename_i hc;obtain⟨u,e1,e⟩:=aL.mp e;cases e
   refine⟨fun a=>Z a\/a∈ρ,ts,_,hn,fun a z=>?_,by rw[aAG];exact r.cf hc,e1,fun v H' sm rv=>?_⟩
   ·rcases z with z|z
    ·exact R.zd a z
    ·exact R.cel_some z
   ·obtain⟨R',st⟩:=R.same sm;rw[aAG]at rv
    exact k v H' ρ R' (rv.mono (.refl _) (fun c a z=>by cases z)) st
  ·obtain⟨us,e1,e⟩:=aK.mp e;obtain⟨u,e2,e⟩:=aK.mp e;split at e
   ·rename_i hs;cases e
    refine⟨Z,us,_,(aBg e1).trans hn,R.zd,r.mapO (fun t v t' h e=>R.dr _ _ _ _ h e) e1,e2,fun v H' sm rv=>?_⟩
    obtain⟨R',st⟩:=R.same sm
    exact k v H' ρ R' (rv.sca hs) st
   ·cases e
 ·cases e
noncomputable def st0(m:Nat)(ts:List T):TSt:=ts.map some++aT (m - ts.length) none
theorem Rel.start{Z:Addr->Prop}{ts:List T}{vs:List V}(hz:∀a,Z a->NT (H a))(h:RTs K (mask H Z []) [] ts vs):
 Rel K H Z [] (st0 m ts) [] (vs.map some++aT (m - vs.length) none) H:=by
 refine⟨.refl _,(fun a ha=>nomatch ha),aPJ,hz,fun i t e=>?_,(fun c a e=>nomatch e),rfl,by simp[st0,h.length]⟩
 unfold st0 at e;have hi:i<ts.length:=by
  by_cases hi:i<ts.length
  ·exact hi
  ·rw[bH (by simpa using hi),cO]at e;split at e<;>cases e
 rw[aZ (by simpa using hi),bK]at e;cases q:ts[i]?with
 |none=>rw[q]at e;cases e
 |some u=>
  rw[q]at e;cases e;obtain⟨v,h1,h2⟩:=h.get q
  refine⟨v,?_,h2⟩
  rw[aZ (by simpa[h.length]using hi),bK,h1];rfl
def EndT(t:T):Fl×TSt×Sto->Prop
 | (.rt r,_,C)=>dr 3 C r=some t
 | (.nx,_,_)=>t=.non
 |_=>False
theorem g8{G:List T->Option T}{F:FS}{vs:List V}(hG:∀ts t,ts.length=n->G ts=some t->∃r,F (st0 m ts) []=some r/\EndT t r)(h:spT K n G vs H Q E):
 trS K W F {nx:=fun _ H'=>Q .non H',rt:=Q} (vs.map some++aT (m - vs.length) none) H:=by
 obtain⟨Z,ts,t,hn,hz,r,e,k⟩:=h;obtain⟨⟨fl,ag,C'⟩,e1,e2⟩:=hG ts t hn e
 refine⟨H,Z,[],st0 m ts,[],fl,ag,C',Rel.start hz r,e1,fun ai H' ae R' _=>?_⟩
 cases fl with
 |nx=>
  have:t=.non:=e2;subst this
  exact k .non H' R'.old .non
 |bk=>exact False.elim e2
 |ct=>exact False.elim e2
 |rt u=>exact fun v hv=>k v H' R'.old (R'.dr _ _ _ _ hv e2)
 |ex c=>exact False.elim e2
def y9(wi:TI)(sc:St->St)(g:TG)(tc:TT)(te:TE):TE:=fun σ H Q=>wi σ H fun J H1=>∀D,H1 D=none->∃W:Nat->Nat->St->Hp->Prop,(∃m,W 0 m (sc σ) (upd H1 D (.lst [])))/\∀i m gh H,W i m gh H->
 (J.stop i H/\Q (.ref D) H)\/(J.go i H/\∀x H',J.yld i H x H'->g x gh H' fun bq H2=>tc bq H2 fun b H3=>
  if b=true then te bq H3 fun y H4=>∃ys m',H4 D=some (.lst ys)/\ys.length<lim/\m'<m/\W (i+1) m' bq (upd H4 D (.lst (ys++[y])))else∃m',m'<m/\W (i+1) m' bq H3)
open Classical in
noncomputable def kp{α:Type}(C D:Sto)(x:Option α):Option α:=if C<+:D then x else none
theorem aKL{D:Sto}{x:Option α}(h:C<+:D):kp C D x=x:=if_pos h
theorem aDY{x:Option α}:kp C C x=x:=aKL (List.prefix_refl _)
theorem aDG{D:Sto}{x:Option α}{y:α}(h:kp C D x=some y):C<+:D/\x=some y:=by
 unfold kp at h;split at h
 ·exact⟨by assumption,h⟩
 ·cases h
def jT(g:FG)(tc:FB)(fe:FE)(τ:TSt):List T->Sto->Option (List T×Sto)
 | [],C=>some ([],C)
 |t::ts,C=>(g t C τ).bind fun ap=>(tc ap C).bind fun b=>if b.1=true then(fe ap b.2).bind fun y=>kp C y.2 ((jT g tc fe τ ts y.2).map fun r=>(y.1::r.1,r.2))else kp C b.2 (jT g tc fe τ ts b.2)
noncomputable def scT(k:Nat)(is:List Nat)(τ:TSt):TSt:=aT k none++is.map fun i=>(τ[i]?).getD none
noncomputable def scV(k:Nat)(is:List Nat)(σ:St):St:=aT k none++is.map fun i=>(σ[i]?).getD none
def Own(k:Nat)(g:FG):Prop:=∀t C τ ap,g t C τ=some ap->ap.length=τ.length/\∀j,k<=j->ap[j]?=τ[j]?
theorem Rel.writeZ{Z:Addr->Prop}{ρ:Rho}{o:HO}(R:Rel K H₀ Z ρ τ C σ H)(hz:Z D)(h0:H₀ D=none)(ho:NT (some o)):Rel K H₀ Z ρ τ C σ (upd H D o)/\mask (upd H D o) Z ρ=mask H Z ρ:=by
 have em:mask (upd H D o) Z ρ=mask H Z ρ:=by
  funext b;unfold mask;split
  ·rfl
  ·rename_i q;rw[fG (by rintro rfl;exact q (.inl hz))]
 refine⟨⟨fun b u q=>?_,R.frs,R.nd,fun b z=>?_,fun i t e=>?_,fun d b e=>?_,R.len,R.lnt⟩,em⟩
 ·rw[fG (by rintro rfl;rw[h0]at q;cases q)]
  exact R.old b u q
 ·by_cases hb:b=D
  ·subst hb;rw[iP];exact ho
  ·rw[fG hb];exact R.zd b z
 ·rw[em];exact R.loc i t e
 ·rw[em];obtain⟨us,ws,ob,h1,h2,h4,h3⟩:=R.cel d b e
  refine⟨us,ws,ob,h1,?_,h4,h3⟩
  rw[fG]
  ·exact h2
  ·rintro rfl
   exact(R.frs b (bD e)).2 hz
theorem aB1{ap:TSt}(hl:ap.length=(scT k is τ).length)(h:∀j,k<=j->ap[j]?=(scT k is τ)[j]?):∀(i:Nat) t,(scT k is τ)[i]?=some (some t)->ap[i]?=some (some t):=fun i t e=>by
 by_cases hi:i<k
 ·unfold scT at e;rw[aZ (by simpa using hi),cO,if_pos hi]at e;cases e
 ·rw[h i (by lia)];exact e
theorem sK{J:It}{Z:Addr->Prop}{ρ:Rho}{C':Sto}{P:Sto->Prop}{ts ys:List T}{H1:Hp}
 (R:Rel K H₀ Z ρ τ C σ H1)(hg:Own k g)(w:Wlk K J Z H1 ρ ts P)(hP:P C)(hPm:∀C C2:Sto,C<+:C2->P C->P C2)(hl:ts.length<lim)(e:jT g tc fe (scT k is τ) ts C=some (ys,C'))(hD:H1 D=none)
 (q:∀p H' ae vs,Rel K H₀ Z ae τ C' σ H'->H' p=none->RTs K (mask H' Z ae) ae ys vs->Step H1 H' ρ ae->Q (.ref p) (upd H' p (.lst vs))):
 ∃W:Nat->Nat->St->Hp->Prop,(∃m,W 0 m (scV k is σ) (upd H1 D (.lst [])))/\∀i m gh H,W i m gh H->
  (J.stop i H/\Q (.ref D) H)\/(J.go i H/\∀x H',J.yld i H x H'->trG K g x gh H' fun bq H2=>trT K tc bq H2 fun b H3=>
   if b=true then trE K fe bq H3 fun y H4=>∃ys m',H4 D=some (.lst ys)/\ys.length<lim/\m'<m/\W (i+1) m' bq (upd H4 D (.lst (ys++[y])))else∃m',m'<m/\W (i+1) m' bq H3):=by
 obtain⟨nz,nr,n0⟩:=R.fresh_not hD;have hZD:∀a,Z a->a≠D:=fun a z h=>by subst h;exact nz z
 refine⟨fun i m gh H=>∃ae C1 done rest vs,m=rest.length/\ts.drop i=rest/\i<=ts.length/\done.length<=i/\Rel K H₀ (fun a=>Z a\/a=D) ae (scT k is τ) C1 gh H/\H D=some (.lst vs)/\
  RTs K (mask H (fun a=>Z a\/a=D) ae) ae done vs/\Step H1 H ρ ae/\P C1/\∃yr,jT g tc fe (scT k is τ) rest C1=some (yr,C')/\ys=done++yr,?_,?_⟩
 ·refine⟨ts.length,ρ,C,[],ts,[],rfl,rfl,dQ _,bG _,?_,iP,.nil,?_,hP,ys,e,rfl⟩
  ·have sm:Same (mask H1 Z ρ) (mask (upd H1 D (.lst [])) (fun a=>Z a\/a=D) ρ):=fun a o z=>by
    obtain⟨h1,h2,h3⟩:=lK.mp z;have ne:a≠D:=fun z=>by rw[z,hD]at h3;cases h3
    exact mG (by rintro(z|z);·exact h1 z
                 ·exact ne z) h2 (by rw[fG ne];exact h3)
   refine⟨fun b o z=>?_,fun a ha=>⟨(R.frs a ha).1,?_⟩,R.nd,fun a z=>?_,fun i t z=>?_,fun c a z=>?_,R.len,by simp[scT,scV]⟩
   ·rw[fG (by rintro rfl;rw[n0]at z;cases z)]
    exact R.old b o z
   ·rintro(z|z)
    ·exact(R.frs a ha).2 z
    ·subst z;exact nr ha
   ·by_cases ha:a=D
    ·subst ha;rw[iP];trivial
    ·rw[fG ha];rcases z with z|z
     ·exact R.zd a z
     ·exact absurd z ha
   ·unfold scT at z;by_cases hi:i<k
    ·rw[aZ (by simpa using hi),cO,if_pos hi]at z;cases z
    ·rw[bH (by simpa using aOx hi),bK]at z;obtain⟨j,hj,z⟩:=aL.mp z;have nq:τ[j]?=some (some t):=by
      cases q:τ[j]?with
      |none=>rw[q]at z;cases z
      |some u=>rw[q]at z;exact congrArg some z
     obtain⟨v,h1,h2⟩:=R.loc j t nq
     refine⟨v,?_,h2.mono sm (fun c a z=>z)⟩
     unfold scV;rw[bH (by simpa using aOx hi),bK];simp only[eO]at hj|-;rw[hj];simp[h1]
   ·obtain⟨us,vs,ob,h1,h2,h4,h3⟩:=R.cel c a z
    refine⟨us,vs,ob,h1,?_,h4,h3.mono sm (fun c a z=>z)⟩
    rw[fG (by rintro rfl;rw[hD]at h2;cases h2)]
    exact h2
  ·exact .of0 fun b o z=>by
    rw[fG (by rintro rfl;rw[hD]at z;cases z)]
    exact z
 ·rintro i m gh H ⟨ae,C1,done,rest,vs,rfl,hd,hi,hdl,R1,zf,rd,gi,mh,yr,e1,xn⟩;have ix:∀(c:Nat)(a:Addr),ρ[c]?=some a->ae[c]?=some a:=gi.idx;have smm:Same (mask H1 Z ρ) (mask H (fun a=>Z a\/a=D) ae):=fun a o z=>by
   obtain⟨h1,h2,h3⟩:=lK.mp z;have ne:a≠D:=fun z=>by rw[z,hD]at h3;cases h3
   refine mG (by rintro(z|z);·exact h1 z
                 ·exact ne z) (gi.kept a o h3 h2).1 (gi.kept a o h3 h2).2
  cases rest with
  |nil=>
   have dy:i=ts.length:=by
    have:ts.length<=i:=by simpa using hd
    lia
   subst dy;cases e1
   refine .inl ⟨w.stop _ _ _ _ _ _ _ R1 smm ix (.inl mh) gi.fz,?_⟩
   have hm:mask (fun b=>if b=D then none else H b) Z ae=mask H (fun a=>Z a\/a=D) ae:=by
    funext a;unfold mask;by_cases ha:a=D
    ·subst ha;rw[if_pos (show(Z a\/a=a)\/a∈ae from .inl (.inr rfl))];split
     ·rfl
     ·exact if_pos rfl
    ·by_cases hz:Z a\/a∈ae
     ·rw[if_pos hz,if_pos (by rcases hz with z|z;·exact .inl (.inl z)
                              ·exact .inr z)]
     ·rw[if_neg hz,if_neg (by rintro((z|z)|z);·exact hz (.inl z)
                              ·exact ha z
                              ·exact hz (.inr z))]
      exact if_neg ha
   have hu:upd (fun b=>if b=D then none else H b) D (.lst vs)=H:=by
    funext b;unfold upd;by_cases hb:b=D
    ·subst hb;rw[if_pos rfl,zf]
    ·rw[if_neg hb];exact if_neg hb
   have st:Step H1 (fun b=>if b=D then none else H b) ρ ae:=⟨fun b o z n=>⟨(gi.kept b o z n).1,by
    show(if b=D then none else H b)=some o;rw[if_neg (by rintro rfl;rw[hD]at z;cases z)]
    exact(gi.kept b o z n).2⟩,gi.pre,fun b ob u z=>by
    show(if b=D then none else H b)=_;rw[if_neg (by rintro rfl;rw[hD]at z;cases z)]
    exact gi.fz b ob u z⟩
   have R2:Rel K H₀ Z ae τ C' σ (fun b=>if b=D then none else H b):=by
    refine⟨fun b o z=>by
     show(if b=D then none else H b)=some o;rw[if_neg (by rintro rfl;rw[n0]at z;cases z)]
     exact R1.old b o z,fun a ha=>⟨(R1.frs a ha).1,fun z=>(R1.frs a ha).2 (.inl z)⟩,R1.nd,fun a z=>(by
     show NT (if a=D then none else H a);rw[if_neg (hZD a z)];exact R1.zd a (.inl z)),fun j t z=>?_,fun c a z=>?_,R1.len,R.lnt⟩
    ·obtain⟨v,h1,h2⟩:=R.loc j t z
     exact⟨v,h1,h2.step st⟩
    ·obtain⟨us,ws,ob,h1,h2,h4,h3⟩:=R1.cel c a z
     refine⟨us,ws,ob,h1,?_,h4,by rw[hm];exact h3⟩
     show(if a=D then none else H a)=_;rw[if_neg (fun z'=>(R1.frs a (bD z)).2 (.inr z'))]
     exact h2
   have fin:=q D (fun b=>if b=D then none else H b) ae vs R2 (if_pos rfl) (by rw[hm,xn,aW];exact rd) st;rw[hu]at fin
   exact fin
  |cons t rest=>
   have ht:ts[i]?=some t:=by
    have:=congrArg (fun l=>l[0]?) hd;simpa using this
   have bo:i<ts.length:=(aR.mp ht).1;have jh:ts.drop (i+1)=rest:=by
    have:=congrArg aP9 hd;simpa using this
   obtain⟨g1,g2⟩:=w.go i t _ _ ae _ C1 gh H ht R1 smm ix (.inl mh) gi.fz
   refine .inr ⟨g1,fun x H' hy=>?_⟩
   obtain⟨smy,rx⟩:=g2 x H' hy;obtain⟨um,ax⟩:=R1.same smy;unfold jT at e1;obtain⟨ap,eg,e1⟩:=aK.mp e1;obtain⟨⟨b,C2⟩,et,e1⟩:=aK.mp e1;obtain⟨o1,o2⟩:=hg _ _ _ _ eg
   refine⟨_,_,ae,_,C1,t,ap,um,rx,eg,fun bq R2=>?_⟩
   refine⟨_,_,ae,ap,C1,b,C2,R2,et,fun H3 az R3 s3=>?_⟩
   have ur:=ax.trans s3;have nD:D∉ae:=fun z=>(R1.frs D z).2 (.inr rfl)
   cases b with
   |false=>
    rw[if_neg (by simp)]at e1;obtain⟨xx,e1⟩:=aDG e1;dsimp only;rw[if_neg (by simp)]
    exact⟨rest.length,by simp,az,C2,done,rest,vs,rfl,jh,bo,Nat.le_succ_of_le hdl,R3.weak (by rw[o1]) (aB1 o1 o2),(ur.kept _ _ zf nD).2,rd.step ur,gi.trans ur,hPm _ _ xx mh,yr,e1,xn⟩
   |true=>
    rw[if_pos rfl]at e1;dsimp only;rw[if_pos rfl];obtain⟨⟨ty,C3⟩,ee,e1⟩:=aK.mp e1;obtain⟨xx,e1⟩:=aDG e1;obtain⟨⟨yr',C4⟩,e3,e2⟩:=aL.mp e1;cases e2
    refine⟨_,_,az,ap,C2,ty,C3,R3,ee,fun y H4 jn R4 hy4 s4=>?_⟩
    have nh:=ur.trans s4;have rd4:=rd.step nh;obtain⟨R5,em⟩:=R4.writeZ (D:=D) (o:=.lst (vs++[y])) (.inr rfl) n0 trivial
    refine⟨vs,rest.length,(nh.kept _ _ zf nD).2,by rw[rd.length];lia,by simp,jn,C3,done++[ty],rest,vs++[y],rfl,jh,bo,by simp;lia,R5.weak (by rw[o1]) (aB1 o1 o2),iP,?_,?_,hPm _ _ xx mh,yr',e3,by rw[xn];simp⟩
    ·rw[em]
     exact rd4.append (.cons hy4 .nil)
    ·exact⟨fun b o z n=>⟨((gi.trans nh).kept b o z n).1,by
      rw[fG (by rintro rfl;rw[hD]at z;cases z)]
      exact((gi.trans nh).kept b o z n).2⟩,(gi.trans nh).pre,fun b ob u z=>by
      rw[fG (by rintro rfl;rw[hD]at z;cases z)]
      exact(gi.trans nh).fz b ob u z⟩
theorem aK4{C2:Sto}{c:Nat}{ts:List T}(h:C<+:C2)(e:lc C c=some ts):lc C2 c=some ts:=by
 obtain⟨D,rfl⟩:=h;rw[gS]at e|-;rw[aZ (aR.mp e).1];exact e
theorem tE{t:T}{ts:List T}(C C2:Sto)(h:C<+:C2)(e:stays t ts C):stays t ts C2:=by
 unfold stays at*;split
 ·exact aK4 h e
 ·trivial
def jE(f:FE)(k:Nat)(is:List Nat)(g:FG)(tc:FB)(fe:FE):FN:=fun τ C=>(f τ C).bind fun p=>(liT p.2 p.1).bind fun ts=>if ts.length<lim then jT g tc fe (scT k is τ) ts p.2 else none
theorem aDa(hg:Own k g)(h:trN K (jE f k is g tc fe) σ H Q):y9 (aHL K (trE K f)) (scV k is) (trG K g) (trT K tc) (trE K fe) σ H Q:=by
 obtain⟨H₀,Z,ρ,τ,C,ys,C',R,e,q⟩:=h;unfold jE at e;obtain⟨⟨t,C1⟩,e1,e⟩:=aK.mp e;obtain⟨ts,e2,e⟩:=aK.mp e;split at e
 ·rename_i hl
  refine⟨H₀,Z,ρ,τ,C,t,C1,R,e1,fun v H1 af R1 h1 s1=>?_⟩
  obtain⟨a,vs,ev,qa,r⟩:=R1.li h1 e2;subst ev
  exact⟨a,rfl,⟨vs,qa⟩,fun D hD=>sK R1 hg (aBS R1 h1 e2) (o8 e2) tE hl e hD fun p H' ae vs R' hp rv s'=>q p H' ae vs R' hp rv (s1.trans s')⟩
 ·cases e
def jL(f:FE)(k:Nat)(is:List Nat)(g:FG)(tc:FB)(fe:FE):FN:=fun τ C=>(f τ C).bind fun p=>match p.1 with
 | .int j=>if j<400000/\ -(2^62)<=j then jT g tc fe (scT k is τ) (uL 0 j.toNat) p.2 else none
 |_=>none
theorem wD(hg:Own k g)(h:trN K (jL f k is g tc fe) σ H Q):y9 (aG6 (trA K (eV f fF))) (scV k is) (trG K g) (trT K tc) (trE K fe) σ H Q:=by
 obtain⟨H₀,Z,ρ,τ,C,ys,C',R,e,q⟩:=h;unfold jL at e;obtain⟨⟨t,C1⟩,e1,e⟩:=aK.mp e;dsimp only at e;split at e
 ·split at e
  ·rename_i hj
   refine⟨H₀,Z,ρ,τ,C,_,C1,R,by simp[eV,fF,e1];rfl,fun vs H1 af R1 h1 s1=>?_⟩
   obtain⟨v,r,rfl,q1,q2⟩:=h1.cons_inv;rw[q2.nil_inv]
   refine⟨_,by rw[q1.int_inv],hj.2,by lia,fun D hD=>sK (P:=fun _=>True) R1 hg sY trivial (fun _ _ _ _=>trivial) (by simp[uL,lim];lia) e hD fun p H' ae vs R' hp rv s'=>q p H' ae vs R' hp rv (s1.trans s')⟩
  ·cases e
 ·cases e
theorem iJ{i:Nat}(h:i<k):Own k (gN i):=fun t C τ ap e=>by
 cases e
 refine⟨by simp,fun j hj=>?_⟩
 rw[aS (by lia)]
theorem vJ{k:Nat}:∀(is:List Nat)(ts:List T)(τ:TSt),(∀i∈is,i<k)->(setAll is ts τ).length=τ.length/\∀j,k<=j->(setAll is ts τ)[j]?=τ[j]?
 | [],_,_,_=>by simp[setAll]
 |i::is,[],_,_=>by simp[setAll]
 |i::is,t::ts,τ,h=>by
  obtain⟨h1,h2⟩:=vJ (k:=k) is ts (τ.set i (some t)) (fun j hj=>h j (bA _ hj));have hi:=h i bJ
  refine⟨by simp[setAll,h1],fun j hj=>?_⟩
  show(setAll is ts (τ.set i (some t)))[j]?=_;rw[h2 j hj,aS (by lia)]
theorem aAA(h:∀i∈is,i<k):Own k (gU is):=fun t C τ ap e=>by
 unfold gU at e;obtain⟨ts,e1,e⟩:=aK.mp e;split at e
 ·cases e
  exact vJ is ts τ h
 ·cases e
end
section
variable {K:aO}{σ:St}{H:Hp}
variable{Q:VK}{fa:FN}{fb:FE}{r:List V->Hp->VK->Prop}
theorem iD{f:FE}{Q':VK}(h:trE K f σ H Q)(hq:∀v H',Q v H'->Q' v H'):trE K f σ H Q':=by
 obtain⟨H₀,Z,ρ,τ,C,t,C',R,e,k⟩:=h
 exact⟨H₀,Z,ρ,τ,C,t,C',R,e,fun v H' ae a b c=>hq _ _ (k v H' ae a b c)⟩
theorem pF{f:FN}{Q Q':List V->Hp->Prop}(h:trA K f σ H Q)(hq:∀v H',Q v H'->Q' v H'):trA K f σ H Q':=by
 obtain⟨H₀,Z,ρ,τ,C,t,C',R,e,k⟩:=h
 exact⟨H₀,Z,ρ,τ,C,t,C',R,e,fun v H' ae a b c=>hq _ _ (k v H' ae a b c)⟩
theorem wZ{fa:FE}{g:T->T->Sto->Option (T×Sto)}{r:R2}(ho:∀σ H Q x y,(∃t1 t2,trV K σ [t1,t2] [x,y] (g t1 t2) H Q)->r x y H Q)(h:trE K (iO fa fb g) σ H Q):tOp r (trE K fa) (trE K fb) σ H Q:=
 iD (aEC h) fun _ _ q=>iD q fun _ _ q=>ho _ _ _ _ _ q
theorem aNt{fa:FE}{g:T->T->Sto->Option (List T)}{r:R2}(ho:∀σ H Q x y,(∃t1 t2,trW K σ [t1,t2] [x,y] (g t1 t2) H Q)->r x y H Q)(h:trN K (wB fa fb g) σ H Q):tOp r (trE K fa) (trE K fb) σ H Q:=
 iD (aMB h) fun _ _ q=>iD q fun _ _ q=>ho _ _ _ _ _ q
theorem aNW{g:List T->Sto->Option (T×Sto)}(ho:∀σ H Q xs,(∃ts,trV K σ ts xs (g ts) H Q)->r xs H Q)(h:trE K (mV fa g) σ H Q):tCB r (trA K fa) σ H Q:=
 pF (aBN h) fun _ _ q=>ho _ _ _ _ q
theorem aM8{g:List T->Sto->Option (List T)}(ho:∀σ H Q xs,(∃ts,trW K σ ts xs (g ts) H Q)->r xs H Q)(h:trN K (tY fa g) σ H Q):tCB r (trA K fa) σ H Q:=
 pF (aH9 h) fun _ _ q=>ho _ _ _ _ q
theorem aLm{n:Nat}{F:List T->Option T}{E:XK}(h:trE K (mV fa (iF n F)) σ H Q):aEv (spT K n F) [] E (trA K fa) σ H Q:=
 pF (aBN h) fun vs _ q=>by rw[aW];exact aLj q
noncomputable def gDm(ts:List T)(C:Sto):Option (T×Sto):=match ts with
 | [.int i,.int j]=>if 0<j/\j<1073741824 then some (.tup [.int (i/j),.int (i%j)],C)else none
 |_=>none
noncomputable def aDH(ts:List T)(C:Sto):Option (T×Sto):=match ts with
 | [.int i]=>some (.int i,C)
 | [.bl k]=>some (.int (if k then 1 else 0),C)
 |_=>none
theorem aMO{xs:List V}(h:∃ts,trV K σ ts xs (aDH ts) H Q):(∃i,xs=[.int i]/\Q (.int i) H)\/∃k,xs=[.bl k]/\Q (.int (if k then 1 else 0)) H:=by
 obtain⟨ts,H₀,Z,ρ,τ,C,t,C',R,r,e,k⟩:=h;unfold aDH at e;split at e
 ·obtain⟨v,_,rfl,r1,r⟩:=r.cons_inv;rw[r.nil_inv,r1.int_inv];cases e
  exact .inl ⟨_,rfl,k _ H ρ R .int .refl⟩
 ·obtain⟨v,_,rfl,r1,r⟩:=r.cons_inv;rw[r.nil_inv,r1.bl_inv];cases e
  exact .inr ⟨_,rfl,k _ H ρ R .int .refl⟩
 ·cases e
noncomputable def aHF(t:T)(C:Sto):Option (T×Sto):=match t with
 | .int i=>some (.int (-i),C)
 |_=>none
theorem aNp{x:V}(h:∃t,trV K σ [t] [x] (aHF t) H Q):∃i,x=.int i/\Q (.int (-i)) H:=by
 obtain⟨t0,H₀,Z,ρ,τ,C,t,C',R,r,e,k⟩:=h;obtain⟨_,_,z,r1,r⟩:=r.cons_inv;cases z;unfold aHF at e;split at e
 ·cases e
  exact⟨_,r1.int_inv,k _ H ρ R .int .refl⟩
 ·cases e
end
noncomputable def jY(i j:Int):Bool:= !(decide (Builtin.Int.intBits i>shortFactorBits)&&decide (Builtin.Int.intBits j>shortFactorBits)&&Builtin.Int.intTooBig (Builtin.Int.intBits i+Builtin.Int.intBits j))
noncomputable def insAt{α:Type}(xs:List α)(i:Int)(y:α):List α:=xs.take (if i<0 then(i+(xs.length:Int)).toNat else min i.toNat xs.length)++y::xs.drop (if i<0 then(i+(xs.length:Int)).toNat else min i.toNat xs.length)
def aB3(xs vs:List T):Option (List T):=match vs with
 | [y]=>if xs.length<lim then some (xs++[y])else none
 |_=>none
def aBB(xs vs:List T):Option (List T):=match vs with
 | [.int i,y]=>if xs.length<lim/\ -(2^63)<=i/\i<2^63 then some (insAt xs i y)else none
 |_=>none
noncomputable def tL:List Int->Int
 | []=>0
 |n::ns=>ns.foldl (fun a b=>if b>a then b else a) n
noncomputable def tM:List Int->Int
 | []=>0
 |n::ns=>ns.foldl (fun a b=>if b<a then b else a) n
abbrev iS(a b:FE):FE:=iO a b (gI fun i j=>.int (i+j))
abbrev aAJ(a b:FE):FE:=iO a b (gI fun i j=>.int (i - j))
abbrev nP(a b:FE):FE:=iO a b (gIc jY fun i j=>.int (i*j))
abbrev jS(a b:FE):FE:=iO a b (gIc (fun _ j=>decide (0<j)) fun i j=>.int (i%j))
abbrev qQ(a b:FE):FE:=iO a b (gIc (fun _ j=>decide (0<j/\j<1073741824)) fun i j=>.int (i/j))
abbrev aLe(a b:FE):FE:=iO a b (gIc (fun i j=>decide (0<=j/\j<=1000000/\i.natAbs<2^64)) fun i j=>.int (i^j.toNat))
abbrev fNeg(a:FE):FE:=fUn a aHF
abbrev fLt(a b:FE):FE:=iO a b (gI fun i j=>.bl (decide (i<j)))
abbrev fLe(a b:FE):FE:=iO a b (gI fun i j=>.bl (decide (i<=j)))
abbrev fGt(a b:FE):FE:=iO a b (gI fun i j=>.bl (decide (j<i)))
abbrev fEq(a b:FE):FE:=iO a b (gEq false)
abbrev fNe(a b:FE):FE:=iO a b (gEq true)
abbrev fIn(a b:FE):FE:=iO a b (gIn false)
abbrev aIO(a b:FE):FE:=iO a b (gIn true)
abbrev fLeLt(a b c:FE):FE:=tF a b c (fun i j=>decide (i<=j)) (fun i j=>decide (i<j))
abbrev fIx(a b:FE):FE:=iO a b gIx
abbrev aDs(a b:FE):FN:=wB a b aFy
abbrev lZ(a:FN):FE:=mV a aFz
abbrev fList(a:FN):FN:=tY a aDQ
abbrev aHb(a:FN):FE:=mV a (vY (fun _=>true) aQb)
abbrev fMaxL(a:FN):FE:=mV a (vY (fun ns=> !ns.isEmpty) tL)
abbrev aGv(a:FN):FE:=mV a (vY (fun ns=> !ns.isEmpty) tM)
abbrev aJf(a:FN):FE:=mV a (aHJ fun bs=>bs.all id)
abbrev aDC(a:FN):FE:=mV a (gI2 fun i j=>if j>i then j else i)
abbrev xL(a:FN):FE:=mV a (gI2 fun i j=>if j<i then j else i)
abbrev rP(a:FN):FE:=mV a aDH
abbrev fT(n:Nat)(F:List T->Option T)(a:FN):FE:=mV a (iF n F)
noncomputable def aML(c:String):T->Option Bool
 | .non=>some (c=="NoneType")
 | .bl _=>some (c=="bool"||c=="int")
 | .int _=>some (c=="int")
 | .str _=>some (c=="str")
 | .lst _=>some (c=="list")
 | .cell _=>none
 | .tup _=>some (c=="tuple")
 | .exc _=>none
def aCk(c:String)(a:FE):FE:=fUn a fun t C=>(aML c t).map fun b=>(.bl b,C)
abbrev uR(o:FE)(a:FN):FS:=aFg o a aB3
abbrev aIk(o:FE)(a:FN):FS:=aFg o a aBB
noncomputable def gP:FB:=fun _ C=>some (true,C)
def jA(B:FS)(m:Nat)(ts:List T):Option T:=match B (st0 m ts) []with
 |some (.rt r,_,C)=>dr 3 C r
 |some (.nx,_,_)=>some .non
 |_=>none
theorem gK{B:FS}{m n:Nat}:∀ts t,ts.length=n->jA B m ts=some t->∃r,B (st0 m ts) []=some r/\EndT t r:=fun ts t _ e=>by
 unfold jA at e;split at e
 ·rename_i h;exact⟨_,h,e⟩
 ·rename_i h;cases e;exact⟨_,h,rfl⟩
 ·cases e
end TL
namespace L2
open PySem PySem.Spec PyProof.Rows
variable{X:Cx}{e:Expr}{t':TT}
theorem PE.imp{t t':TE}(h:PE X e t)(hi:∀σ H Q,t' σ H Q->t σ H Q):PE X e t':=fun aa s σ H Q I q=>h aa s σ H Q I (hi σ H Q q)
theorem PT.imp{t:TT}(h:PT X e t)(hi:∀σ H Q,t' σ H Q->t σ H Q):PT X e t':=fun aa s σ H Q I q=>h aa s σ H Q I (hi σ H Q q)
theorem PW.imp{t:TT}(h:PW X e t)(hi:∀σ H Q,t' σ H Q->t σ H Q):PW X e t':=fun wh aa s σ H Q I q=>h wh aa s σ H Q I (hi σ H Q q)
theorem PA.imp{e:List Expr}{t t':TA}(h:PA X e t)(hi:∀σ H Q,t' σ H Q->t σ H Q):PA X e t':=fun pos aa s σ H Q I q=>h pos aa s σ H Q I (hi σ H Q q)
theorem PS.imp{e:Stmt}{t t':TS}(h:PS X e t)(hi:∀D σ H,t' D σ H->t D σ H):PS X e t':=fun aa s σ H D I q=>h aa s σ H D I (hi D σ H q)
theorem PSs.imp{e:List Stmt}{t t':TS}(h:PSs X e t)(hi:∀D σ H,t' D σ H->t D σ H):PSs X e t':=fun aa s σ H D I q=>h aa s σ H D I (hi D σ H q)
theorem PG.imp{t t':TG}(h:PG X e t)(hi:∀v σ H Q,t' v σ H Q->t v σ H Q):PG X e t':=fun aa s σ H v u Q I r q=>h aa s σ H v u Q I r (hi v σ H Q q)
theorem PO.imp{e:Option Expr}{t t':TO}(h:PO X e t)(hi:∀σ H Q,t' σ H Q->t σ H Q):PO X e t':=fun aa s σ H Q I q=>h aa s σ H Q I (hi σ H Q q)
end L2
namespace TL
open PySem PySem.Spec PyProof.Rows L2
theorem lG:lim<=sizeLine:=by unfold lim;rw[sizeLine_eq];decide
section
variable {X:Cx}
theorem aKy:OpR X (binaryOp .Add) (rCatL X.K):=by
 intro aa s σ H x y v u Q I rx ry h;obtain⟨l,b,xs,zs,rfl,rfl,hH,hB,hz,q⟩:=h;cases rx;cases ry;obtain⟨its,r,p,hl⟩:=I.list hH;obtain⟨gw,r2,p2,ly⟩:=I.list hB;obtain⟨⟨cls,dd,data,sl⟩,ho,hc,n,hd⟩:=id p.isList;obtain⟨⟨cls2,dd2,data2,sl2⟩,ho2,hc2,n2,hd2⟩:=id p2.isList;simp only at hc hd hc2 hd2;subst hc hd hc2 hd2;have e1:=r.length;have e2:=r2.length;have gd:=lG;have ea:its.toArray++gw.toArray=(its++gw).toArray:=by simp
 refine concat_meets ⟨_,ho,rfl⟩ ⟨_,ho2,rfl⟩ noFill_list_add seq_list_add PySem.F.slot_list_add PySem.F.entry_list_add (PySem.F.args_list_add_2 _ _)
  (list_addW l b its.toArray gw.toArray n n2 dd dd2 sl sl2 (by rw[bF,bF];lia)) ⟨ho,ho2,?_⟩
 rw[ea]
 exact⟨.ref _,_,I.lnew (t':=s.toks) (r.append r2) (by rw[aU];lia),rfl,q _ I.fresh⟩
def aF0(xs vs:List V):Option (List V):=match vs with
 | [y]=>if xs.length<lim then some (xs++[y])else none
 |_=>none
theorem aMg{K:aO}:∀M ρ ts us ws vs xs,RTs K M ρ ts vs->RTs K M ρ us xs->aB3 ts us=some ws->∃ys,aF0 vs xs=some ys/\RTs K M ρ ws ys:=by
 intro M ρ ts us ws vs xs h1 h2 e;unfold aB3 at e;split at e
 ·obtain⟨v,_,rfl,r1,r2⟩:=h2.cons_inv;rw[r2.nil_inv];split at e
  ·rename_i hl;cases e
   refine⟨vs++[v],?_,h1.append (.cons r1 .nil)⟩
   show(if vs.length<lim then some (vs++[v])else none)=_;rw[if_pos (by rw[h1.length];exact hl)]
  ·cases e
 ·cases e
theorem aL9:MtR X "list.append" (aMm aF0):=by
 intro aa s σ H x vs v us Q I rx rv h;obtain⟨l,xs,ys,ex,hH,e,q⟩:=h;unfold aF0 at e;split at e
 ·split at e
  ·rename_i hl;cases e
   exact zE aa s σ H x _ v us Q I rx rv ⟨l,xs,_,ex,rfl,hH,bP hl lG,q⟩
  ·cases e
 ·cases e
def aGS(xs vs:List V):Option (List V):=match vs with
 | [.int i,y]=>if xs.length<lim/\ -(2^63)<=i/\i<2^63 then some (insAt xs i y)else none
 |_=>none
theorem aLu{K:aO}:∀M ρ ts us ws vs xs,RTs K M ρ ts vs->RTs K M ρ us xs->aBB ts us=some ws->∃ys,aGS vs xs=some ys/\RTs K M ρ ws ys:=by
 intro M ρ ts us ws vs xs h1 h2 e;unfold aBB at e;split at e
 ·obtain⟨v,_,rfl,r1,r2⟩:=h2.cons_inv;obtain⟨v',_,rfl,r2,r3⟩:=r2.cons_inv;rw[r3.nil_inv,r1.int_inv];split at e
  ·rename_i hl;cases e
   refine⟨insAt vs _ v',by
    show(if vs.length<lim/\_ then some (insAt vs _ v')else none)=_;rw[if_pos (by rw[h1.length];exact hl)],?_⟩
   unfold insAt;rw[h1.length]
   exact(h1.take _).append (.cons r2 (h1.drop _))
  ·cases e
 ·cases e
theorem aE9{α:Type}(xs:List α)(i:Int)(y:α):(insAt xs i y).length=xs.length+1:=by
 unfold insAt;rw[aU,aN,dR,aOX]
 lia
theorem Vals.insAt{xs:List V}{us:List Value}{y:V}{u:Value}(h:Vals xs us)(r:RelV y u)(i:Int):Vals (TL.insAt xs i y) (aPc us i u):=by
 unfold TL.insAt aPc;rw[h.length]
 exact(L2.Vals.take _ h).append (.cons r (L2.Vals.drop _ h))
theorem aMS:MtR X "list.insert" (aMm aGS):=by
 intro aa s σ H x vs v us Q I rx rv h;obtain⟨l,xs,ys,ex,hH,e,q⟩:=h;subst ex;cases rx;unfold aGS at e;split at e
 ·split at e
  ·rename_i hl;cases e;obtain⟨u1,u2,rfl,r1,r2⟩:=rv.two;obtain⟨t,rfl⟩:=r1;obtain⟨z,its,n,r,ly,eo⟩:=I.lstM hH;have gd:=lG
   refine call_meets PySem.F.slot_list_insert ⟨_,eo,rfl⟩ PySem.F.entry_list_insert (PySem.F.args_list_insert_3 _ _ _) (PySem.AutoSeq1.list_insert_list_int_val_1 l its.toArray n _ t u2 (by rw[fitsIndex_both hl.2.1 hl.2.2];exact bY) (by rw[bF];lia)) ⟨eo,?_⟩
   refine⟨.non,_,I.lset (its':=aPc its _ u2) hH eo ?_ (Vals.insAt r r2 _) ?_,rfl,q⟩
   ·show(its.toArray.extract 0 _).push u2++its.toArray.extract _=_;rw[PySem.W.kl_ins_eq,bF];rfl
   ·rw[aE9];lia
  ·cases e
 ·cases e
theorem aFh(hc:X.calm=true):m9 X (.builtin "sum") (aCv X.K (fun _=>true) (fun ns=>ns.sum)):=by
 intro aa s σ H xs us Q I r h;obtain⟨p,ns,rfl,hq,_,q⟩:=h;obtain⟨u,rfl,ru⟩:=vals1 r;cases ru;obtain⟨its,rv,pl,hz⟩:=I.list hq;have hi:=oJ rv;obtain⟨ys,hx⟩:=hi.allInts.items;have dw:s.heap.IsList p (intItems ys):=hx ▸ pl.isList
 refine sum_intListG (I.ok.hd hc) dw fun h' tk t' hk=>?_
 have e1:ns=ys.toList.map (·.1):=by
  rw[<-nums_intItems,<-hx]
  exact(show numsOf its.toArray.toList=ns from hi.numsOf).symm
 have e2:preSum (numAt ys) ys.size=ns.sum:=by
  rw[preSum_eq,dO (by simp),e1]
 rw[e2]
 exact⟨.int ns.sum,H,I.kept hk,⟨_,rfl⟩,q⟩
theorem zZ:∀{ns:List Int},ns≠[]->tL ns∈ns/\∀a∈ns,a<=tL ns:=by
 have key:∀(ns:List Int)(n:Int),(ns.foldl (fun a b=>if b>a then b else a) n=n\/ns.foldl (fun a b=>if b>a then b else a) n∈ns)/\n<=ns.foldl (fun a b=>if b>a then b else a) n/\∀a∈ns,a<=ns.foldl (fun a b=>if b>a then b else a) n:=by
  intro ns;induction ns with
  |nil=>intro n;simp
  |cons m ns ih=>
   intro n;rw[aOC];obtain⟨h1,h2,h3⟩:=ih (if m>n then m else n);by_cases hm:m>n
   ·rw[if_pos hm]at h1 h2 h3|-
    refine⟨?_,by lia,fun a ha=>?_⟩
    ·rcases h1 with h1|h1
     ·rw[h1];simp
     ·exact .inr (bA _ h1)
    ·rcases bE.mp ha with rfl|ha
     ·exact h2
     ·exact h3 a ha
   ·rw[if_neg hm]at h1 h2 h3|-
    refine⟨?_,h2,fun a ha=>?_⟩
    ·rcases h1 with h1|h1
     ·exact .inl h1
     ·exact .inr (bA _ h1)
    ·rcases bE.mp ha with rfl|ha
     ·lia
     ·exact h3 a ha
 intro ns ay;cases ns with
 |nil=>exact absurd rfl ay
 |cons n ns=>
  obtain⟨h1,h2,h3⟩:=key ns n
  refine⟨?_,fun a ha=>?_⟩
  ·rcases h1 with h1|h1
   ·show aPk (fun a b=>if b>a then b else a) n ns∈n::ns;rw[h1];simp
   ·exact bA _ h1
  ·rcases bE.mp ha with rfl|ha
   ·exact h2
   ·exact h3 a ha
theorem aFn(hc:X.calm=true):m9 X (.builtin "max") (aCv X.K (fun ns=> !ns.isEmpty) tL):=by
 intro aa s σ H xs us Q I r h;obtain⟨p,ns,rfl,hq,ay,q⟩:=h;obtain⟨u,rfl,ru⟩:=vals1 r;cases ru;obtain⟨its,rv,pl,hz⟩:=I.list hq;have hi:=oJ rv;have iu:ns≠[]:=by rintro rfl;simp at ay
 obtain⟨ys,hx⟩:=hi.allInts.items;have dw:s.heap.IsList p (intItems ys):=hx ▸ pl.isList;have gc:ns=ys.toList.map (·.1):=by
  rw[<-nums_intItems,<-hx]
  exact(show numsOf its.toArray.toList=ns from hi.numsOf).symm
 have hsz:0<ys.size:=by
  have h3:0<ns.length:=aOl.mpr iu;rw[gc,aP,b6]at h3;exact h3
 refine max_intList (I.ok.hd hc) dw hsz fun v h' tk hv hk=>?_
 obtain⟨t,rfl⟩:=intItems_at hv;obtain⟨h1,h2⟩:=argBest_gt (numAt ys) (ys.size - 1);obtain⟨m1,m2⟩:=zZ iu;obtain⟨M,hM⟩:∃M,M=tL ns:=⟨_,rfl⟩;rw[<-hM]at m1 m2 q;have e:numAt ys (argBest (fun i j=>decide (numAt ys i>numAt ys j)) (ys.size - 1))=M:=by
  apply dW
  ·refine m2 _ ?_
   rw[gc,numAt_eq];exact getD_mem (by rw[aP,b6];lia)
  ·have qu:=m1;rw[gc]at qu;obtain⟨j,hj,ej⟩:=mem_getD qu;rw[aP,b6]at hj;rw[<-ej,<-numAt_eq];exact h2 j (by lia)
 exact⟨.int M,H,I.kept hk,⟨_,by rw[e]⟩,q⟩
theorem aBq{bs:List Bool}:∀{us:List Value},Vals (bs.map V.bl) us->us=bs.map Value.bool:=by
 induction bs with
 |nil=>intro us r;rw[bC]at r;cases r;rfl
 |cons n ns ih=>
  intro us r;rw[aM]at r;cases r with
  |cons r1 r2=>
   cases r1;rw[ih r2];rfl
theorem aC3(bs:List Bool):((bI bs.length).all fun i=>(bs[i]?).getD true)=bs.all id:=by
 rw[eK,aOf,aOf];constructor
 ·intro h b hb;obtain⟨i,hi,rfl⟩:=List.getElem_of_mem hb;have:=h i (cW.mpr hi);simpa[bB hi]using this
 ·intro h i hi;have dy:=cW.mp hi;simpa[bB dy]using h _ (dS dy)
theorem aJO{s:Shared}{h':Heap}{o:Obj}(hk:∀b x,b∉[s.heap.objs.size]->(s.heap.push o).get? b=some x->h'.get? b=some x):∀b x,s.heap.get? b=some x->h'.get? b=some x:=
 fun b x e=>hk b x (fun hm=>by rw[bU.mp hm]at e;exact cU _ (Heap.lt_size e)) (Heap.get?_push_of_some _ e)
theorem aFD(hc:X.calm=true):m9 X (.builtin "all") (rBls X.K (fun bs=>bs.all id)):=by
 intro aa s σ H xs us Q I r h;obtain⟨p,bs,rfl,hq,q⟩:=h;obtain⟨u,rfl,ru⟩:=vals1 r;cases ru;obtain⟨its,rv,pl,hz⟩:=I.list hq;have hb:=aBq rv;subst hb;have bo:p<s.heap.objs.size:=pl.lt
 refine call_all_walk (wpAny_pyIter_list pl.isList ?_)
 refine⟨s.heap.objs.size,[s.heap.objs.size,p],[s.heap.objs.size],(bs.map Value.bool).toArray.size,_,_,fun i=>(bs[i]?).getD true,rfl,Walks.list (A:=X.A.in1) (I.ok.hd hc) _ p (bV bo) (bs.map Value.bool).toArray,
  ⟨⟨_,Heap.get?_push_size _ rfl,rfl,rfl⟩,pl.isList.push _⟩,fun i v s' Q' E' hP hQ=>?_,fun h' tk hk=>?_⟩
 ·simp only[List.getElem?_toArray,bK]at hP;cases e:bs[i]?with
  |none=>rw[e]at hP;cases hP
  |some b=>
   rw[e]at hP;cases hP;simp only[e,cC]at hQ
   exact wpAny_truthy_bool hQ
 ·have e:((bI (bs.map Value.bool).toArray.size).all fun i=>(bs[i]?).getD true)=bs.all id:=by
   rw[bF,aP];exact aC3 bs
  rw[e]
  exact⟨.bl _,H,I.kept (aJO hk),rfl,q⟩
end
section
variable {X:Cx}{aa:List (Addr×Obj)}{σ:L2.St}{H:Hp}{s:Shared}
variable{t1 t2:T}{b:Bool}
theorem aF6{A:Around}{x y:V}{u v:Value}(h1:RT X.K H [] t1 x)(h2:RT X.K H [] t2 y)(r1:RelV x u)(r2:RelV y v)(e:eqF t1 t2=some b):SeqAt.EqAt A s u v b:=by
 unfold eqF at e;split at e<;>first
  | (cases e;done)
  | (cases e
     unfold RT at h1 h2;subst h1 h2;have q:=aL5 (A:=A) (s:=s) r1 r2 rfl rfl
     exact q)
theorem aBh{x:V}(h1:RT X.K H [] t1 x)(h2:RT X.K H [] t2 x)(e:eqF t1 t2=some b):b=true:=by
 unfold eqF at e;split at e<;>first
  | (cases e;done)
  | (cases e
     unfold RT at h1 h2;rw[h1]at h2;first|rfl| (cases h2;simp)| (exact nomatch h2))
theorem aBx{e:T->T->Option Bool}{vs:List V}(he:∀t1 t2 x b,RT X.K H [] t1 x->RT X.K H [] t2 x->e t1 t2=some b->b=true):∀{ts us:List T}{vs:List V}{b:Bool},RTs X.K H [] ts vs->RTs X.K H [] us vs->eqL e ts us=some b->b=true
 | [],[],_,b,_,_,q=>by cases q;rfl
 |t::ts,u::us,vs,b,h1,h2,q=>by
  obtain⟨v,r,rfl,a1,a2⟩:=h1.cons_inv;obtain⟨v',r',z,b1,b2⟩:=h2.cons_inv;cases z;unfold eqL at q;obtain⟨c,q1,q⟩:=aK.mp q;obtain⟨d,q2,q⟩:=aL.mp q;rw[he _ _ _ _ a1 b1 q1,aBx (vs:=vs) he a2 b2 q2]at q
  exact q.symm
 | [],_::_,_,_,_,_,q=>by cases q
 |_::_,[],_,_,_,_,q=>by cases q
theorem aGx(I:Inv X aa σ H s):∀(n:Nat)(t1 t2:T)(x:V)(b:Bool),RT X.K H [] t1 x->RT X.K H [] t2 x->eqT n t1 t2=some b->b=true:=by
 intro n;induction n with
 |zero=>intro t1 t2 x b h1 h2 e;exact aBh h1 h2 (by unfold eqT at e;exact e)
 |succ n ih=>
  intro t1 t2 x b h1 h2 e;by_cases hl:∃xs ys,t1=.lst xs/\t2=.lst ys
  ·obtain⟨xs,ys,rfl,rfl⟩:=hl;unfold RT at h1 h2;obtain⟨a,vs,e1,q1,r1⟩:=h1;obtain⟨a',vs',e2,q2,r2⟩:=h2;rw[e1]at e2;cases e2;have:=I.list_inj q1 q2;subst this;unfold eqT at e;rw[if_pos (by rw[<-r1.length,<-r2.length])]at e
   exact aBx (vs:=vs) ih r1 r2 e
  ·have e':eqF t1 t2=some b:=by
    unfold eqT at e;split at e
    ·exact absurd ⟨_,_,rfl,rfl⟩ hl
    ·exact e
   exact aBh h1 h2 e'
theorem aAN{e:T->T->Option Bool}{A:Around}(he:∀t1 t2 x y u v b,RT X.K H [] t1 x->RT X.K H [] t2 y->RelV x u->RelV y v->e t1 t2=some b->SeqAt.EqAt A s u v b):
 ∀{ts us:List T}{vs ws:List V}{is js:List Value}{b:Bool},RTs X.K H [] ts vs->RTs X.K H [] us ws->Vals vs is->Vals ws js->eqL e ts us=some b->
  ∃f:Nat->Bool,(∀j u v,is[j]?=some u->js[j]?=some v->SeqAt.EqAt A s u v (f j))/\(bI is.length).all f=b
 | [],[],_,_,_,_,b,h1,h2,v1,v2,q=>by
   cases q;rw[h1.nil_inv]at v1;cases v1
   exact⟨fun _=>true,fun j u v z=>by simp at z,rfl⟩
 |t::ts,u::us,vs,ws,is,js,b,h1,h2,v1,v2,q=>by
  obtain⟨v,r,rfl,a1,a2⟩:=h1.cons_inv;obtain⟨v',r',rfl,b1,b2⟩:=h2.cons_inv;unfold eqL at q;obtain⟨c,q1,q⟩:=aK.mp q;obtain⟨d,q2,q⟩:=aL.mp q;cases v1 with
  |cons x1 y1=>
   cases v2 with
   |cons x2 y2=>
    obtain⟨f,f1,f2⟩:=aAN he a2 b2 y1 y2 q2
    refine⟨fun j=>match j with|0=>c|j+1=>f j,fun j u v z1 z2=>?_,?_⟩
    ·cases j with
     |zero=>
      simp at z1 z2;subst z1 z2
      exact he _ _ _ _ _ _ _ a1 b1 x1 x2 q1
     |succ j=>exact f1 j u v (by simpa using z1) (by simpa using z2)
    ·rw[aN,aOr,List.all_cons,aPS,<-q,<-f2];rfl
 | [],_::_,_,_,_,_,_,_,_,_,_,q=>by cases q
 |_::_,[],_,_,_,_,_,_,_,_,_,q=>by cases q
theorem aCV(I:Inv X aa σ H s):∀(n:Nat)(A:Around)(t1 t2:T)(x y:V)(u v:Value)(b:Bool),A.units+n<cLine->RT X.K H [] t1 x->RT X.K H [] t2 y->RelV x u->RelV y v->eqT n t1 t2=some b->SeqAt.EqAt A s u v b:=by
 intro n;induction n with
 |zero=>intro A t1 t2 x y u v b hu h1 h2 r1 r2 e;exact aF6 h1 h2 r1 r2 (by unfold eqT at e;exact e)
 |succ n ih=>
  intro A t1 t2 x y u v b hu h1 h2 r1 r2 e;by_cases hl:∃xs ys,t1=.lst xs/\t2=.lst ys
  ·obtain⟨xs,ys,rfl,rfl⟩:=hl;have sm:x=y->b=true:=fun z=>by subst z;exact aGx I _ _ _ _ _ h1 h2 e
   unfold RT at h1 h2;obtain⟨a,vs,e1,q1,k1⟩:=h1;obtain⟨c,ws,e2,q2,k2⟩:=h2;subst e1 e2;cases r1;cases r2;by_cases ox:a=c
   ·subst ox;rw[sm rfl]
    exact SeqAt.EqAt.same _
   ·obtain⟨is,v1,p1,z1⟩:=I.list q1;obtain⟨js,v2,p2,z2⟩:=I.list q2;have l1:=v1.length;have l2:=v2.length;unfold eqT at e;split at e
    ·rename_i ah;obtain⟨f,f1,f2⟩:=aAN (A:=A.in1) (fun t1 t2 x y u v b a1 a2 a3 a4 a5=>ih A.in1 t1 t2 x y u v b (by show A.units+1+n<cLine;lia) a1 a2 a3 a4 a5) k1 k2 v1 v2 e;have q:=SeqAt.EqAt.of_refs ox (SeqAt.RcAt.lists (A:=A) (s:=s) (e:=f) p1.isList p2.isList (by rw[bF,bF,<-l1,<-l2,k1.length,k2.length];exact ah) (by lia) fun j h1 h2=>
      f1 j _ _ (by simp) (by simp))
     rw[bF,f2]at q
     exact q
    ·rename_i ah;cases e
     refine SeqAt.EqAt.of_refs ox (SeqAt.RcAt.lists_lengths p1.isList p2.isList ?_ (by lia))
     rw[bF,bF,<-l1,<-l2,k1.length,k2.length];simpa using ah
  ·have e':eqF t1 t2=some b:=by
    unfold eqT at e;split at e
    ·exact absurd ⟨_,_,rfl,rfl⟩ hl
    ·exact e
   exact aF6 h1 h2 r1 r2 e'
end
noncomputable def o9(cells:List (Str×Addr)):List (Str×NameKind)->List (Str×Addr)->Option (List (Str×Addr))
 | [],acc=>some acc
 | (n,k)::r,acc=>if(k==NameKind.free)=true then(match cells.lookup n with
  |some c=>o9 cells r ((n,c)::acc)
  |none=>none)else o9 cells r acc
theorem wM{env:Env}:∀(ns:List (Str×NameKind))(acc cl:List (Str×Addr)),o9 env.cells ns acc=some cl->
 (forIn ns acc fun(x:Str×NameKind) (cs:List (Str×Addr))=>if(x.2==NameKind.free)=true then do let c<-cellOf env x.1;pure (ForInStep.yield ((x.1,c)::cs))else pure (ForInStep.yield cs):Sem (List (Str×Addr)))=pure cl
 | [],acc,cl,e=>by cases e;rfl
 | (n,k)::r,acc,cl,e=>by
   unfold o9 at e;rw[List.forIn_cons];split at e
   ·rename_i hk;split at e
    ·rename_i c hc;have:=wM r _ cl e;simp only[hk,if_true];unfold cellOf;rw[hc]
     exact this
    ·cases e
   ·rename_i hk;have:=wM r _ cl e;simp only[hk,if_false]
    exact this
theorem aDU{env:Env}{scope:Scope}{cl:List (Str×Addr)}(e:o9 env.cells scope.names []=some cl):closureFor scope env=pure cl:=by
 have h:=wM scope.names [] cl e;unfold closureFor;first
  |exact h
  | (simp only[bind_pure]at*;exact h)
  | (show(forIn scope.names [] _>>=fun r=>pure r)=pure cl;rw[bind_pure];exact h)
theorem tK{cells:List (Str×Addr)}:∀(ns:List (Str×NameKind))(acc cl:List (Str×Addr)),o9 cells ns acc=some cl->(∀x c,acc.lookup x=some c->cells.lookup x=some c)->
 (∀x c,cl.lookup x=some c->cells.lookup x=some c)
 | [],acc,cl,e,h=>by cases e;exact h
 | (n,k)::r,acc,cl,e,h=>by
   unfold o9 at e;split at e
   ·split at e
    ·rename_i c hc
     refine tK r _ cl e fun x d hx=>?_
     rw[b4]at hx;split at hx
     ·rename_i q;cases hx;rw[eq_of_beq q];exact hc
     ·exact h x d hx
    ·cases e
   ·exact tK r _ cl e h
theorem pQ{cells:List (Str×Addr)}:∀(ns:List (Str×NameKind))(acc cl:List (Str×Addr)),o9 cells ns acc=some cl->∀x,((x,NameKind.free)∈ns\/∃c,acc.lookup x=some c)->∃c,cl.lookup x=some c
 | [],acc,cl,e,x,h=>by
   cases e;rcases h with h|h
   ·cases h
   ·exact h
 | (n,k)::r,acc,cl,e,x,h=>by
   unfold o9 at e;split at e
   ·split at e
    ·rename_i c hc
     refine pQ r _ cl e x ?_
     rcases h with h|h
     ·rcases bE.mp h with h|h
      ·cases h
       exact .inr ⟨c,by simp[b4]⟩
      ·exact .inl h
     ·obtain⟨d,hd⟩:=h;by_cases hx:(x==n)=true
      ·exact .inr ⟨c,by rw[b4,hx]⟩
      ·refine .inr ⟨d,?_⟩
       rw[b4];simp only[hx]
       exact hd
    ·cases e
   ·rename_i hk
    refine pQ r _ cl e x ?_
    rcases h with h|h
    ·rcases bE.mp h with h|h
     ·cases h;exact absurd rfl hk
     ·exact .inl h
    ·exact .inr h
abbrev gD(X:Cx)(N:List Str)(scope:Scope)(cl:List (Str×Addr))(C:Addr)(s3:Shared)(H3:Hp)(fp:List Addr):Cx:=
 {X with N:=N,s₀:=s3,H₀:=H3,env:=compEnvC scope cl C X.env,outer:=X.stack,stack:=X.stack,ex:=fp,fn:=fun _=>false,pn:=[],xe:=fun _ _=>False}
theorem mM{env:Env}:∀{names:List (Str×NameKind)}{x:Str},(∀y∈names,y.2≠ .cell)->
 ((names.map fun(n,k)=>if(k==NameKind.free&&env.scope.kind== .function&&env.kindOf n==some .cell)=true then(n,NameKind.cell)else(n,k)).lookup x=some .cell\/
  (names.map fun(n,k)=>if(k==NameKind.free&&env.scope.kind== .function&&env.kindOf n==some .cell)=true then(n,NameKind.cell)else(n,k)).lookup x=some .free)->(x,NameKind.free)∈names
 | [],x,_,h=>by rcases h with h|h<;>simp at h
 | (n,k)::r,x,hc,h=>by
   have ih:= @mM env r x (fun y hy=>hc y (bA _ hy));have hk:k≠ .cell:=hc (n,k) bJ;rw[aM]at h;by_cases hx:(x==n)=true
   ·have nv:x=n:=eq_of_beq hx;subst nv;by_cases ib:(k==NameKind.free&&env.scope.kind== .function&&env.kindOf x==some .cell)=true
    ·have:k=.free:=by
      rw[aOY,aOY]at ib
      exact eq_of_beq ib.1.1
     subst this
     exact bJ
    ·simp only[if_neg ib,b4,hx]at h;rcases h with h|h
     ·cases h;exact absurd rfl hk
     ·cases h;exact bJ
   ·refine bA _ (ih ?_)
    by_cases ib:(k==NameKind.free&&env.scope.kind== .function&&env.kindOf n==some .cell)=true
    ·simp only[if_pos ib,b4,hx]at h
     exact h
    ·simp only[if_neg ib,b4,hx]at h
     exact h
structure lJ(X:Cx)(own fr:List Str)(is:List Nat)(scope:Scope)(cl:List (Str×Addr)):Prop where
 clos:o9 X.env.cells scope.names []=some cl
 cell:∀y∈scope.names,y.2≠ .cell
 kind:scope.kind=.function
 names:∀y∈scope.names,y.2=.local->scope.names.lookup y.1=some .local
 pick:is.map (fun i=>X.N[i]?)=fr.map some
 kx:fr.all (fun x=>X.env.kindOf x==some .cell||X.env.kindOf x==some .free)=true
 ky:fr.all (fun x=>(relabel scope X.env).names.lookup x==some .cell||(relabel scope X.env).names.lookup x==some .free)=true
section
variable {X:Cx}{own fr:List Str}{is:List Nat}{scope:Scope}{cl:List (Str×Addr)}
variable{aa:List (Addr×Obj)}{σ:L2.St}{s:Shared}{fp:List Addr}{bd iter tg:Expr}{ifs:List Expr}{pos:Pos}{te:TE}{wi:TI}
theorem aEt{x:Option NameKind}(h:(x==some .cell||x==some .free)=true):x=some .cell\/x=some .free:=by
 rw[Bool.or_eq_true]at h;rcases h with h|h
 ·exact .inl (eq_of_beq h)
 ·exact .inr (eq_of_beq h)
theorem aHv{H:Hp}{bg:Heap}{tk:Nat}(k:lJ X own fr is scope cl)(I:Inv X aa σ H s)(hf:∀b∈fp,tT X aa H b/\b<s.heap.objs.size)
 (hn:bg.Ns s.heap.objs.size (fun x=>([]:List (Str×Value)).reverse.lookup x))(hs:Heap.SameBut s.heap.objs.size (s.heap.push {cls:=.type "dict",data:=.dict #[]}) bg):
 Inv (gD X (own++fr) scope cl s.heap.objs.size s H fp) [] (scV own.length is σ) H {s with heap:=bg,toks:=tk}:=by
 have hk:∀b o,s.heap.get? b=some o->bg.get? b=some o:=fun b o e=>(hs.2 b (bV (Heap.lt_size e))).trans (Heap.get?_push_of_some _ e)
 have sub:=tK _ _ _ k.clos (fun x c z=>by simp at z);have lg:∀x c,cl.lookup x=some c->∃v,s.heap.IsCell c v:=fun x c e=>I.cell x c (sub x c e)
 have lj:∀{c v},s.heap.IsCell c v->bg.IsCell c v:=fun⟨o,ho,hd⟩=>⟨o,hk _ o ho,hd⟩
 have cne:∀x c,cl.lookup x=some c->c≠s.heap.objs.size:=fun x c e z=>by
  obtain⟨v,o,ho,_⟩:=lg x c e
  exact absurd (z ▸ Heap.lt_size ho) (cU _)
 refine⟨⟨I.ok.mod,k.kind,I.ok.glob,I.ok.blt,bG _,fun x y c h1 h2=>I.ok.inj x y c (sub x c h1) (sub y c h2),fun x hx=>?_,fun x c h=>(by cases h),I.ok.hd,I.ok.frames,.inl rfl,fun b hb=>⟨bV (hf b hb).2,fun x c e=>(hf b hb).1.2.2.2.2.1 x c (sub x c e)⟩,
  fun b o e=>I.bs b o e,cB I.ok.bsz I.sz,fun b o e hb=>?_,fun b hb z=>?_,I.stack,I.stkFree⟩,
  rfl,I.bare,Un.kept hk,⟨_,hn,fun i x v h1 h2 h3=>?_⟩,fun x c e=>?_,I.hok.fresh (bG _),fun x c e=>I.freeC x c (sub x c e),fun p hp=>absurd hp (by simp),I.hok.kept hk,?_⟩
 ·have nv:(relabel scope X.env).names.lookup x=some .cell\/(relabel scope X.env).names.lookup x=some .free:=hx
  exact pQ _ _ _ k.clos x (.inl (mM k.cell nv))
 ·rcases(hf b hb).1.2.2.2.1 with z|z
  ·exact I.ok.noex b o e z
  ·exact absurd (bP (Heap.lt_size e) (cB I.ok.bsz z)) (cU _)
 ·rcases bE.mp (I.stkSub b z)with q|q
  ·exact(hf b hb).1.2.1 q
  ·exact(hf b hb).1.2.2.1 q
 ·
  have hi:¬i<own.length:=fun hi=>by
   unfold scV at h2;rw[aZ (by simpa using hi),cO,if_pos hi]at h2;cases h2
  have dy:=aOx hi;unfold scV at h2;rw[bH (by simpa using dy),bK]at h2;simp only[eO]at h2;obtain⟨j,hj,z⟩:=aL.mp h2;have hσ:σ[j]?=some (some v):=by
   cases q:σ[j]?with
   |none=>rw[q]at z;cases z
   |some u=>rw[q]at z;exact congrArg some z
  have jb:fr[i - own.length]?=some x:=by
   have:(own++fr)[i]?=some x:=h1;rw[bH dy]at this
   exact this
  have hN:X.N[j]?=some x:=by
   have:=congrArg (fun l=>l[i - own.length]?) k.pick;simp only[bK,hj,jb,aOp]at this
   exact cH.inj this
  have uz:x∈fr:=bD jb;have kx:=aEt (aOf.mp k.kx x uz);have ky:=aEt (aOf.mp k.ky x uz);obtain⟨m,_,hl⟩:=I.loc
  obtain⟨u,r,l⟩:=hl j x v hN hσ (by rcases kx with z|z;·exact .inr (.inl z)
                                    ·exact .inr (.inr z))
  refine⟨u,r,.inr ⟨ky,?_⟩⟩
  rcases l with⟨z,_⟩| ⟨_,c,e,q⟩
  ·rcases kx with w|w<;>(rw[w]at z;cases z)
  ·obtain⟨d,hd⟩:=pQ _ _ _ k.clos x (.inl (mM k.cell ky));have:=sub x d hd;rw[e]at this;cases this
   exact⟨c,hd,lj q⟩
 ·obtain⟨v,q⟩:=lg x c e
  exact⟨v,lj q⟩
 ·unfold scV;show _=(own++fr).length;have:=congrArg aPF k.pick;simp only[aP]at this;simp[this]
theorem aFc{gh:L2.St}{H H':Hp}{s':Shared}{h':Heap}(I:Inv X aa σ H s)(hf:∀b∈fp,tT X aa H b)
 (J:Inv (gD X (own++fr) scope cl s.heap.objs.size s H fp) [] gh H' s')(hs:Heap.SameBut s.heap.objs.size s'.heap h'):Inv X aa σ H' {s' with heap:=h'}:=by
 have u:Un (frs X.stack) fp H H' s.heap s'.heap:=J.base;have ne:∀b o,s.heap.get? b=some o->b≠s.heap.objs.size:=fun b o e=>bV (Heap.lt_size e)
 have u':Un (frs X.stack) fp H H' s.heap h':=⟨fun b o e n h1 h2=>(hs.2 b (ne b o e)).trans (u.keep b o e n h1 h2),fun b o e n h1 h2=>by
  obtain⟨sl,q⟩:=u.slot b o e n h1 h2
  exact⟨sl,(hs.2 b (ne b o e)).trans q⟩,u.free,fun b o e h2=>by
  obtain⟨o',q⟩:=u.there b o e h2
  exact⟨o',(hs.2 b (ne b o e)).trans q⟩,u.tups,u.frzs,u.tbls⟩
 have di:H' s.heap.objs.size=none:=J.free;have hok:HOk X.prog X.w H' h':=fun b ob e=>by
  refine(J.hok b ob e).stay (fun c w' hc q=>(hs.2 c ?_).trans q) (fun _ q=>q) fun _ _ q=>q
  rintro rfl;rcases hc with rfl|hc
  ·rw[di]at e;cases e
  ·rw[di]at hc;cases hc
 exact I.call' (s':={s' with heap:=h'}) J.os u' hok J.bare fun b hb=>⟨(hf b hb).2.2.2.1,(hf b hb).2.1,(hf b hb).2.2.2.2.1,(hf b hb).2.2.2.2.2⟩
theorem wI{prog:Program}{w:World}{A:Around}{R:Result->Shared->Prop}{target:Expr}{scope:Scope}{it acc:Value}{env:Env}(I:Nat->Shared->Prop)
 (turn:∀n s,I n s->wpAny (model prog w) A (pyNext it) (fun r aj=>match r with
  |none=>R (.ok .next) aj
  |some v=>wpAny (model prog w) A (letOwnedTupleGo target it v) (fun _ aj=>wpAny (model prog w) A (assign target env v) (fun _ bz=>
   wpAny (model prog w) A (forIn ifs true fun c r=>if r=true then do let ok<-isTrue c env (eval c env);pure (ForInStep.yield ok)else pure (ForInStep.yield r)) (fun ok cz=>
    if ok=true then wpAny (model prog w) A (eval bd env) (fun x jq=>
     wpAny (model prog w) A (call (.builtin "list.append") [acc,x]) (fun _ qg=>∃m,m<n/\I m qg) (fun _ _=>False) jq) (fun _ _=>False) cz
    else∃m,m<n/\I m cz) (fun _ _=>False) bz) (fun _ _=>False) aj) (fun _ _=>False) aj) (fun _ _=>False) s)
 (n:Nat)(h:I n s):
 codeAny (model prog w) A (.compLoop (.ListComp bd [⟨target,iter,ifs,0⟩] scope pos) 0 it acc env) R s:=by
 refine codeAny_loop rfl I (fun n s hI=>?_) n h
 show wpAny _ A ((compTurn (.ListComp bd [⟨target,iter,ifs,0⟩] scope pos) 0 it acc env).onRaise (fun x=>do noteFrame x env;theTreesLotGoes x)) _ _ s
 refine wpAny_noted ?_
 rw[compTurn_list]
 refine wpAny_bind (wpAny_standAt (wpAny_bind (wpAny_mono (turn n s hI) (fun r aj bg=>?_) fun _ _ h'=>h'.elim)))
 cases r with
 |none=>exact wpAny_pure bg
 |some v=>
  refine wpAny_bind (wpAny_mono bg (fun _ aj bg=>?_) fun _ _ h'=>h'.elim)
  refine wpAny_bind (wpAny_mono bg (fun _ bz cq=>wpAny_bind (wpAny_mono cq (fun ok cz jr=>?_) fun _ _ h'=>h'.elim)) fun _ _ h'=>h'.elim)
  cases ok with
  |false=>exact wpAny_pure ⟨rfl,jr⟩
  |true=>
   exact wpAny_bind (wpAny_bind (wpAny_mono jr (fun x jq xk=>wpAny_bind (wpAny_mono xk (fun _ qg xj=>wpAny_pure (wpAny_pure ⟨rfl,xj⟩)) fun _ _ h'=>h'.elim)) fun _ _ h'=>h'.elim))
def PTs(X:Cx)(ifs:List Expr)(t:TT):Prop:=
 ∀(aa:List (Addr×Obj))(s:Shared)(σ:L2.St)(H:Hp)(Q:Bool->Hp->Prop),Inv X aa σ H s->t σ H Q->
  wpAny (model X.prog X.w) X.A (forIn ifs true fun c r=>if r=true then do let ok<-isTrue c X.env (eval c X.env);pure (ForInStep.yield ok)else pure (ForInStep.yield r)) (TP X aa σ Q) X.xe s
theorem aI3:PTs X [] (fun _ H Q=>Q true H):=fun _ _ _ H _ I h=>wpAny_tests_nil ⟨H,I,h⟩
theorem aIP{c:Expr}{t:TT}(h:PT X c t):PTs X [c] t:=fun aa s σ H Q I q=>wpAny_tests_one (h aa s σ H Q I q)
theorem wF{g:TG}{tc:TT}{H2:Hp}{s2:Shared}{it:Addr}{tn:Nat->Heap->Prop}{J:It}{Q:VK}
 {RR:Value->Addr->Result->Shared->Prop}{E:Value->Shared->Prop}
 (hc:X.calm=true)(k:lJ X own fr is scope cl)
 (hg:∀C s3 H3 fp,PG (gD X (own++fr) scope cl C s3 H3 fp) tg g)(ht:∀C s3 H3 fp,PTs (gD X (own++fr) scope cl C s3 H3 fp) ifs tc)(he:∀C s3 H3 fp,PE (gD X (own++fr) scope cl C s3 H3 fp) bd te)
 (I2:Inv X aa σ H2 s2)(T:Turn X.prog X.w X.K tg J fp it tn)(kj:tn 0 s2.heap)(f2:∀b∈fp,tT X aa H2 b)
 (q:∀D,H2 D=none->∃W:Nat->Nat->L2.St->Hp->Prop,(∃m,W 0 m (scV own.length is σ) (upd H2 D (.lst [])))/\∀i m gh H,W i m gh H->
  (J.stop i H/\Q (.ref D) H)\/(J.go i H/\∀x H',J.yld i H x H'->g x gh H' fun bq H2=>tc bq H2 fun b H3=>
   if b=true then te bq H3 fun y H4=>∃ys m',H4 D=some (.lst ys)/\ys.length<lim/\m'<m/\W (i+1) m' bq (upd H4 D (.lst (ys++[y])))else∃m',m'<m/\W (i+1) m' bq H3))
 (hRR:∀D C H' s',(∃m,s'.heap.Ns C m)->(∀h',Heap.SameBut C s'.heap h'->Inv X aa σ H' {s' with heap:=h'})->H' C=none->s2.heap.objs.size<=C->Q (.ref D) H'->RR (.ref D) C (.ok .next) s'):
 wpAny (model X.prog X.w) X.A (newList []) (fun acc cz=>wpAny (model X.prog X.w) X.A (newFunctionEnv scope X.env.globals cl [] X.env.qual none .none (some X.env)) (fun uj jq=>
  codeAny (model X.prog X.w) X.A (.compStart (.ListComp bd [⟨tg,iter,ifs,0⟩] scope pos) 0 (.ref it) acc {uj with scope:=relabel scope X.env}) (RR acc uj.locals) jq) E cz) E s2:=by
 refine wpAny_newObj_type (wpAny_newFunctionEnv k.cell (by intro y hy;simp at hy) (fun bg lw im=>?_) k.kind)
 have I3:Inv X aa σ (upd H2 s2.heap.objs.size (.lst [])) {s2 with heap:=s2.heap.push {cls:=.type "list",data:=.seq ([]:List Value).toArray}}:=I2.lnew (t':=s2.toks) (its:=[]) .nil (dQ _);have hD:H2 s2.heap.objs.size=none:=I2.fresh;obtain⟨W,⟨m0,w0⟩,turn⟩:=q _ hD;have bo:∀b∈fp,b<s2.heap.objs.size:=fun b hb=>by
  obtain⟨o,e,_⟩:=T.obj _ _ kj b hb
  exact Heap.lt_size e
 have f3:∀b∈fp,tT X aa (upd H2 s2.heap.objs.size (.lst [])) b/\b<(s2.heap.push {cls:=.type "list",data:=.seq ([]:List Value).toArray}).objs.size:=fun b hb=>
  ⟨⟨by rw[fG (bV (bo b hb))];exact(f2 b hb).1,(f2 b hb).2⟩,by rw[Heap.size_push];exact aOT (bo b hb)⟩
 have J0:=aHv (tk:=s2.toks+([]:List (Str×Value)).length) k I3 f3 lw im;have kept:∀b o,s2.heap.get? b=some o->bg.get? b=some o:=fun b o e=>(im.2 b (by
  show b≠(s2.heap.push _).objs.size;rw[Heap.size_push]
  exact bV (aOT (Heap.lt_size e)))).trans (Heap.get?_push_of_some _ (Heap.get?_push_of_some _ e))
 have st4:tn 0 bg:=T.keep _ _ _ kj fun b _ o e=>kept b o e
 have ff:∀{H':Hp},(∀b∈fp,H' b=none)->∀b∈fp,tT (gD X (own++fr) scope cl (s2.heap.push {cls:=.type "list",data:=.seq ([]:List Value).toArray}).objs.size {s2 with heap:=s2.heap.push {cls:=.type "list",data:=.seq ([]:List Value).toArray}} (upd H2 s2.heap.objs.size (.lst [])) fp) [] H' b:=fun hn b hb=>
  ⟨hn b hb,bV (f3 b hb).2,fun z=>J0.ok.exfs b hb z,.inl hb,fun x c e=>(J0.ok.exf b hb).2 x c e,fun p hp=>absurd hp (by simp)⟩
 have loop:codeAny (model X.prog X.w) X.A (.compLoop (.ListComp bd [⟨tg,iter,ifs,0⟩] scope pos) 0 (.ref it) (.ref s2.heap.objs.size) (compEnvC scope cl (s2.heap.push {cls:=.type "list",data:=.seq ([]:List Value).toArray}).objs.size X.env))
  (RR (.ref s2.heap.objs.size) (s2.heap.push {cls:=.type "list",data:=.seq ([]:List Value).toArray}).objs.size) {s2 with heap:=bg,toks:=s2.toks+([]:List (Str×Value)).length}:=by
  refine wI (fun n s'=>∃i ai H',Inv (gD X (own++fr) scope cl (s2.heap.push {cls:=.type "list",data:=.seq ([]:List Value).toArray}).objs.size {s2 with heap:=s2.heap.push {cls:=.type "list",data:=.seq ([]:List Value).toArray}} (upd H2 s2.heap.objs.size (.lst [])) fp) [] ai H' s'/\tn i s'.heap/\(∀b∈fp,H' b=none)/\W i n ai H') ?_ m0
   ⟨0,_,_,J0,st4,fun b hb=>(f3 b hb).1.1,w0⟩
  rintro n s3 ⟨i,cj,H3,I3',qi,uf,w3⟩;rcases turn i n cj H3 w3 with⟨stop,qn⟩| ⟨go,step⟩
  ·refine thn (T.done (gD X (own++fr) scope cl _ _ _ fp) rfl rfl rfl hc i [] s3 cj H3 (fun _ _=>False) I3' (ff uf) qi stop) fun r s4 ⟨hr,I4⟩=>?_
   subst hr;obtain⟨m,hm,_⟩:=I4.loc
   refine hRR _ _ H3 s4 ⟨m,hm⟩ (fun h' oe=>?_) I4.free ?_ qn
   ·have:=aFc I3 (fun b hb=>(f3 b hb).1) I4 oe
    exact this
   ·show s2.heap.objs.size<=(s2.heap.push _).objs.size;rw[Heap.size_push]
    exact aP3 _
  ·refine thn (T.item (gD X (own++fr) scope cl _ _ _ fp) rfl rfl rfl hc i [] s3 cj H3 (fun _ _=>False) I3' (ff uf) qi go) fun r s4 ⟨u,hr,h4⟩=>?_
   subst hr
   refine thn h4 fun _ s5 zz=>?_
   obtain⟨x,H5,I5,r5,y5,ll,zg⟩:=zz;have I5':=I5.pinned (ff zg) (T.obj _ _ ll)
   refine thn (hg _ _ _ _ _ s5 cj H5 x u _ I5' r5 (step x H5 y5)) fun _ s6 zz=>?_
   obtain⟨nc,H6,I6,q6⟩:=zz
   refine thn (ht _ _ _ _ _ s6 nc H6 _ I6 q6) fun ok s7 ⟨H7,I7,q7⟩=>?_
   have back:∀{du:L2.St}{H7:Hp}{s7:Shared}{m':Nat},Inv (gD X (own++fr) scope cl (s2.heap.push {cls:=.type "list",data:=.seq ([]:List Value).toArray}).objs.size {s2 with heap:=s2.heap.push {cls:=.type "list",data:=.seq ([]:List Value).toArray}} (upd H2 s2.heap.objs.size (.lst [])) fp) ([]++wX fp s5.heap) du H7 s7->m'<n->W (i+1) m' du H7->
    ∃m,m<n/\∃i ai H',Inv (gD X (own++fr) scope cl (s2.heap.push {cls:=.type "list",data:=.seq ([]:List Value).toArray}).objs.size {s2 with heap:=s2.heap.push {cls:=.type "list",data:=.seq ([]:List Value).toArray}} (upd H2 s2.heap.objs.size (.lst [])) fp) [] ai H' s7/\tn i s7.heap/\(∀b∈fp,H' b=none)/\W i m ai H':=fun {du H7 s7 m'} I7 hm w7=>by
    refine⟨m',hm,i+1,du,H7,I7.unpinned,T.keep _ _ _ ll fun b hb o e=>(I7.pin (b,o) (cD _ (cD _ (oC hb e)))).1,fun b hb=>?_,w7⟩
    obtain⟨o,e,d⟩:=T.obj _ _ ll b hb
    exact(I7.pin (b,o) (cD _ (cD _ (oC hb e)))).2.1
   cases ok with
   |false=>
    try dsimp only at q7
    try dsimp only
    rw[if_neg (by simp)]at q7|-;obtain⟨m',hm,w7⟩:=q7
    exact back I7 hm w7
   |true=>
    try dsimp only at q7
    try dsimp only
    rw[if_pos rfl]at q7|-
    refine thn (he _ _ _ _ _ s7 nc H7 _ I7 q7) fun y s8 zz=>?_
    obtain⟨v,H8,I8,r8,ys,m',e8,l8,hm,w8⟩:=zz
    refine thn (zE _ s8 nc H8 (.ref s2.heap.objs.size) [v] (.ref s2.heap.objs.size) [y] (fun _ H9=>W (i+1) m' nc H9) I8 rfl (.cons r8 .nil) ⟨_,ys,v,rfl,rfl,e8,bP l8 lG,w8⟩) fun _ s9 zz=>?_
    obtain⟨_,H9,I9,_,w9⟩:=zz
    exact back I9 hm w9
 exact codeAny_compStart_list loop (T.self X.A 0 _ _ _ st4 loop)
theorem uV{g:TG}{tc:TT}(hc:X.calm=true)(k:lJ X own fr is scope cl)(hi:PI X tg iter wi)
 (hg:∀C s3 H3 fp,PG (gD X (own++fr) scope cl C s3 H3 fp) tg g)(ht:∀C s3 H3 fp,PTs (gD X (own++fr) scope cl C s3 H3 fp) ifs tc)(he:∀C s3 H3 fp,PE (gD X (own++fr) scope cl C s3 H3 fp) bd te)
 (hs:∀x,foldedSetIterable iter X.env x=pure x:=by intro _;rfl):PE X (.ListComp bd [⟨tg,iter,ifs,0⟩] scope pos) (y9 wi (scV own.length is) g tc te):=by
 intro aa s σ H Q I h;rw[eval_ListComp]
 refine wpAny_comprehension_free (use:=none) rfl hs (aDU k.clos) k.kind k.names (thn (hi aa s σ H _ I h) fun v s1 h1=>thn h1 fun uy s2 h2=>?_)
 obtain⟨it,fp,tn,J,H2,e,I2,T,kj,f2,q⟩:=h2;subst e
 refine wF (RR:=fun acc C=>compPost (model X.prog X.w) X.A X.xe none (EP X aa σ Q) acc C) hc k hg ht he I2 T kj f2 q ?_
 intro D C H' s' hm hI _ _ qD;obtain⟨m,hm⟩:=hm
 exact⟨m,hm,fun h' oe=>⟨.ref D,H',hI h' oe,rfl,qD⟩⟩
theorem oI{aq bv:Pos}{g:TG}{tc:TT}{i:Nat}{x:Str}(hN:X.N.Nodup)(hx:X.N[i]?=some x)(sr:X.env.scope.names.lookup x=some .local)
 (hc:X.calm=true)(k:lJ X own fr is scope cl)(hi:PI X tg iter wi)
 (hg:∀C s3 H3 fp,PG (gD X (own++fr) scope cl C s3 H3 fp) tg g)(ht:∀C s3 H3 fp,PTs (gD X (own++fr) scope cl C s3 H3 fp) ifs tc)(he:∀C s3 H3 fp,PE (gD X (own++fr) scope cl C s3 H3 fp) bd te)
 (ig:swapsWith (.ListComp bd [⟨tg,iter,ifs,0⟩] scope pos) (some (.Name x aq)) bv.line X.env=pure true)
 (hs:∀x,foldedSetIterable iter X.env x=pure x:=by intro _;rfl):PS X (.Assign [.Name x aq] (.ListComp bd [⟨tg,iter,ifs,0⟩] scope pos) bv) (aDd (y9 wi (scV own.length is) g tc te) (r6 i)):=by
 intro aa s σ H D I h;rw[exec_Assign_Name_used _ _ _ _ ig]
 refine wpAny_bind (wpAny_standAt (wpAny_bind ?_))
 show wpAny _ X.A (do let _<-comprehension (.ListComp bd [⟨tg,iter,ifs,0⟩] scope pos) scope X.env _ (newList []) false (eval iter X.env) (some (assign (.Name x aq) X.env))) _ _ s
 refine wpAny_bind (wpAny_mono (wpAny_comprehension_free (use:=some (assign (.Name x aq) X.env)) (Q:=fun _ s'=>SP X aa D .next s') rfl hs (aDU k.clos) k.kind k.names
  (thn (hi aa s σ H _ I h) fun v s1 h1=>thn h1 fun uy s2 h2=>?_)) (fun _ s' hq=>wpAny_pure (wpAny_pure hq)) fun _ _ e=>e)
 obtain⟨it,fp,tn,J,H2,e,I2,T,kj,f2,q⟩:=h2;subst e
 refine wF (Q:=fun v H1=>D.nx (σ.set i (some v)) H1) (RR:=fun acc C=>compPost (model X.prog X.w) X.A X.xe (some (assign (.Name x aq) X.env)) (fun _ s'=>SP X aa D .next s') acc C) hc k hg ht he I2 T kj f2 q ?_
 intro A C H' s' hm hI hC ay qD;obtain⟨m,hm⟩:=hm;show wpAny _ X.A (assign (.Name x aq) X.env (.ref A)) _ _ _;have I':Inv X aa σ H' s':=hI s'.heap (Heap.SameBut.refl ..)
 refine wpAny_assign_Name (zA (v:=.ref A) I' hN hx (.inl sr) rfl (fun qk I'' br=>?_) (.inr sr))
 obtain⟨a,sb,ha⟩:=br;have old:∀b o,s2.heap.get? b=some o->C≠b:=fun b o e z=>by
  subst z
  exact absurd (bP (Heap.lt_size e) ay) (cU _)
 have hl:∃o,s2.heap.get? X.env.locals=some o:=let ⟨_,⟨o,_,_,ho,_⟩,_⟩:=I2.loc;⟨o,ho⟩
 have ou:∀y c,X.env.cells.lookup y=some c->C≠c:=fun y c e=>by
  obtain⟨v,o,ho,_⟩:=I2.cell y c e
  exact old c o ho
 have haC:C≠a:=by
  rcases ha with rfl|ha
  ·obtain⟨o,ho⟩:=hl
   exact old _ o ho
  ·exact ou x a ha
 refine⟨m,hm.sameBut sb haC,fun h3 hs3=>⟨σ.set i (some (.ref A)),H',?_,qD⟩⟩
 refine I''.turned (t':=qk.toks) (fun b o hb e=>(hs3.2 b hb).trans e) hC ?_ (.inr (cB I2.sz ay)) (fun y c e=>Ne.symm (ou y c e)) fun p hp=>?_
 ·obtain⟨o,ho⟩:=hl
  exact old _ o ho
 ·exact Ne.symm (old _ _ (I2.pin p hp).1)
end
section
variable {X:Cx}
variable{A:Around}{s:Shared}{rs:List (Value×Bool)}
theorem aGl(hu:X.A.units+20<cLine):OpR X (compareOp .Eq) (aK7 X.K false):=by
 intro aa s σ H x y u v Q I rx ry h;obtain⟨t1,t2,b,h1,h2,e,q⟩:=h;have q':Q (.bl b) H:=q;have fin:EP X aa σ Q (.bool b) s:=⟨.bl b,H,I,rfl,q'⟩;by_cases hl:∃xs ys,t1=.lst xs/\t2=.lst ys
 ·obtain⟨xs,ys,rfl,rfl⟩:=hl;unfold RT at h1 h2;obtain⟨a,vs,e1,q1,k1⟩:=h1;obtain⟨c,ws,e2,q2,k2⟩:=h2;subst e1 e2;cases rx;cases ry;obtain⟨is,v1,p1,z1⟩:=I.list q1;obtain⟨js,v2,p2,z2⟩:=I.list q2;have l1:=v1.length;have l2:=v2.length;unfold eqT at e;split at e
  ·rename_i ah;obtain⟨f,f1,f2⟩:=aAN (A:=X.A.in1) (fun t1 t2 x y u v b a1 a2 a3 a4 a5=>aCV I _ X.A.in1 t1 t2 x y u v b (by show X.A.units+1+4<cLine;lia) a1 a2 a3 a4 a5) k1 k2 v1 v2 e
   refine SeqAt.eq_listAt (e:=f) p1.isList p2.isList (by rw[bF,bF,<-l1,<-l2,k1.length,k2.length];exact ah) (by lia) (fun j h1 h2=>
    f1 j _ _ (by simp) (by simp)) ?_
   rw[bF,f2]
   exact fin
  ·rename_i ah;cases e
   refine SeqAt.eq_list_lengthsAt p1.isList p2.isList ?_ (by lia) fin
   rw[bF,bF,<-l1,<-l2,k1.length,k2.length];simpa using ah
 ·have e':eqF t1 t2=some b:=by
   unfold eqT at e;split at e
   ·exact absurd ⟨_,_,rfl,rfl⟩ hl
   ·exact e
  unfold eqF at e';split at e'
  ·cases e';unfold RT at h1 h2;subst h1 h2;cases rx;cases ry;exact SeqAt.RcAt.bool_bool _ _ _ _ _ _ fin
  ·cases e';unfold RT at h1 h2;subst h1 h2;obtain⟨t,rfl⟩:=rx;obtain⟨t',rfl⟩:=ry;exact SeqAt.RcAt.int_int _ _ _ _ _ _ _ _ fin
  ·cases e';unfold RT at h1 h2;subst h1 h2;obtain⟨t,rfl⟩:=rx;obtain⟨t',rfl⟩:=ry;exact SeqAt.RcAt.str_str _ _ _ _ _ _ _ _ fin
  ·cases e'
theorem aMn(hu:X.A.units+20<cLine):OpR X (compareOp .NotEq) (aK7 X.K true):=by
 intro aa s σ H x y u v Q I rx ry h;obtain⟨t1,t2,b,h1,h2,e,q⟩:=h;have q':Q (.bl (!b)) H:=q;have fin:EP X aa σ Q (.bool (!b)) s:=⟨.bl (!b),H,I,rfl,q'⟩;by_cases hl:∃xs ys,t1=.lst xs/\t2=.lst ys
 ·obtain⟨xs,ys,rfl,rfl⟩:=hl;unfold RT at h1 h2;obtain⟨a,vs,e1,q1,k1⟩:=h1;obtain⟨c,ws,e2,q2,k2⟩:=h2;subst e1 e2;cases rx;cases ry;obtain⟨is,v1,p1,z1⟩:=I.list q1;obtain⟨js,v2,p2,z2⟩:=I.list q2;have l1:=v1.length;have l2:=v2.length;unfold eqT at e;split at e
  ·rename_i ah;obtain⟨f,f1,f2⟩:=aAN (A:=X.A.in1) (fun t1 t2 x y u v b a1 a2 a3 a4 a5=>aCV I _ X.A.in1 t1 t2 x y u v b (by show X.A.units+1+4<cLine;lia) a1 a2 a3 a4 a5) k1 k2 v1 v2 e
   refine SeqAt.RcNeAt.lists (e:=f) p1.isList p2.isList (by rw[bF,bF,<-l1,<-l2,k1.length,k2.length];exact ah) (by lia) (fun j h1 h2=>
    f1 j _ _ (by simp) (by simp)) _ _ _ _ ?_
   rw[bF,f2]
   exact fin
  ·rename_i ah;cases e
   refine SeqAt.RcNeAt.lists_lengths p1.isList p2.isList ?_ (by lia) _ _ _ _ fin
   rw[bF,bF,<-l1,<-l2,k1.length,k2.length];simpa using ah
 ·have e':eqF t1 t2=some b:=by
   unfold eqT at e;split at e
   ·exact absurd ⟨_,_,rfl,rfl⟩ hl
   ·exact e
  unfold eqF at e';split at e'
  ·cases e';unfold RT at h1 h2;subst h1 h2;exact aGZ aa s σ H _ _ u v Q I rx ry ⟨rfl,by rw[aHE];exact q'⟩
  ·cases e';unfold RT at h1 h2;subst h1 h2;exact aGZ aa s σ H _ _ u v Q I rx ry ⟨rfl,by rw[aDR];exact q'⟩
  ·cases e';unfold RT at h1 h2;subst h1 h2;exact aGZ aa s σ H _ _ u v Q I rx ry ⟨rfl,by rw[aEy];exact q'⟩
  ·cases e'
theorem aCI{t:T}{x:V}{u:Value}{A:Around}{aa:List (Addr×Obj)}{s:Shared}{σ:L2.St}{H:Hp}(I:Inv X aa σ H s)(hu:A.units+5<cLine)(h:RT X.K H [] t x)(r:RelV x u):
 ∀{ts:List T}{vs:List V}{is:List Value}{b:Bool},RTs X.K H [] ts vs->Vals vs is->inL (fun y=>eqT 5 y t) ts=some b->∃rs:List (Value×Bool),rs.map (·.1)=is/\(∀p∈rs,SeqAt.EqAt A s p.1 u p.2)/\b=rs.any (·.2)
 | [],_,_,b,h1,v1,q=>by
   cases q;rw[h1.nil_inv]at v1;cases v1
   exact⟨[],rfl,(fun p hp=>nomatch hp),rfl⟩
 |t'::ts,_,_,b,h1,v1,q=>by
  obtain⟨v,r',rfl,a1,a2⟩:=h1.cons_inv;unfold inL at q;obtain⟨c,q1,q⟩:=aK.mp q;obtain⟨d,q2,q⟩:=aL.mp q;cases v1 with
  |cons x1 y1=>
   obtain⟨rs,w1,w2,w3⟩:=aCI I hu h r a2 y1 q2
   refine⟨(_,c)::rs,by rw[aM,w1],fun p hp=>?_,by rw[aOy,<-w3,q]⟩
   rcases bE.mp hp with rfl|hp
   ·exact aCV I 5 A t' t _ _ _ _ c hu a1 h x1 r q1
   ·exact w2 p hp
open Classical in
noncomputable def o0(rs:List (Value×Bool))(y:Value):Bool:=if∃p∈rs,p.1=y/\p.2=true then true else false
theorem aF3{u y:Value}(h:∀p∈rs,SeqAt.EqAt A s p.1 u p.2)(hy:y∈rs.map (·.1)):SeqAt.EqAt A s y u (o0 rs y):=by
 unfold o0;split
 ·rename_i he;obtain⟨p,hp,rfl,e⟩:=he;rw[<-e];exact h p hp
 ·rename_i hn;obtain⟨p,hp,rfl⟩:=bL.mp hy;have:p.2=false:=by
   cases e:p.2 with
   |false=>rfl
   |true=>exact absurd ⟨p,hp,rfl,e⟩ hn
  rw[<-this];exact h p hp
theorem aDB:(rs.map (·.1)).any (o0 rs)=rs.any (·.2):=by
 rw[eK,aPC,aPC];constructor
 ·rintro⟨y,hy,e⟩;unfold o0 at e;split at e
  ·rename_i he;obtain⟨p,hp,_,e⟩:=he
   exact⟨p,hp,e⟩
  ·cases e
 ·rintro⟨p,hp,e⟩
  refine⟨p.1,bL.mpr ⟨p,hp,rfl⟩,?_⟩
  unfold o0;rw[if_pos ⟨p,hp,rfl,e⟩]
theorem aMD(hu:X.A.units+20<cLine):OpR X (compareOp .In) (aM5 X.K false):=by
 intro aa s σ H x y u v Q I rx ry h;obtain⟨t,p,vs,ts,b,h1,rfl,hq,hs,e,q⟩:=h;cases ry;obtain⟨is,v1,p1,z1⟩:=I.list hq;obtain⟨rs,w1,w2,w3⟩:=aCI (A:=X.A.in1) I (by show X.A.units+1+5<cLine;lia) h1 rx hs v1 e;subst w1
 refine SeqAt.in_listAt (o0 rs) p1.isList (fun y hy=>aF3 w2 (by simpa using hy)) ?_
 rw[show(rs.map (·.1)).toArray.any (o0 rs)=(rs.map (·.1)).any (o0 rs)by simp,aDB,<-w3]
 exact⟨.bl b,H,I,rfl,q⟩
theorem aFt(hu:X.A.units+20<cLine):OpR X (compareOp .NotIn) (aM5 X.K true):=by
 intro aa s σ H x y u v Q I rx ry h;obtain⟨t,p,vs,ts,b,h1,rfl,hq,hs,e,q⟩:=h;cases ry;obtain⟨is,v1,p1,z1⟩:=I.list hq;obtain⟨rs,w1,w2,w3⟩:=aCI (A:=X.A.in1) I (by show X.A.units+1+5<cLine;lia) h1 rx hs v1 e;subst w1
 refine SeqAt.notIn_listAt (o0 rs) p1.isList (fun y hy=>aF3 w2 (by simpa using hy)) ?_
 rw[show(rs.map (·.1)).toArray.any (o0 rs)=(rs.map (·.1)).any (o0 rs)by simp,aDB,<-w3]
 exact⟨.bl (!b),H,I,rfl,q⟩
theorem zO{prog:Program}{w:World}{A:Around}{E:Value->Shared->Prop}{it t:Addr}{items:Array Value}(ay:t≠it):∀(n i:Nat)(s:Shared)(Q:List Value->Shared->Prop),s.heap.IsListIter it t i->s.heap.IsList t items->i+n<=items.size->
 (∀h',h'.IsListIter it t (i+n)->Heap.SameBut it s.heap h'->Q ((items.toList.drop i).take n) {s with heap:=h'})->wpAny (model prog w) A (draw (.ref it) n) Q E s
 |0,i,s,Q,hit,_,_,hQ=>by
  show wpAny _ _ (pure []) Q E s
  exact wpAny_pure (by simpa using hQ s.heap hit (Heap.SameBut.refl ..))
 |n+1,i,s,Q,hit,ht,hle,hQ=>by
  have bo:i<items.size:=by lia
  show wpAny _ _ (pyNext (.ref it)>>=_) Q E s
  refine wpAny_bind (wpAny_pyNext_list_item hit ht (x:=items[i]) (by simp[bo]) fun bg gf db=>?_)
  refine wpAny_bind (wpAny_holding (zO ay n (i+1) _ _ gf (ht.extBut db.extBut ay) (by lia) fun cq ma rf=>wpAny_pure ?_))
  have hd:items.toList.drop i=items[i]::items.toList.drop (i+1):=by simp[aOk,bo]
  have:=hQ cq (by rw[show i+(n+1)=i+1+n by lia];exact ma) (db.trans rf);rw[hd,aPi]at this
  exact this
theorem sU{prog:Program}{w:World}{E:Value->Shared->Prop}{t:Addr}{items:Array Value}{Q:List Value->Shared->Prop}(hh:A.handled=none)(ht:s.heap.IsList t items)
 (hQ:∀h',Heap.ExtBut s.heap.objs.size s.heap h'->Q items.toList {s with heap:=h'}):wpAny (model prog w) A (unpackItems (.ref t) items.size none) Q E s:=by
 have bo:t≠s.heap.objs.size:=by obtain⟨o,ho,_⟩:=ht;exact bV (Heap.lt_size ho)
 unfold unpackItems
 refine wpAny_bind ?_
 ·unfold notIterableAtAll
  refine wpAny_bind (wpAny_specialOf ht.typeIs slot_list_iter.lookup ?_)
  refine wpAny_pure ?_
  simp only[b9,if_false]
  refine wpAny_bind (wpAny_holding (wpAny_pyIter_list ht ?_))
  refine wpAny_bind (wpAny_holding (zO bo items.size 0 _ _ ⟨_,Heap.get?_push_size _ rfl,rfl,rfl⟩ (ht.push _) (by lia) fun bg gf db=>?_))
  have i':List.take items.size (List.drop 0 items.toList)=items.toList:=by
   rw[aPK];exact dO (by simp)
  rw[i'];rw[if_neg (by simp)];have re:bg.IsList t items:=(ht.push _).extBut db.extBut bo
  refine wpAny_bind (wpAny_holding (wpAny_pyNext_list_end hh gf re (by simp) fun cq tt=>?_))
  simp only[Option.isSome_none,b9,if_false]
  refine wpAny_pure (hQ cq fun b o hb e=>tt b o hb (db.extBut b o hb (Heap.get?_push_of_some _ e)))
noncomputable def gLst(K:aO)(n:Nat)(t:TGs):TG:=fun v σ H Q=>∃a xs,v=.ref a/\(SqL K H a xs\/SqT K H a xs)/\xs.length=n/\t xs σ H Q
theorem aMp{es:List Expr}{k:Nat}{t:TGs}{n:Nat}{pos:Pos}(hc:X.calm=true)(h:PGs X es t)
 (hn:(assignEach es X.env).length=n:=by rfl)(bi:(assignEach es X.env).findIdx? (·.1)=none:=by rfl):PG X (.Tuple es k pos) (gLst X.K n t):=by
 intro aa s σ H v u Q I r hw;obtain⟨a,xs,e1,hq,hl,hw⟩:=hw;rcases hq with hq|hq
 ·subst e1;cases r;obtain⟨its,rv,ht,hz⟩:=I.list hq;rw[assign_Tuple]
  refine wpAny_bind (wpAny_standAt ?_)
  unfold unpack;have kq:(assignEach es X.env).length=its.toArray.size:=by simp[hn,<-hl,rv.length]
  rw[kq,bi]
  refine wpAny_bind (wpAny_holding (sU (I.ok.hd hc) ht.isList fun h' hx=>?_))
  have I1:Inv X aa σ H {s with heap:=h'}:=I.kept (t':=s.toks) fun b o e=>hx b o (bV (Heap.lt_size e)) e
  exact h aa _ σ H xs _ Q I1 (by simpa using rv) hw
 ·exact aMP hc h hn bi aa s σ H v u Q I r ⟨a,xs,e1,hq,hl,hw⟩
end
end TL
namespace TL
open PySem L2
def Itz(K:aO)(l1 l2:Addr):It:=
 ⟨fun i H=>∃xs ys x y,SqL K H l1 xs/\SqL K H l2 ys/\xs[i]?=some x/\ys[i]?=some y,
  fun i H v H'=>∃p x y,H p=none/\v=.ref p/\H'=upd H p (.tup [x,y])/\(∀xs,SqL K H l1 xs->xs[i]?=some x)/\∀ys,SqL K H l2 ys->ys[i]?=some y,
  fun i H=>∃xs ys,SqL K H l1 xs/\SqL K H l2 ys/\(xs[i]?=none\/ys[i]?=none)⟩
def iZip(K:aO)(t:TA):TI:=fun σ H R=>t σ H fun vs H1=>∃l1 l2,vs=[.ref l1,.ref l2]/\(∃xs,SqL K H1 l1 xs)/\(∃ys,SqL K H1 l2 ys)/\R (Itz K l1 l2) H1
noncomputable def yG(ts us:List T):List T:=(ts.zip us).map fun p=>.tup [p.1,p.2]
section
variable {K:aO}{σ:L2.St}{H:Hp}{Q:VK}
variable{H1:Hp}{af:Rho}
theorem lM{Z:Addr->Prop}{H₀:Hp}{τ:TSt}{C:Sto}{σ:L2.St}{t:T}{ts:List T}{a:Addr}(R1:Rel K H₀ Z af τ C σ H1)(h1:RT K (mask H1 Z af) af t (.ref a))(e2:liT C t=some ts)
 {jd:Hp}{Z':Addr->Prop}{ae:Rho}{ag:TSt}{C':Sto}{ai:L2.St}{H:Hp}(R':Rel K jd Z' ae ag C' ai H)(sm:Same (mask H1 Z af) (mask H Z' ae))(ix:∀(c:Nat)(a:Addr),af[c]?=some a->ae[c]?=some a)(ax:stays t ts C'\/Same H1 H):
  ∃ws,SqL K H a ws/\RTs K (mask H Z' ae) ae ts ws:=by
 rcases ax with ax|ax
 ·have h2:=h1.mono sm ix;have e3:liT C' t=some ts:=by
   cases t with
   |cell c=>exact ax
   |lst us=>exact e2
   |_=>cases e2
  obtain⟨a',ws,ij,q',r'⟩:=R'.li h2 e3;cases ij
  exact⟨ws,q',r'⟩
 ·obtain⟨a',ws,ij,q',r'⟩:=R1.li h1 e2;cases ij
  exact⟨ws,ax.seq q',r'.mono sm ix⟩
theorem aJ8{Z:Addr->Prop}{H₀:Hp}{τ:TSt}{C:Sto}{σ:L2.St}{t u:T}{ts us:List T}{a b:Addr}(R1:Rel K H₀ Z af τ C σ H1)(h1:RT K (mask H1 Z af) af t (.ref a))(e1:liT C t=some ts)
 (h2:RT K (mask H1 Z af) af u (.ref b))(e2:liT C u=some us):Wlk K (Itz K a b) Z H1 af (yG ts us) (fun C=>stays t ts C/\stays u us C):=by
 refine⟨fun i t' H₀ Z' ae ag C' σ H ht R' sm ix ax _=>?_,fun H₀ Z' ae ag C' σ H R' sm ix ax _=>?_⟩
 ·obtain⟨ws,q1,r1⟩:=lM R1 h1 e1 R' sm ix (ax.imp (·.1) id);obtain⟨xs,q2,r2⟩:=lM R1 h2 e2 R' sm ix (ax.imp (·.2) id);unfold yG at ht;rw[bK]at ht;obtain⟨⟨x1,x2⟩,hz,rfl⟩:=aL.mp ht;obtain⟨z1,z2⟩:=dU.mp hz;obtain⟨v1,lq,wg⟩:=r1.get z1;obtain⟨v2,hv2,ni⟩:=r2.get z2
  refine⟨⟨ws,xs,v1,v2,q1,q2,lq,hv2⟩,fun x H' hy=>?_⟩
  obtain⟨p,y1,y2,hp,rfl,rfl,k1,k2⟩:=hy;have w1:=k1 ws q1;have w2:=k2 xs q2;rw[lq]at w1;cases w1;rw[hv2]at w2;cases w2
  exact⟨fun b u h=>by rw[fG (fun z=>by rw[z,hp]at h;cases h)];exact h,R'.alloc_tup hp (.cons wg (.cons ni .nil))⟩
 ·obtain⟨ws,q1,r1⟩:=lM R1 h1 e1 R' sm ix (ax.imp (·.1) id);obtain⟨xs,q2,r2⟩:=lM R1 h2 e2 R' sm ix (ax.imp (·.2) id)
  refine⟨ws,xs,q1,q2,?_⟩
  have hl:(yG ts us).length=min ts.length us.length:=by simp[yG]
  rw[hl];rcases Nat.le_total ts.length us.length with h|h
  ·exact .inl (cK (by rw[r1.length,aO5 h];exact bG _))
  ·exact .inr (cK (by rw[r2.length,aOZ h];exact bG _))
def qP(f1 f2:FE)(k:Nat)(is:List Nat)(g:FG)(tc:FB)(fe:FE):FN:=fun τ C=>(f1 τ C).bind fun p=>(f2 τ p.2).bind fun q=>(liT q.2 p.1).bind fun ts=>(liT q.2 q.1).bind fun us=>
 if(yG ts us).length<lim then jT g tc fe (scT k is τ) (yG ts us) q.2 else none
theorem aJe{f1 f2:FE}{k:Nat}{is:List Nat}{g:FG}{tc:FB}{fe:FE}(hg:Own k g)(h:trN K (qP f1 f2 k is g tc fe) σ H Q):y9 (iZip K (trA K (eV f1 (eV f2 fF)))) (scV k is) (trG K g) (trT K tc) (trE K fe) σ H Q:=by
 obtain⟨H₀,Z,ρ,τ,C,ys,C',R,e,q⟩:=h;unfold qP at e;obtain⟨⟨t,C1⟩,e1,e⟩:=aK.mp e;obtain⟨⟨u,C2⟩,e2,e⟩:=aK.mp e;obtain⟨ts,e3,e⟩:=aK.mp e;obtain⟨us,e4,e⟩:=aK.mp e;split at e
 ·rename_i hl
  refine⟨H₀,Z,ρ,τ,C,[t,u],C2,R,by simp[eV,fF,e1,e2],fun vs H1 af R1 h1 s1=>?_⟩
  obtain⟨v,r,rfl,q1,q2⟩:=h1.cons_inv;obtain⟨v',r',rfl,q3,q4⟩:=q2.cons_inv;rw[q4.nil_inv];obtain⟨a,vs,ea,qa,ra⟩:=R1.li q1 e3;obtain⟨b,ws,eb,qb,rb⟩:=R1.li q3 e4;subst ea eb
  exact⟨a,b,rfl,⟨vs,qa⟩,⟨ws,qb⟩,fun D hD=>sK R1 hg (aJ8 R1 q1 e3 q3 e4) ⟨o8 e3,o8 e4⟩ (fun C C2 h z=>⟨tE C C2 h z.1,tE C C2 h z.2⟩) hl e hD fun p H' ae vs R' hp rv s'=>q p H' ae vs R' hp rv (s1.trans s')⟩
 ·cases e
end
def jR(d:Int)(ns:List Int):Int:=if ns.isEmpty then d else tL ns
def aBa(t1 t2:T)(C:Sto):Option (T×Sto):=match t2 with
 | .int d=>(liT C t1).bind fun us=>(ints? us).map fun ns=>(.int (jR d ns),C)
 |_=>none
abbrev aGC(a b:FE):FE:=iO a b aBa
def frz1(C:Sto):Option T->Option (Option T)
 |none=>some none
 |some t=>(dr 3 C t).map some
def frz(C:Sto):TSt->Option TSt
 | []=>some []
 |o::τ=>(frz1 C o).bind fun o'=>(frz C τ).map (o':: ·)
section
variable {K:aO}{σ:St}{H:Hp}{D:Ends}{F G:FS}{Q:VK}
end
end TL
namespace TL
open PySem PySem.Spec PyProof.Rows L2
section
variable {P:Program}{w:World}{H H':Hp}{h h':Heap}{a:Addr}{o:HO}
end
def Named(K:aO)(c:String)(C:Addr):Prop:=bW K mainGlobals (Str.ofString c)=some (some (.ref C))
structure Aloft(P:Program)(w:World)(K:aO)(l:List Env)(H:Hp)(s:Shared)(c:String)(H':Hp)(C:Addr)(B:Heap)(s':Shared):Prop where
 nm:Named K c C
 os:s'.os=s.os
 bare:AllBare s'.gens
 un:Un (frs l) [] H H' s.heap s'.heap
 hok:HOk P w H' s'.heap
 keepB:∀b o,s.heap.get? b=some o->H b=none->b∉frs l->B.get? b=some o
 trkB:∀b u o,H' b=some u->s'.heap.get? b=some o->B.get? b=some o
 thereB:∀b o,s.heap.get? b=some o->b∉frs l->∃o',B.get? b=some o'
def Flies(B:Heap)(l:List Env)(a C:Addr)(s':Shared):Prop:=∃t,Heap.FlyingW B l a (.ref C) (.ref t) s'.heap
def Made(B:Heap)(l:List Env)(a C:Addr)(s':Shared):Prop:=∃h vs,B.StaysIn h/\h.FunFrames B l/\Heap.MadeExcOf h s'.heap a (.ref C) vs
noncomputable def wish(X:Cx):XW:=fun c σ H'=>∀aa H s a C B s',Inv X aa σ H s->Aloft X.prog X.w X.K X.stack H s c H' C B s'->(Made B X.stack a C s'\/Flies B X.stack a C s')->X.xe (.ref a) s'
section
variable {X:Cx}{aa:List (Addr×Obj)}{σ:L2.St}{H H':Hp}{s s':Shared}{c:String}{C a:Addr}{B:Heap}
end
section
variable {P:Program}{w:World}{K:aO}{mg:Str->Option Value}{base:Heap}{N:List Str}{qual:Str}{scope:Scope}{f:Addr}{cd:Value}{A:Around}{outer:List Env}{s:Shared}{H:Hp}{E:XK}
end
abbrev QE(X:Cx)(e:Expr)(f:FE):Prop:=PE X e (trE X.K f)
abbrev QN(X:Cx)(e:Expr)(f:FN):Prop:=PE X e (trN X.K f)
abbrev QA(X:Cx)(e:List Expr)(f:FN):Prop:=PA X e (trA X.K f)
abbrev QT(X:Cx)(e:Expr)(f:FB):Prop:=PT X e (trT X.K f)
abbrev QW(X:Cx)(e:Expr)(f:FB):Prop:=PW X e (trT X.K f)
abbrev QO(X:Cx)(e:Option Expr)(f:FO):Prop:=PO X e (trO X.K f)
abbrev QS(X:Cx)(e:Stmt)(f:FS):Prop:=PS X e (trS X.K (wish X) f)
abbrev QSs(X:Cx)(e:List Stmt)(f:FS):Prop:=PSs X e (trS X.K (wish X) f)
abbrev QG(X:Cx)(e:Expr)(g:FG):Prop:=PG X e (trG X.K g)
abbrev QTs(X:Cx)(e:List Expr)(f:FB):Prop:=PTs X e (trT X.K f)
theorem PTs.imp{X:Cx}{e:List Expr}{t t':TT}(h:PTs X e t)(hi:∀σ H Q,t' σ H Q->t σ H Q):PTs X e t':=fun aa s σ H Q I q=>h aa s σ H Q I (hi σ H Q q)
theorem aGI{i j:Int}(h:jY i j=true):IntMulOk i j:=by
 unfold jY at h;unfold IntMulOk;intro z;rw[z]at h;cases h
section
variable {X:Cx}{a b c e:Expr}{es:List Expr}{fa fb fc f:FE}{fr fn:FN}{ga gb:FB}{pos p p2:Pos}{j:Nat}
variable{op:CmpOp}{r:R2}
theorem eU(i:Nat){x:Str}(hN:X.N[i]?=some x:=by rfl)(hv:Vis X.env.scope x:=by first|exact aPT rfl|exact aPL (aPT rfl)|exact aPL (aPL rfl))(hd:(x==("__debug__":Str))=false:=by decide)
 (iz:(x==("__classdict__":Str))=false:=by decide):QE X (.Name x pos) (jQ i):=(aK9 hN hv hd iz).imp fun _ _ _=>aNC
theorem e9{i:Int}{k}:QE X (.Constant (.int i) k pos) (fC (.int i)):=aAP.imp fun _ _ _=>i_C fun _ _=>.int
theorem aC7{i:Bool}{k}:QE X (.Constant (.bool i) k pos) (fC (.bl i)):=aNN.imp fun _ _ _=>i_C fun _ _=>.bl
theorem aDI{k}:QE X (.Constant .none k pos) (fC .non):=aL1.imp fun _ _ _=>i_C fun _ _=>.non
theorem gT(ha:QE X a fa)(hb:QE X b fb):QE X (.BinOp a .Add b pos) (iO fa fb (gI fun i j=>.int (i+j))):=(t6 aLz ha hb).imp fun _ _ _=>wZ fun _ _ _ _ _=>o_I fun _ _ _ _=>.int
theorem rE(ha:QE X a fa)(hb:QE X b fb):QE X (.BinOp a .Sub b pos) (iO fa fb (gI fun i j=>.int (i - j))):=(t6 aLP ha hb).imp fun _ _ _=>wZ fun _ _ _ _ _=>o_I fun _ _ _ _=>.int
theorem aI7:OpR X (binaryOp .Mult) (rI IntMulOk fun i j=>.int (i*j)):=opI fun _ _ _ _ _ _ _ hc q=>mul_int q hc
theorem kS(ha:QE X a fa)(hb:QE X b fb):QE X (.BinOp a .Mult b pos) (iO fa fb (gIc jY fun i j=>.int (i*j))):=(t6 aI7 ha hb).imp fun _ _ _=>wZ fun _ _ _ _ _ h=>by
 obtain⟨i,j,h1,h2,h3,q⟩:=aHN (g:=fun i j=>.int (i*j)) (fun _ _ _ _=>.int) h
 exact⟨i,j,h1,h2,aGI h3,q⟩
theorem iB(ha:QE X a fa)(hb:QE X b fb):QE X (.BinOp a .Mod b pos) (iO fa fb (gIc (fun _ j=>decide (0<j)) fun i j=>.int (i%j))):=(t6 aK5 ha hb).imp fun _ _ _=>wZ fun _ _ _ _ _ h=>by
 obtain⟨i,j,h1,h2,h3,q⟩:=aHN (g:=fun i j=>.int (i%j)) (fun _ _ _ _=>.int) h
 exact⟨i,j,h1,h2,of_decide_eq_true h3,q⟩
theorem kQ(ha:QE X a fa)(hb:QE X b fb):QE X (.BinOp a .FloorDiv b pos) (iO fa fb (gIc (fun _ j=>decide (0<j/\j<1073741824)) fun i j=>.int (i/j))):=(t6 aKo ha hb).imp fun _ _ _=>wZ fun _ _ _ _ _ h=>by
 obtain⟨i,j,h1,h2,h3,q⟩:=aHN (g:=fun i j=>.int (i/j)) (fun _ _ _ _=>.int) h;have h4:0<j/\j<1073741824:=of_decide_eq_true h3
 exact⟨i,j,h1,h2,h4,q⟩
theorem aGV(ha:QE X a fa)(hb:QE X b fb):QE X (.BinOp a .Pow b pos) (iO fa fb (gIc (fun i j=>decide (0<=j/\j<=1000000/\i.natAbs<2^64)) fun i j=>.int (i^j.toNat))):=(t6 aLr ha hb).imp fun _ _ _=>wZ fun _ _ _ _ _ h=>by
 obtain⟨i,j,h1,h2,h3,q⟩:=aHN (g:=fun i j=>.int (i^j.toNat)) (fun _ _ _ _=>.int) h;have h4:0<=j/\j<=1000000/\i.natAbs<2^64:=of_decide_eq_true h3
 exact⟨i,j,h1,h2,h4,q⟩
theorem aNk(ha:QE X a fa):QE X (.UnaryOp .USub a pos) (fUn fa aHF):=(aNR aMT ha).imp fun _ _ _ h=>iD (aMA h) fun _ _ q=>aNp q
theorem aEp{g:T->T->Sto->Option (T×Sto)}(ho:OpR X (compareOp op) r)(hg:∀σ H Q x y,(∃t1 t2,trV X.K σ [t1,t2] [x,y] (g t1 t2) H Q)->r x y H Q)(ha:QE X a fa)(hb:QE X b fb)(hm:behindInMarks op b=false):
 QE X (.Compare a [op] [b] pos) (iO fa fb g):=(aKw ho ha hb hm).imp fun _ _ _=>wZ hg
theorem xR{g:T->T->Sto->Option (T×Sto)}(ho:OpR X (compareOp op) r)(hg:∀σ H Q x y,(∃t1 t2,trV X.K σ [t1,t2] [x,y] (g t1 t2) H Q)->r x y H Q)(ha:QE X a fa)(hb:QE X b fb)(hm:behindInMarks op b=false):
 QT X (.Compare a [op] [b] pos) (i8 (iO fa fb g)):=(aJK ho ha hb hm).imp fun _ _ _=>aF5 fun _ _ _=>wZ hg
abbrev gLt:=gI fun i j=>.bl (decide (i<j))
abbrev gLe:=gI fun i j=>.bl (decide (i<=j))
abbrev gGt:=gI fun i j=>.bl (decide (j<i))
theorem aN3(ha:QE X a fa)(hb:QE X b fb):QE X (.Compare a [.Lt] [b] pos) (iO fa fb gLt):=aEp aGh (fun _ _ _ _ _=>o_I fun _ _ _ _=>.bl) ha hb (nomark _)
theorem aFl(ha:QE X a fa)(hb:QE X b fb):QE X (.Compare a [.Gt] [b] pos) (iO fa fb gGt):=aEp aKR (fun _ _ _ _ _=>o_I fun _ _ _ _=>.bl) ha hb (nomark _)
theorem aIN(ha:QE X a fa)(hb:QE X b fb):QT X (.Compare a [.Lt] [b] pos) (i8 (iO fa fb gLt)):=xR aGh (fun _ _ _ _ _=>o_I fun _ _ _ _=>.bl) ha hb (nomark _)
theorem aN8(ha:QE X a fa)(hb:QE X b fb):QT X (.Compare a [.LtE] [b] pos) (i8 (iO fa fb gLe)):=xR aKJ (fun _ _ _ _ _=>o_I fun _ _ _ _=>.bl) ha hb (nomark _)
theorem aHI(ha:QE X a fa)(hb:QE X b fb):QT X (.Compare a [.Gt] [b] pos) (i8 (iO fa fb gGt)):=xR aKR (fun _ _ _ _ _=>o_I fun _ _ _ _=>.bl) ha hb (nomark _)
theorem aN4(hu:X.A.units+20<cLine)(ha:QE X a fa)(hb:QE X b fb):QE X (.Compare a [.Eq] [b] pos) (iO fa fb (gEq false)):=aEp (aGl hu) (fun _ _ _ _ _=>aMH) ha hb (nomark _)
theorem aAr(hu:X.A.units+20<cLine)(ha:QE X a fa)(hb:QE X b fb):QT X (.Compare a [.Eq] [b] pos) (i8 (iO fa fb (gEq false))):=xR (aGl hu) (fun _ _ _ _ _=>aMH) ha hb (nomark _)
theorem aLR(hu:X.A.units+20<cLine)(ha:QE X a fa)(hb:QE X b fb):QT X (.Compare a [.NotEq] [b] pos) (i8 (iO fa fb (gEq true))):=xR (aMn hu) (fun _ _ _ _ _=>aMH) ha hb (nomark _)
theorem aOa(hu:X.A.units+20<cLine)(ha:QE X a fa)(hb:QE X b fb)(hm:behindInMarks .In b=false:=by rfl):QE X (.Compare a [.In] [b] pos) (iO fa fb (gIn false)):=aEp (aMD hu) (fun _ _ _ _ _=>aNw) ha hb hm
theorem aKP(hu:X.A.units+20<cLine)(ha:QE X a fa)(hb:QE X b fb)(hm:behindInMarks .NotIn b=false:=by rfl):QT X (.Compare a [.NotIn] [b] pos) (i8 (iO fa fb (gIn true))):=xR (aFt hu) (fun _ _ _ _ _=>aNw) ha hb hm
theorem yF(ha:QE X a fa)(hb:QE X b fb)(hc:QE X c fc)(hm:lastMarks [.LtE,.Lt] [b,c]=false:=by with_unfolding_all rfl):QE X (.Compare a [.LtE,.Lt] [b,c] pos) (tF fa fb fc (fun i j=>decide (i<=j)) (fun i j=>decide (i<j))):=
 (aHr aKJ aGh ha hb hc hm).imp fun _ _ _=>aJb
theorem aNl{op}(ha:QE X a fa):QE X (.BoolOp op [a] pos) fa:=aLy ha
theorem aNh(ha:QE X a fa)(hb:QE X (.BoolOp .And (b::es) pos) fb):QE X (.BoolOp .And (a::b::es) pos) (zB fa fb):=(aMC ha hb).imp fun _ _ _=>aMw
theorem aNL(ha:QE X a fa):QE X (.UnaryOp .Not a pos) (y3 fa):=(aMt ha).imp fun _ _ _=>aM3
theorem aAg(ha:QT X a ga):QW X (.BoolOp .And [a] pos) ga:=aIL ha
theorem aHf(ha:QT X a ga):QW X (.BoolOp .Or [a] pos) ga:=aMN ha
theorem aEu(ha:QT X a ga)(hb:QW X (.BoolOp .And (b::es) pos) gb):QW X (.BoolOp .And (a::b::es) pos) (qH ga gb):=(aM4 ha hb).imp fun _ _ _=>aLF
theorem aM1(ha:QT X a ga)(hb:QW X (.BoolOp .Or (b::es) pos) gb):QW X (.BoolOp .Or (a::b::es) pos) (aAq ga gb):=(aNV ha hb).imp fun _ _ _=>aNy
theorem t_w(h:QW X a ga):QT X a ga:=h.pt
theorem aG9(ha:QT X a ga):QT X (.UnaryOp .Not a pos) (qM ga):=(aLN ha).imp fun _ _ _=>aME
theorem uD(ha:QE X a fa)(he:∀whole,isTrue a X.env whole=(do let v<-whole;standAt a.pos;holding [v] (truthy v)):=by intro _;rfl):QT X a (qA fa):=(aG2 ha he).imp fun _ _ _=>aNc
theorem aNe(hc:QT X c ga)(ha:QE X a fa)(hb:QE X b fb):QE X (.IfExp c a b pos) (aFv ga fa fb):=(aGz hc ha hb).imp fun _ _ _=>aM9
theorem fY(ha:QE X a fa)(hb:QE X b fb)(hs:PlainIx b:=by exact fun _ _=>rfl):QE X (.Subscript a b pos) (iO fa fb gIx):=(aNf aMJ ha hb hs).imp fun _ _ _=>wZ fun _ _ _ _ _=>aN9
theorem nK:QO X none lF:=aKe.imp fun _ _ _=>aIn
theorem o7(ha:QE X a fa):QO X (some a) (nA fa):=(vE ha).imp fun _ _ _=>aLc
theorem pZ{lo hi:Option Expr}{fl fh:FO}(ha:QE X a fa)(hl:QO X lo fl)(hh:QO X hi fh):QN X (.Subscript a (.Slice lo hi none p2) pos) (fSl fa fl fh):=(aGQ aJE ha hl hh).imp fun _ _ _=>aN6
theorem eY:QA X [] fF:=aDf.imp fun _ _ _=>aKM
theorem eT(ha:QE X e f)(hr:QA X es fr)(hs:starEach (e::es) X.env=(false,eval e X.env)::starEach es X.env:=by rfl):QA X (e::es) (eV f fr):=(vA ha hr hs).imp fun _ _ _=>aMR
theorem gL(h:QA X es fr):QN X (.List es pos) (gO fr):=(aLp h).imp fun _ _ _=>aMz lG
theorem v7(ha:QE X a fa)(hb:QE X b fb):QN X (.BinOp a .Add b pos) (wB fa fb aFy):=(t6 aKy ha hb).imp fun _ _ _=>aNt fun _ _ _ _ _=>aNX
theorem fR(h:QN X a fn):QE X a (fS fn):=PE.imp h fun _ _ _=>aHC
theorem k6(h:QN X a fn):QE X a (iG fn):=PE.imp h fun _ _ _=>aGR
section
variable {x:Str}{id:String}
theorem aDq{r:List V->Hp->VK->Prop}{g:List T->Sto->Option (T×Sto)}(hc:m9 X (.builtin id) r)(ho:∀σ H Q xs,(∃ts,trV X.K σ ts xs (g ts) H Q)->r xs H Q)(hv:bootBuiltins x=some (.builtin id))(hm:X.mg x=none)(hg:Gl X x)(ha:QA X (e::es) fr)(hn:x≠"__name__":=by decide)(dj:(x==("__debug__":Str))=false:=by decide)
 (he:starEach (e::es) X.env=(false,eval e X.env)::starEach es X.env:=by rfl)(av:(backTo pos (starEach es X.env)).any (·.1)=false:=by rfl):QE X (.Call (.Name x p) (e::es) [] pos) (mV fr g):=
 (aCl hc hg hm hv ha hn dj he av).imp fun _ _ _=>aNW ho
end
theorem lD(hm:X.mg "len"=none)(ha:QA X (e::es) fr)(hg:Gl X "len":=by rfl)(he:starEach (e::es) X.env=(false,eval e X.env)::starEach es X.env:=by rfl)(av:(backTo pos (starEach es X.env)).any (·.1)=false:=by rfl):
 QE X (.Call (.Name "len" p) (e::es) [] pos) (mV fr aFz):=aDq aAZ (fun _ _ _ _=>aNE) PySem.boot_len hm hg ha (by decide) (by decide) he av
theorem aEG(hc:X.calm=true):m9 X (.builtin "sum") (aCv X.K (fun _=>true) aQb):=aFh hc
theorem aEz(hm:X.mg "sum"=none)(hc:X.calm=true)(ha:QA X (e::es) fr)(hg:Gl X "sum":=by rfl)(he:starEach (e::es) X.env=(false,eval e X.env)::starEach es X.env:=by rfl)(av:(backTo pos (starEach es X.env)).any (·.1)=false:=by rfl):
 QE X (.Call (.Name "sum" p) (e::es) [] pos) (aHb fr):=aDq (aEG hc) (fun _ _ _ _=>aC2) boot_sum hm hg ha (by decide) (by decide) he av
theorem aLa(hm:X.mg "max"=none)(hc:X.calm=true)(ha:QA X (e::es) fr)(hg:Gl X "max":=by rfl)(he:starEach (e::es) X.env=(false,eval e X.env)::starEach es X.env:=by rfl)(av:(backTo pos (starEach es X.env)).any (·.1)=false:=by rfl):
 QE X (.Call (.Name "max" p) (e::es) [] pos) (fMaxL fr):=aDq (aFn hc) (fun _ _ _ _=>aC2) boot_max hm hg ha (by decide) (by decide) he av
theorem aCK(hm:X.mg "max"=none)(hc:X.calm=true)(ha:QA X (e::es) fr)(hg:Gl X "max":=by rfl)(he:starEach (e::es) X.env=(false,eval e X.env)::starEach es X.env:=by rfl)(av:(backTo pos (starEach es X.env)).any (·.1)=false:=by rfl):
 QE X (.Call (.Name "max" p) (e::es) [] pos) (aDC fr):=aDq (aFM hc) (fun _ _ _ _=>aNY) boot_max hm hg ha (by decide) (by decide) he av
theorem sT(hm:X.mg "min"=none)(hc:X.calm=true)(ha:QA X (e::es) fr)(hg:Gl X "min":=by rfl)(he:starEach (e::es) X.env=(false,eval e X.env)::starEach es X.env:=by rfl)(av:(backTo pos (starEach es X.env)).any (·.1)=false:=by rfl):
 QE X (.Call (.Name "min" p) (e::es) [] pos) (xL fr):=aDq (aFL hc) (fun _ _ _ _=>aNY) boot_min hm hg ha (by decide) (by decide) he av
theorem aKT(hm:X.mg "all"=none)(hc:X.calm=true)(ha:QA X (e::es) fr)(hg:Gl X "all":=by rfl)(he:starEach (e::es) X.env=(false,eval e X.env)::starEach es X.env:=by rfl)(av:(backTo pos (starEach es X.env)).any (·.1)=false:=by rfl):
 QE X (.Call (.Name "all" p) (e::es) [] pos) (aJf fr):=aDq (aFD hc) (fun _ _ _ _=>aNM) boot_all hm hg ha (by decide) (by decide) he av
theorem pL(hm:X.mg "int"=none)(ha:QA X (e::es) fr)(hg:Gl X "int":=by rfl)(he:starEach (e::es) X.env=(false,eval e X.env)::starEach es X.env:=by rfl)(av:(backTo pos (starEach es X.env)).any (·.1)=false:=by rfl):
 QE X (.Call (.Name "int" p) (e::es) [] pos) (rP fr):=(zK aE8 hg hm boot_int ha (by decide) (by decide) he av).imp fun _ _ _=>aNW fun _ _ _ _=>aMO
theorem aMo(hm:X.mg "list"=none)(ha:QA X (e::es) fr)(hg:Gl X "list":=by rfl)(he:starEach (e::es) X.env=(false,eval e X.env)::starEach es X.env:=by rfl)(av:(backTo pos (starEach es X.env)).any (·.1)=false:=by rfl):
 QN X (.Call (.Name "list" p) (e::es) [] pos) (fList fr):=(zK aAu hg hm boot_list ha (by decide) (by decide) he av).imp fun _ _ _=>aM8 fun _ _ _ _=>aMe
structure i9(P:Program)(w:World)(K:aO)(mg:Str->Option Value)(base:Heap)(k:Nat)(x:Str)(n:Nat)(F:List T->Option T):Prop where
 ex:∃f fd ps,mX P w K mg base CX0 k f fd ps (spT K n F)/\mg x=some (.ref f)/\cN K (.ref f)=true/\Binds K fd ps []
theorem fP{k n:Nat}{x:Str}{F:List T->Option T}(D:i9 X.prog X.w X.K X.mg X.base k x n F)(hr:Room k X.A)(ha:QA X (e::es) fr)(hg:Gl X x:=by rfl)(dj:(x==("__debug__":Str))=false:=by decide)
 (he:starEach (e::es) X.env=(false,eval e X.env)::starEach es X.env:=by rfl)(av:(backTo pos (starEach es X.env)).any (·.1)=false:=by rfl):QE X (.Call (.Name x p) (e::es) [] pos) (fT n F fr):=by
 obtain⟨f,fd,ps,G,hm,hk,hb⟩:=D.ex
 exact(aAi (E:=fun _ _ _=>False) G hr hg hm hk hb .nil (fun _ _ _ _ _ _ _ h=>h.elim) ha dj he av).imp fun _ _ _=>aLm
theorem hu20{k:Nat}{A:Around}(hr:Room k A):A.units+20<cLine:=by have:=hr.un;lia
theorem iX{x:Str}(hN:X.N.Nodup)(i:Nat)(hi:X.N[i]?=some x:=by rfl)(hx:Loc X.env.scope x:=by first|exact aPT rfl|exact aPL rfl)(hf:X.fn x=true\/X.env.scope.names.lookup x=some .local:=by first|exact .inl rfl|exact .inr rfl):QG X (.Name x pos) (gN i):=
 (aDu hN hi hx hf).imp fun _ _ _ _=>aAv
structure NG(X:Cx)(ts:List Expr)(is:List Nat):Prop where
 h:PGs X ts (is.foldr (fun i g=>aEf (r6 i) g) aJt)
theorem qE:NG X [] []:=⟨aKn⟩
theorem jP{x:Str}{ts:List Expr}{is:List Nat}(hN:X.N.Nodup)(i:Nat)(h:NG X ts is)(hi:X.N[i]?=some x:=by rfl)(hx:Loc X.env.scope x:=by first|exact aPT rfl|exact aPL rfl)(hf:X.fn x=true\/X.env.scope.names.lookup x=some .local:=by first|exact .inl rfl|exact .inr rfl)
 (hs:(assignEach (.Name x pos::ts) X.env).map (·.2)=assign (.Name x pos) X.env::(assignEach ts X.env).map (·.2):=by rfl):NG X (.Name x pos::ts) (i::is):=⟨aHW (aDu hN hi hx hf) h.h hs⟩
theorem aNQ{K:aO}{is:List Nat}{v:V}{σ:L2.St}{H:Hp}{Q:L2.St->Hp->Prop}(h:trG K (gU is) v σ H Q):gLst K is.length (is.foldr (fun i g=>aEf (r6 i) g) aJt) v σ H Q:=by
 obtain⟨H₀,Z,ρ,τ,C,t,ag,R,r,e,k⟩:=h;unfold gU at e;obtain⟨ts,e1,e⟩:=aK.mp e;split at e
 ·rename_i hl;cases e;obtain⟨a,vs,ea,qa,ra⟩:=R.sq r e1
  exact⟨a,vs,ea,qa,by rw[ra.length];exact hl,Rel.setAll R ra hl k⟩
 ·cases e
theorem qF{ts:List Expr}{is:List Nat}{k:Nat}(hc:X.calm=true)(h:NG X ts is)(hn:(assignEach ts X.env).length=is.length:=by rfl)(bi:(assignEach ts X.env).findIdx? (·.1)=none:=by rfl):QG X (.Tuple ts k pos) (gU is):=
 (aMp hc h.h hn bi).imp fun _ _ _ _=>aNQ
theorem cok(own fr:List Str)(is:List Nat){scope:Scope}{cl:List (Str×Addr)}(h1:o9 X.env.cells scope.names []=some cl:=by with_unfolding_all rfl)(h2:∀y∈scope.names,y.2≠ .cell:=by decide+kernel)(h3:scope.kind=.function:=by rfl)
 (h4:∀y∈scope.names,y.2=.local->scope.names.lookup y.1=some .local:=by decide+kernel)(h5:is.map (fun i=>X.N[i]?)=fr.map some:=by rfl)
 (h6:fr.all (fun x=>X.env.kindOf x==some .cell||X.env.kindOf x==some .free)=true:=by rfl)(h7:fr.all (fun x=>(relabel scope X.env).names.lookup x==some .cell||(relabel scope X.env).names.lookup x==some .free)=true:=by rfl):lJ X own fr is scope cl:=
 ⟨h1,h2,h3,h4,h5,h6,h7⟩
theorem gY:QTs X [] gP:=aI3.imp fun σ H Q h=>by
 obtain⟨H₀,Z,ρ,τ,C,b,C',R,e,k⟩:=h;cases e
 exact k H ρ R .refl
theorem aA8(h:QT X c ga):QTs X [c] ga:=aIP h
section
variable {own frs:List Str}{is:List Nat}{scope:Scope}{cl:List (Str×Addr)}{tg iter bd:Expr}{ifs:List Expr}{fi fe:FE}{g:FG}{gt:FB}{bv aq:Pos}{x:Str}
variable{W:XW}{te:TE}{i:Nat}{σ:L2.St}
theorem kG(hc:X.calm=true)(k:lJ X own frs is scope cl)(hi:QE X iter fi)(ho:Own own.length g)(hg:∀C s3 H3 fp,QG (gD X (own++frs) scope cl C s3 H3 fp) tg g)(ht:∀C s3 H3 fp,QTs (gD X (own++frs) scope cl C s3 H3 fp) ifs gt)
 (he:∀C s3 H3 fp,QE (gD X (own++frs) scope cl C s3 H3 fp) bd fe)(hs:∀x,foldedSetIterable iter X.env x=pure x:=by intro _;rfl):QN X (.ListComp bd [⟨tg,iter,ifs,0⟩] scope pos) (jE fi own.length is g gt fe):=
 (uV hc k (u8 hi) hg ht he hs).imp fun _ _ _=>aDa ho
theorem aH1(hm:X.mg "range"=none)(hc:X.calm=true)(k:lJ X own frs is scope cl)(hi:QE X iter fi)(ho:Own own.length g)(hg:∀C s3 H3 fp,QG (gD X (own++frs) scope cl C s3 H3 fp) tg g)(ht:∀C s3 H3 fp,QTs (gD X (own++frs) scope cl C s3 H3 fp) ifs gt)
 (he:∀C s3 H3 fp,QE (gD X (own++frs) scope cl C s3 H3 fp) bd fe)(cg:Gl X "range":=by rfl)(hs:∀x,foldedSetIterable (.Call (.Name "range" p) [iter] [] p2) X.env x=pure x:=by intro _;rfl)(bi:starEach [iter] X.env=[(false,eval iter X.env)]:=by rfl):
 QN X (.ListComp bd [⟨tg,.Call (.Name "range" p) [iter] [] p2,ifs,0⟩] scope pos) (jL fi own.length is g gt fe):=
 (uV hc k (pR cg hm (eT hi eY (by rw[bi];rfl)) bi) hg ht he hs).imp fun _ _ _=>wD ho
theorem asgT{K:aO}{fn:FN}{D:Ends}{H:Hp}(hi:∀σ H Q,trN K fn σ H Q->te σ H Q)(h:trS K W (fU (fS fn) (gN i)) D σ H):aDd te (r6 i) D σ H:=
 hi _ _ _ (aHC (iD (aEa h) fun _ _ q=>aAv q))
theorem asgC{K:aO}{fn:FN}{D:Ends}{H:Hp}(hi:∀σ H Q,trN K fn σ H Q->te σ H Q)(h:trS K W (fU (iG fn) (gN i)) D σ H):aDd te (r6 i) D σ H:=
 hi _ _ _ (aGR (iD (aEa h) fun _ _ q=>aAv q))
theorem aAe(hN:X.N.Nodup)(i:Nat)(hc:X.calm=true)(k:lJ X own frs is scope cl)(hi:QE X iter fi)(ho:Own own.length g)(hg:∀C s3 H3 fp,QG (gD X (own++frs) scope cl C s3 H3 fp) tg g)(ht:∀C s3 H3 fp,QTs (gD X (own++frs) scope cl C s3 H3 fp) ifs gt)
 (he:∀C s3 H3 fp,QE (gD X (own++frs) scope cl C s3 H3 fp) bd fe)(hx:X.N[i]?=some x:=by rfl)(hl:X.env.scope.names.lookup x=some .local:=by rfl)
 (ig:swapsWith (.ListComp bd [⟨tg,iter,ifs,0⟩] scope pos) (some (.Name x aq)) bv.line X.env=pure true:=by rfl)(hs:∀x,foldedSetIterable iter X.env x=pure x:=by intro _;rfl):
 QS X (.Assign [.Name x aq] (.ListComp bd [⟨tg,iter,ifs,0⟩] scope pos) bv) (fU (fS (jE fi own.length is g gt fe)) (gN i)):=
 (oI hN hx hl hc k (u8 hi) hg ht he ig hs).imp fun _ _ _=>asgT fun _ _ _=>aDa ho
theorem aJG(hN:X.N.Nodup)(i:Nat)(hc:X.calm=true)(k:lJ X own frs is scope cl)(hi:QE X iter fi)(ho:Own own.length g)(hg:∀C s3 H3 fp,QG (gD X (own++frs) scope cl C s3 H3 fp) tg g)(ht:∀C s3 H3 fp,QTs (gD X (own++frs) scope cl C s3 H3 fp) ifs gt)
 (he:∀C s3 H3 fp,QE (gD X (own++frs) scope cl C s3 H3 fp) bd fe)(hx:X.N[i]?=some x:=by rfl)(hl:X.env.scope.names.lookup x=some .local:=by rfl)
 (ig:swapsWith (.ListComp bd [⟨tg,iter,ifs,0⟩] scope pos) (some (.Name x aq)) bv.line X.env=pure true:=by rfl)(hs:∀x,foldedSetIterable iter X.env x=pure x:=by intro _;rfl):
 QS X (.Assign [.Name x aq] (.ListComp bd [⟨tg,iter,ifs,0⟩] scope pos) bv) (fU (iG (jE fi own.length is g gt fe)) (gN i)):=
 (oI hN hx hl hc k (u8 hi) hg ht he ig hs).imp fun _ _ _=>asgC fun _ _ _=>aDa ho
theorem aFm(hN:X.N.Nodup)(i:Nat)(hm:X.mg "range"=none)(hc:X.calm=true)(k:lJ X own frs is scope cl)(hi:QE X iter fi)(ho:Own own.length g)(hg:∀C s3 H3 fp,QG (gD X (own++frs) scope cl C s3 H3 fp) tg g)(ht:∀C s3 H3 fp,QTs (gD X (own++frs) scope cl C s3 H3 fp) ifs gt)
 (he:∀C s3 H3 fp,QE (gD X (own++frs) scope cl C s3 H3 fp) bd fe)(cg:Gl X "range":=by rfl)(hx:X.N[i]?=some x:=by rfl)(hl:X.env.scope.names.lookup x=some .local:=by rfl)
 (ig:swapsWith (.ListComp bd [⟨tg,.Call (.Name "range" p) [iter] [] p2,ifs,0⟩] scope pos) (some (.Name x aq)) bv.line X.env=pure true:=by rfl)(hs:∀x,foldedSetIterable (.Call (.Name "range" p) [iter] [] p2) X.env x=pure x:=by intro _;rfl)(bi:starEach [iter] X.env=[(false,eval iter X.env)]:=by rfl):
 QS X (.Assign [.Name x aq] (.ListComp bd [⟨tg,.Call (.Name "range" p) [iter] [] p2,ifs,0⟩] scope pos) bv) (fU (fS (jL fi own.length is g gt fe)) (gN i)):=
 (oI hN hx hl hc k (pR cg hm (eT hi eY (by rw[bi];rfl)) bi) hg ht he ig hs).imp fun _ _ _=>asgT fun _ _ _=>wD ho
theorem nU(hN:X.N.Nodup)(i:Nat)(hm:X.mg "range"=none)(hc:X.calm=true)(k:lJ X own frs is scope cl)(hi:QE X iter fi)(ho:Own own.length g)(hg:∀C s3 H3 fp,QG (gD X (own++frs) scope cl C s3 H3 fp) tg g)(ht:∀C s3 H3 fp,QTs (gD X (own++frs) scope cl C s3 H3 fp) ifs gt)
 (he:∀C s3 H3 fp,QE (gD X (own++frs) scope cl C s3 H3 fp) bd fe)(cg:Gl X "range":=by rfl)(hx:X.N[i]?=some x:=by rfl)(hl:X.env.scope.names.lookup x=some .local:=by rfl)
 (ig:swapsWith (.ListComp bd [⟨tg,.Call (.Name "range" p) [iter] [] p2,ifs,0⟩] scope pos) (some (.Name x aq)) bv.line X.env=pure true:=by rfl)(hs:∀x,foldedSetIterable (.Call (.Name "range" p) [iter] [] p2) X.env x=pure x:=by intro _;rfl)(bi:starEach [iter] X.env=[(false,eval iter X.env)]:=by rfl):
 QS X (.Assign [.Name x aq] (.ListComp bd [⟨tg,.Call (.Name "range" p) [iter] [] p2,ifs,0⟩] scope pos) bv) (fU (iG (jL fi own.length is g gt fe)) (gN i)):=
 (oI hN hx hl hc k (pR cg hm (eT hi eY (by rw[bi];rfl)) bi) hg ht he ig hs).imp fun _ _ _=>asgC fun _ _ _=>wD ho
end
section
variable {st:Stmt}{da qh:List Stmt}{F G:FS}{tg iter:Expr}{g:FG}
variable{al ak:Pos}
theorem iY:QSs X [] jJ:=aJ4.imp fun _ _ _=>aHZ
theorem fD(h:QS X st F):QSs X [st] F:=aKz h
theorem eX(h:QS X st F)(h2:QSs X da G):QSs X (st::da) (fJ F G):=(aH6 h h2).imp fun _ _ _=>aNa
theorem aIH:QS X (.Pass pos) jJ:=aJA.imp fun _ _ _=>aHZ
theorem aBv:QS X st aAK:=fun _ _ _ _ _ _ h=>(aJB h).elim
theorem fV(h:QE X a fa):QS X (.Return (some a) pos) (hV fa):=(aLA h).imp fun _ _ _=>aNx
theorem nB(h:QE X a fa)(hs:swapsWith a none pos.line X.env=pure false:=by rfl):QS X (.Expr a pos) (mT fa):=(aAC h hs).imp fun _ _ _=>aMx
theorem kZ(hc:QT X c ga)(ha:QSs X da F)(hb:QSs X qh G):QS X (.If c da qh pos) (fIf ga F G):=(aNn hc ha hb).imp fun _ _ _=>aOb
theorem fK{x:Str}{aq:Pos}(hN:X.N.Nodup)(i:Nat)(h:QE X a fa)(hi:X.N[i]?=some x:=by rfl)(hx:Loc X.env.scope x:=by first|exact aPT rfl|exact aPL rfl)(hs:swapsWith a (some (.Name x aq)) pos.line X.env=pure false:=by rfl)
 (hf:X.fn x=true\/X.env.scope.names.lookup x=some .local:=by first|exact .inl rfl|exact .inr rfl):QS X (.Assign [.Name x aq] a pos) (fU fa (gN i)):=(aMf hN hi hx h hs hf).imp fun _ _ _ h=>iD (aEa h) fun _ _ q=>aAv q
theorem aLH(h:QE X a fa)(hg:QG X tg g)(hs:swapsWithSole [tg] a pos.line X.env=pure false:=by rfl)(hw:swappedStores [tg] a X.env=pure none:=by rfl)(h1:(assignEach [tg] X.env).map (·.2)=[assign tg X.env]:=by rfl):QS X (.Assign [tg] a pos) (fU fa g):=
 (aGu h hg hs hw h1).imp fun _ _ _=>aEa
theorem pO(hv:QE X a fa)(ho:QE X b fb)(hi:QE X c fc)(hs:swapsWithSole [.Subscript b c p] a pos.line X.env=pure false:=by rfl)(hw:swappedStores [.Subscript b c p] a X.env=pure none:=by rfl)
 (h1:(assignEach [.Subscript b c p] X.env).map (·.2)=[assign (.Subscript b c p) X.env]:=by rfl)
 (ha:∀v,assign (.Subscript b c p) X.env v=(do
  let ov<-holding [v] (eval b X.env)
  let iv<-holding [v,ov] (eval c X.env)
  standAt p
  holding [v,ov,iv] (setItem ov iv v)
  release [v,ov,iv] []):=by intro _;rfl):QS X (.Assign [.Subscript b c p] a pos) (pH fa fb fc):=
 (aGu hv (aMY ho hi aCr ha) hs hw h1).imp fun _ _ _=>aLd
theorem kF(hc:X.calm=true)(hi:QE X iter fa)(hg:QG X tg g)(hb:QSs X da F)(hp:PassesOwn (model X.prog X.w) X.A X.env X.xe:=by first|exact PassesOwn.never|exact PassesOwn.leaving|exact PassesOwn.looking)(hs:∀x,foldedSetIterable iter X.env x=pure x:=by intro _;rfl):QS X (.For tg iter da [] pos) (mU fa g F):=
 (aA4 hp hc (u8 hi) hg hb hs).imp fun _ _ _=>aNP
theorem lW(hm:X.mg "range"=none)(hc:X.calm=true)(hi:QE X iter fa)(hg:QG X tg g)(hb:QSs X da F)(hp:PassesOwn (model X.prog X.w) X.A X.env X.xe:=by first|exact PassesOwn.never|exact PassesOwn.leaving|exact PassesOwn.looking)(cg:Gl X "range":=by rfl)
 (hs:∀x,foldedSetIterable (.Call (.Name "range" p) [iter] [] p2) X.env x=pure x:=by intro _;rfl)(bi:starEach [iter] X.env=[(false,eval iter X.env)]:=by rfl):QS X (.For tg (.Call (.Name "range" p) [iter] [] p2) da [] pos) (kR fa g F):=
 (aA4 hp hc (pR cg hm (eT hi eY (by rw[bi];rfl)) bi) hg hb hs).imp fun _ _ _=>aJk
theorem aCq(hm:X.mg "range"=none)(hc:X.calm=true)(h1:QE X a fa)(h2:QE X b fb)(hg:QG X tg g)(hb:QSs X da F)(hp:PassesOwn (model X.prog X.w) X.A X.env X.xe:=by first|exact PassesOwn.never|exact PassesOwn.leaving|exact PassesOwn.looking)(cg:Gl X "range":=by rfl)
 (hs:∀x,foldedSetIterable (.Call (.Name "range" p) [a,b] [] p2) X.env x=pure x:=by intro _;rfl)(bi:starEach [a,b] X.env=[(false,eval a X.env),(false,eval b X.env)]:=by rfl)(fu:starEach [b] X.env=[(false,eval b X.env)]:=by rfl):QS X (.For tg (.Call (.Name "range" p) [a,b] [] p2) da [] pos) (qS fa fb g F):=
 (aA4 hp hc (aEN cg hm (eT h1 (eT h2 eY (by rw[fu];rfl)) (by rw[bi,fu])) bi fu) hg hb hs).imp fun _ _ _=>aJV
theorem nY(n:Nat)(hc:QT X c ga)(hb:QSs X da F)(hp:PassesOwn (model X.prog X.w) X.A X.env X.xe:=by first|exact PassesOwn.never|exact PassesOwn.leaving|exact PassesOwn.looking):QS X (.While c da [] pos) (lH ga F n):=(aFU hp hc hb).imp fun _ _ _=>aJJ
theorem n9(ho:QE X a fa)(ha:QA X (e::es) fr)(hs:swapsWith (.Call (.Attribute a "append" al) (e::es) [] ak) none pos.line X.env=pure false:=by rfl)(dn:attributeBase a "append" X.env (eval a X.env)=eval a X.env:=by rfl)
 (iw:((backTo ak (starEach (e::es) X.env)).all (fun x=> !x.1)&&(backToKw ak (keywordEach [] X.env)).all (fun x=>x.1.isSome)
  &&decide ((e::es).length+([]:List Keyword).length+(if([]:List Keyword).isEmpty then 0 else 1)<30))=true:=by rfl)
 (dh:(al.endLine==ak.line)=true:=by rfl)(bi:starEach (e::es) X.env=(false,eval e X.env)::starEach es X.env:=by rfl)(ca:(backTo ak (starEach es X.env)).any (·.1)=false:=by rfl):
 QS X (.Expr (.Call (.Attribute a "append" al) (e::es) [] ak) pos) (uR fa fr):=
 (aAC (aKF PySem.F.plainAttrs_list PySem.F.slot_list_append PySem.F.type_list_append aL9 ho ha dn iw dh bi ca) hs).imp fun _ _ _=>aKO aMg
theorem aAF(ho:QE X a fa)(ha:QA X (e::es) fr)(hs:swapsWith (.Call (.Attribute a "insert" al) (e::es) [] ak) none pos.line X.env=pure false:=by rfl)(dn:attributeBase a "insert" X.env (eval a X.env)=eval a X.env:=by rfl)
 (iw:((backTo ak (starEach (e::es) X.env)).all (fun x=> !x.1)&&(backToKw ak (keywordEach [] X.env)).all (fun x=>x.1.isSome)
  &&decide ((e::es).length+([]:List Keyword).length+(if([]:List Keyword).isEmpty then 0 else 1)<30))=true:=by rfl)
 (dh:(al.endLine==ak.line)=true:=by rfl)(bi:starEach (e::es) X.env=(false,eval e X.env)::starEach es X.env:=by rfl)(ca:(backTo ak (starEach es X.env)).any (·.1)=false:=by rfl):
 QS X (.Expr (.Call (.Attribute a "insert" al) (e::es) [] ak) pos) (aIk fa fr):=
 (aAC (aKF PySem.F.plainAttrs_list PySem.F.slot_list_insert PySem.F.type_list_insert aMS ho ha dn iw dh bi ca) hs).imp fun _ _ _=>aKO aLu
end
end
section
variable {X:Cx}{aa:List (Addr×Obj)}{σ:L2.St}{H:Hp}{s:Shared}
variable{ch:List Addr}{h':Heap}{t':Nat}
theorem aBR{p:Addr}{o:HO}(I:Inv X aa σ H s)(br:∀b∈ch,tT X aa H b)(k:∀b ob,b∉ch->s.heap.get? b=some ob->h'.get? b=some ob)(hp:s.heap.objs.size<=p)
 (new:jK X.prog X.w (upd H p o) h' p o):Inv X aa σ (upd H p o) {s with heap:=h',toks:=t'}:=by
 have hn:H p=none:=I.hok.fresh hp;have ne:∀b u,H b=some u->b≠p:=fun b u e z=>by rw[z,hn]at e;cases e
 have ik:∀b u,H b=some u->b∉ch:=fun b u e z=>by rw[(br b z).1]at e;cases e
 refine I.step (g':=s.gens) (d':=s.drawn) (ch:=ch) (fun b hb=>⟨(br b hb).2.2.2.1,(br b hb).2.1,(br b hb).2.2.2.2.1,(br b hb).2.2.2.2.2⟩) (fun b o _ _ hc e _=>k b o hc e) (fun b o _ _ hc e _=>⟨o.slots,k b o hc e⟩)
  (fun b ob _ e n=>by rw[fG (bV (bP (Heap.lt_size e) hp))];exact n) (fun b ob hc e=>⟨ob,k b ob hc e⟩)
  (fun b xs e=>by rw[fG (ne _ _ e)];exact e) (fun b ob u e=>by rw[fG (ne _ _ e)];exact e) (fun b ps e=>⟨#[],by rw[fG (ne _ _ e),e];simp⟩) (fun m hm=>?_) (fun b u e=>?_) I.bare
 ·obtain⟨ob,es,ep,ho,r⟩:=hm
  exact⟨ob,es,ep,k _ ob (fun z=>(br _ z).2.1 rfl) ho,r⟩
 ·by_cases hb:b=p
  ·subst hb;rw[iP]at e;cases e
   exact new
  ·rw[fG hb]at e
   refine(I.hok b u e).stay (fun c v hc q=>k c v ?_ q) (fun c q=>by rw[fG (ne _ _ q)];exact q) fun c xs q=>by rw[fG (ne _ _ q)];exact q
   rcases hc with z|z
   ·rw[z];exact ik b u e
   ·exact ik c _ z
theorem zR(I:Inv X aa σ H s)(br:∀b∈ch,tT X aa H b)(k:∀b ob,b∉ch->s.heap.get? b=some ob->h'.get? b=some ob):Inv X aa σ H {s with heap:=h',toks:=t'}:=by
 have ik:∀b u,H b=some u->b∉ch:=fun b u e z=>by rw[(br b z).1]at e;cases e
 refine I.step (g':=s.gens) (d':=s.drawn) (ch:=ch) (fun b hb=>⟨(br b hb).2.2.2.1,(br b hb).2.1,(br b hb).2.2.2.2.1,(br b hb).2.2.2.2.2⟩) (fun b o _ _ hc e _=>k b o hc e) (fun b o _ _ hc e _=>⟨o.slots,k b o hc e⟩)
  (fun b ob _ e n=>n) (fun b ob hc e=>⟨ob,k b ob hc e⟩) (fun b xs e=>e) (fun b ob u e=>e) (fun b ps e=>⟨#[],by rw[e];simp⟩) (fun m hm=>?_) (fun b u e=>?_) I.bare
 ·obtain⟨ob,es,ep,ho,r⟩:=hm
  exact⟨ob,es,ep,k _ ob (fun z=>(br _ z).2.1 rfl) ho,r⟩
 ·refine(I.hok b u e).stay (fun c v hc q=>k c v ?_ q) (fun c q=>q) fun c xs q=>q
  rcases hc with z|z
  ·rw[z];exact ik b u e
  ·exact ik c _ z
end
theorem aHa{P:Program}{w:World}{K:aO}{ts:List Expr}{k:Nat}{pos:Pos}(z TI TO i1 i2 l1 l2:Addr)(D:ZipApart z TI TO i1 i2 l1 l2):
 Turn P w K (.Tuple ts k pos) (Itz K l1 l2) [z,TI,TO,i1,i2] z (fun i h=>IsZip h z TI TO .none/\IsPair h TI (.ref i1) (.ref i2)/\(∃a b,IsPair h TO a b)/\h.IsListIter i1 l1 i/\h.IsListIter i2 l2 i) where
 mem:=by simp
 obj:=fun i h st b hb=>by
  obtain⟨hz,ja,⟨a,b',jj⟩,⟨o1,e1,c1,d1⟩,⟨o2,e2,c2,d2⟩⟩:=st;simp only[bE,cA,or_false]at hb;rcases hb with rfl|rfl|rfl|rfl|rfl
  ·exact⟨_,hz,fun v z=>by simp at z⟩
  ·exact⟨_,ja,fun v z=>by simp at z⟩
  ·exact⟨_,jj,fun v z=>by simp at z⟩
  ·exact⟨o1,e1,fun v z=>by rw[d1]at z;cases z⟩
  ·exact⟨o2,e2,fun v z=>by rw[d2]at z;cases z⟩
 keep:=fun i h h' st kk=>by
  obtain⟨hz,ja,⟨a,b',jj⟩,h1,h2⟩:=st
  exact⟨kk z (by simp) _ hz,kk TI (by simp) _ ja,⟨a,b',kk TO (by simp) _ jj⟩,h1.at fun o e=>kk i1 (by simp) o e,h2.at fun o e=>kk i2 (by simp) o e⟩
 item:=by
  intro X hP hw hK hc i aa s σ H E I hf st hg;subst hP hw hK;obtain⟨hz,ja,⟨a,b',jj⟩,h1,h2⟩:=st;obtain⟨xs,ys,x,y,q1,q2,g1,g2⟩:=hg;obtain⟨its,rv,p1,z1⟩:=I.list q1;obtain⟨gw,ni,p2,z2⟩:=I.list q2;obtain⟨u,hu,ru⟩:=rv.get g1;obtain⟨u2,qz,lm⟩:=ni.get g2
  refine wpAny_pyNext_zip_item D hz ja jj h1 h2 p1.isList p2.isList (x:=u) (y:=u2) (by simpa using hu) (by simpa using qz) fun h' a1 a2 a3 a4 a5 a6 hk=>?_
  refine⟨_,rfl,wpAny_letOwnedTupleGo_zip (s:={s with heap:=h'}) a1 fun jz xl ce=>?_⟩
  have zlt:z≠s.heap.objs.size:=bV (Heap.lt_size hz);have kk:∀b ob,b∉[z,TI,TO,i1,i2]->s.heap.get? b=some ob->jz.get? b=some ob:=fun b ob hb e=>by
   simp only[bE,cA,or_false,not_or]at hb
   exact(ce.2 b hb.1).trans (hk b ob hb.1 hb.2.2.1 hb.2.2.2.1 hb.2.2.2.2 e)
  have hT:jz.get? s.heap.objs.size=some {cls:=.type "tuple",data:=.seq #[u,u2]}:=(ce.2 _ (Ne.symm zlt)).trans a5;have I1:Inv X aa σ (upd H s.heap.objs.size (.tup [x,y])) {s with heap:=jz,toks:=s.toks}:=aBR I hf kk (bG _)
   (show jK X.prog X.w _ jz _ (.tup [x,y])from⟨by show 2<=sizeLine;decide,[u,u2],.cons ru (.cons lm .nil),⟨_,hT,rfl,_,rfl⟩⟩)
  have hn:H s.heap.objs.size=none:=I.fresh
  refine⟨.ref s.heap.objs.size,_,I1,rfl,⟨_,x,y,hn,rfl,rfl,fun zs hz=>by rw[I.list_inj hz q1];exact g1,fun zs hz=>by rw[I.list_inj hz q2];exact g2⟩,?_,fun b hb=>?_⟩
  ·refine⟨xl,(ce.2 _ D.TIz).trans (hk _ _ D.TIz D.TITO D.TIi1 D.TIi2 ja),⟨u,u2,(ce.2 _ D.TOz).trans a2⟩,a3.at fun o e=>(ce.2 _ D.i1z).trans e,a4.at fun o e=>(ce.2 _ D.i2z).trans e⟩
  ·have ua:=(hf b hb).1;rw[fG]
   ·exact ua
   ·rintro rfl;have:∃o,s.heap.get? s.heap.objs.size=some o:=by
     simp only[bE,cA,or_false]at hb;obtain⟨o1,e1,_⟩:=h1;obtain⟨o2,e2,_⟩:=h2;rcases hb with h|h|h|h|h
     ·rw[h];exact⟨_,hz⟩
     ·rw[h];exact⟨_,ja⟩
     ·rw[h];exact⟨_,jj⟩
     ·rw[h];exact⟨_,e1⟩
     ·rw[h];exact⟨_,e2⟩
    obtain⟨o,e⟩:=this
    exact absurd (Heap.lt_size e) (cU _)
 done:=by
  intro X hP hw hK hc i aa s σ H E I hf st hg;subst hP hw hK;obtain⟨hz,ja,⟨a,b',jj⟩,h1,h2⟩:=st;obtain⟨xs,ys,q1,q2,tu⟩:=hg;obtain⟨its,rv,p1,z1⟩:=I.list q1;obtain⟨gw,ni,p2,z2⟩:=I.list q2;have l1:=rv.length;have l2:=ni.length
  refine wpAny_pyNext_zip_end (I.ok.hd hc) D hz ja jj h1 h2 p1.isList p2.isList ?_ fun h' hk=>⟨rfl,zR (t':=s.toks) I hf fun b ob hb e=>?_⟩
  ·rcases tu with h|h
   ·exact .inl (by simp at h|-;lia)
   ·exact .inr (by simp at h|-;lia)
  ·simp only[bE,cA,or_false,not_or]at hb
   exact hk b ob hb.1 hb.2.2.1 hb.2.2.2.1 hb.2.2.2.2 e
 self:=fun _ _ _ _ _ st h=>wpAny_pyIter_zip st.1 h
section
variable {X:Cx}{a b e:Expr}{es:List Expr}{fa fb:FE}{fr:FN}{pos p p2:Pos}
theorem aMQ{ts:List Expr}{k:Nat}{aw:Pos}{ta:TA}(hg:Gl X "zip")(hm:X.mg "zip"=none)(ha:PA X [a,b] ta)(hs:starEach [a,b] X.env=[(false,eval a X.env),(false,eval b X.env)]:=by rfl)(kn:starEach [b] X.env=[(false,eval b X.env)]:=by rfl):
 PI X (.Tuple ts k aw) (.Call (.Name "zip" p) [a,b] [] pos) (iZip X.K ta):=by
 intro aa s σ H R I h
 refine Call_ (oZ I hg hm boot_zip (dE (thn (ha pos aa s σ H _ I h) fun us s1 ⟨vs,H1,I1,r1,q1⟩=>?_) (by rw[hs,kn]) (by rw[kn];rfl)))
 obtain⟨l1,l2,e,⟨xs,qx⟩,⟨ys,qy⟩,q⟩:=q1;subst e;obtain⟨u,u2,rfl,ru,lm⟩:=r1.two;cases ru;cases lm;obtain⟨its,rv,p1,z1⟩:=I1.list qx;obtain⟨gw,ni,p2,z2⟩:=I1.list qy;have a1:l1<s1.heap.objs.size:=p1.lt;have a2:l2<s1.heap.objs.size:=p2.lt
 refine call_zip_2 p1.isList p2.isList fun h' hz ja jj hi1 yp hsz hk=>wpAny_pyIter_zip hz ?_
 have I2:Inv X aa σ H1 {s1 with heap:=h'}:=I1.kept (t':=s1.toks) hk
 refine⟨s1.heap.objs.size+4,[s1.heap.objs.size+4,s1.heap.objs.size+2,s1.heap.objs.size+3,s1.heap.objs.size,s1.heap.objs.size+1],_,_,H1,rfl,I2,aHa _ _ _ _ _ l1 l2 (zipApart_new a1 a2),⟨hz,ja,⟨_,_,jj⟩,hi1,yp⟩,fun b hb=>?_,q⟩
 have hle:s1.heap.objs.size<=b:=by
  simp only[bE,cA,or_false]at hb;rcases hb with rfl|rfl|rfl|rfl|rfl
  ·exact aOg _ _
  ·exact aOg _ _
  ·exact aOg _ _
  ·exact bG _
  ·exact aOg _ _
 exact I1.fpOk hle (I1.hok.fresh hle)
section
variable {own frs:List Str}{is:List Nat}{scope:Scope}{cl:List (Str×Addr)}{ts:List Expr}{tk:Nat}{aw:Pos}{bd:Expr}{ifs:List Expr}{fe:FE}{g:FG}{gt:FB}
theorem aEx(hm:X.mg "zip"=none)(hc:X.calm=true)(k:lJ X own frs is scope cl)(h1:QE X a fa)(h2:QE X b fb)(ho:Own own.length g)(hg:∀C s3 H3 fp,QG (gD X (own++frs) scope cl C s3 H3 fp) (.Tuple ts tk aw) g)(ht:∀C s3 H3 fp,QTs (gD X (own++frs) scope cl C s3 H3 fp) ifs gt)
 (he:∀C s3 H3 fp,QE (gD X (own++frs) scope cl C s3 H3 fp) bd fe)(cg:Gl X "zip":=by rfl)(hs:∀x,foldedSetIterable (.Call (.Name "zip" p) [a,b] [] p2) X.env x=pure x:=by intro _;rfl)
 (bi:starEach [a,b] X.env=[(false,eval a X.env),(false,eval b X.env)]:=by rfl)(fu:starEach [b] X.env=[(false,eval b X.env)]:=by rfl):
 QN X (.ListComp bd [⟨.Tuple ts tk aw,.Call (.Name "zip" p) [a,b] [] p2,ifs,0⟩] scope pos) (qP fa fb own.length is g gt fe):=
 (uV hc k (aMQ cg hm (eT h1 (eT h2 eY (by rw[fu];rfl)) (by rw[bi,fu])) bi fu) hg ht he hs).imp fun _ _ _=>aJe ho
end
variable{c:String}
def IsiV(K:aO)(H:Hp)(x:V)(c:String)(b:Bool):Prop:=match x with
 | .non=>cX K (.type "NoneType") (.type c)=some b
 | .bl _=>cX K (.type "bool") (.type c)=some b
 | .int _=>cX K (.type "int") (.type c)=some b
 | .str _=>cX K (.type "str") (.type c)=some b
 | .ref a=>((∃xs,SqL K H a xs)/\cX K (.type "list") (.type c)=some b)\/((∃xs,SqT K H a xs)/\cX K (.type "tuple") (.type c)=some b)
 |_=>False
theorem aHp:m9 X (.builtin "isinstance") (fun xs H Q=>∃x c b,xs=[x,.ty c]/\IsiV X.K H x c b/\Q (.bl b) H):=by
 intro aa s σ H xs us Q I r h;obtain⟨x,c,b,rfl,hi,q⟩:=h;obtain⟨u,u2,rfl,ru,lm⟩:=r.two;cases lm;have fin:∀tk,EP X aa σ Q (.bool b) {s with toks:=tk}:=fun tk=>⟨.bl b,H,I.tok tk,rfl,q⟩
 cases x with
 |non=>cases ru;exact eL PySem.W.kitx_none I.kIn True.intro hi (fun z=>nomatch z) fin
 |bl y=>cases ru;exact eL PySem.W.kitx_bool I.kIn True.intro hi (fun z=>nomatch z) fin
 |int i=>obtain⟨t,q⟩:=ru;cases q;exact eL PySem.W.kitx_int I.kIn True.intro hi (fun z=>nomatch z) fin
 |str y=>obtain⟨t,q⟩:=ru;cases q;exact eL PySem.W.kitx_str I.kIn True.intro hi (fun z=>nomatch z) fin
 |ref a=>
  cases ru;rcases hi with⟨⟨xs,hq⟩,hi⟩| ⟨⟨xs,hq⟩,hi⟩
  ·obtain⟨its,_,⟨o,n,e,c,_⟩,_⟩:=I.list hq
   exact eL PySem.W.kitx_list I.kIn ⟨o,e,c⟩ hi (fun z=>nomatch z) fin
  ·obtain⟨its,_,⟨o,e,c,_⟩,_⟩:=I.tuple hq
   exact eL PySem.W.kitx_tuple I.kIn ⟨o,e,c⟩ hi (fun z=>nomatch z) fin
 |_=>exact False.elim hi
def aDD(c:String):Prop:=∀(K:aO),cX K (.type "NoneType") (.type c)=some (c=="NoneType")/\cX K (.type "bool") (.type c)=some (c=="bool"||c=="int")/\cX K (.type "int") (.type c)=some (c=="int")/\
 cX K (.type "str") (.type c)=some (c=="str")/\cX K (.type "list") (.type c)=some (c=="list")/\cX K (.type "tuple") (.type c)=some (c=="tuple")
theorem aIB:aDD "int":=fun K=>⟨rfl,rfl,rfl,rfl,rfl,rfl⟩
theorem aHt:aDD "bool":=fun K=>⟨rfl,rfl,rfl,rfl,rfl,rfl⟩
theorem aNm{K:aO}{σ:L2.St}{H:Hp}{Q:VK}(hc:aDD c)(h:trE K (aCk c fa) σ H Q):trE K fa σ H fun x H1=>∃b,IsiV K H1 x c b/\Q (.bl b) H1:=by
 obtain⟨h1,h2,h3,h4,h5,h6⟩:=hc K
 refine iD (aMA h) fun x H1 q=>?_
 obtain⟨t0,H₀,Z,ρ,τ,C,t,C',R,r,e,k⟩:=q;obtain⟨_,_,z,r1,r⟩:=r.cons_inv;cases z;obtain⟨b,e1,e⟩:=aL.mp e;cases e
 refine⟨b,?_,k _ H1 ρ R .bl .refl⟩
 cases t0 with
 |non=>rw[r1.non_inv];exact h1.trans e1
 |bl y=>rw[r1.bl_inv];exact h2.trans e1
 |int i=>rw[r1.int_inv];exact h3.trans e1
 |str y=>
  unfold RT at r1;rw[r1];exact h4.trans e1
 |exc y=>cases e1
 |lst ts=>
  obtain⟨a,vs,ea,qa,ra⟩:=R.li r1 rfl;rw[ea];exact .inl ⟨⟨vs,qa⟩,h5.trans e1⟩
 |tup ts=>
  unfold RT at r1;obtain⟨a,vs,ea,qa,ra⟩:=r1;rw[ea];exact .inr ⟨⟨vs,SqT.msk (.of qa)⟩,h6.trans e1⟩
 |cell c=>cases e1
theorem aKK{x:Str}(hc:aDD c)(hm:X.mg "isinstance"=none)(sk:X.mg x=none)(hv:bootBuiltins x=some (.type c))(ha:QE X a fa)(hg:Gl X "isinstance":=by rfl)(tq:Gl X x:=by rfl)(hn:x≠"__name__":=by decide)(hd:(x==("__debug__":Str))=false:=by decide)
 (h1:starEach [a,.Name x p2] X.env=(false,eval a X.env)::starEach [.Name x p2] X.env:=by rfl)(h2:(backTo pos (starEach [.Name x p2] X.env)).any (·.1)=false:=by rfl):
 QE X (.Call (.Name "isinstance" p) [a,.Name x p2] [] pos) (aCk c fa):=
 (aCl aHp hg hm boot_isinstance (vA ha (vA (aJd (v:=.ty c) tq sk hv rfl hn hd) aDf rfl) h1) (by decide) (by decide) h1 h2).imp fun σ H Q h=>iD (aNm hc h) fun x H1 q=>by
  obtain⟨b,h1,h2⟩:=q
  exact⟨x,c,b,rfl,h1,h2⟩
theorem aFJ(hm:X.mg "isinstance"=none)(sk:X.mg "int"=none)(ha:QE X a fa)(hg:Gl X "isinstance":=by rfl)(tq:Gl X "int":=by rfl)(h1:starEach [a,.Name "int" p2] X.env=(false,eval a X.env)::starEach [.Name "int" p2] X.env:=by rfl)(h2:(backTo pos (starEach [.Name "int" p2] X.env)).any (·.1)=false:=by rfl):
 QE X (.Call (.Name "isinstance" p) [a,.Name "int" p2] [] pos) (aCk "int" fa):=aKK aIB hm sk boot_int ha hg tq (by decide) (by decide) h1 h2
theorem aCD(hm:X.mg "isinstance"=none)(sk:X.mg "bool"=none)(ha:QE X a fa)(hg:Gl X "isinstance":=by rfl)(tq:Gl X "bool":=by rfl)(h1:starEach [a,.Name "bool" p2] X.env=(false,eval a X.env)::starEach [.Name "bool" p2] X.env:=by rfl)(h2:(backTo pos (starEach [.Name "bool" p2] X.env)).any (·.1)=false:=by rfl):
 QE X (.Call (.Name "isinstance" p) [a,.Name "bool" p2] [] pos) (aCk "bool" fa):=aKK aHt hm sk boot_bool ha hg tq (by decide) (by decide) h1 h2
end
end TL
namespace TL
open PySem PySem.W PySem.Calls PyProof.Rows L2
theorem bitsW{n:Int}(h:(WData.int n).layable=true):Builtin.Int.intBits n<=2^20:=by
 obtain⟨_,_,h3⟩:=layableW_iff.mp h;unfold WData.weight at h3;unfold Builtin.Int.intBits
 exact h3
theorem aBV{ns:List Int}(h:WData.layableAll [WData.list (ns.map WData.int)]=true):∀n∈ns,Builtin.Int.intBits n<=2^20:=fun n hn=>
 bitsW (layableW_item (layableW_arg h _ bJ) _ (bL.mpr ⟨n,hn,rfl⟩))
theorem aE7{l:aPH}{k:Nat}{q:Program}{loose:List Str}{XP:(Str->Option Value)->Heap->Prop}{YP:World->Heap->Prop}{d:DefRec}{K:Params->aO}{x:Str}{R:List T->Option T}
 (hn:l.most=some 63)(hdf:d.params.defaults=[])(hr:Room k callerA)
 (hY:∀(w:World)(h:Heap),YP w h->(K w.params).In h)
 (hR:∀ns:List Int,ns.length<=63->(∀n∈ns,Builtin.Int.intBits n<=2^20)->R [.lst (ns.map T.int)]=some (.bl true))
 (F:∀(w:World)(mg:Str->Option Value)(fa:Addr)(h:Heap),(K w.params).In h->h.Ns mainGlobals mg->mg d.name=some (.ref fa)->
  ∃fd:FuncData,(∀(s:Shared)(u:Value),BindsTo s fd ⟨[u],[]⟩ [(x,u)])/\
   ∀base:Heap,(K w.params).In base->base.Ns mainGlobals mg->mX l.prog w (K w.params) mg base CX0 k fa fd [x] (spT (K w.params) 1 R)):
 PySem.W.WalkO q loose XP YP l.row.toRowW d [] (fun f vs=>PySem.call f vs):=by
 intro w s₀ aj mg mb G Y fa o pm cd doc dV kV ho hd iz hD yh hg args vals as ip sv rm il hlo;obtain rfl:dV=.none:=Dflts.none hD hdf;obtain rfl:kV=.none:=Dflts.noKw hD;obtain⟨a,vs,ns,rfl,rfl,sg,hints,ah⟩:=Att.aEX hn ip il;have KX:=hY w _ Y;obtain⟨fd,hb,hF⟩:=F w mg fa _ KX G.T.g yh;have ii:∀H:Hp,Only H->SqL (K w.params) H a (ns.map V.int)->spT (K w.params) 1 R [.ref a] H (fun v _=>v=.bl true) fun _ _ _=>False:=fun H _ hS=>by
  refine⟨fun _=>False,[.lst (ns.map T.int)],.bl true,rfl,fun _ z=>z.elim,.cons ?_ .nil,hR ns ah (aBV sv),fun v H' _ r=>r.bl_inv⟩
  unfold RT;have sm:Same H (mask H (fun _=>False) []):=fun b o e=>mG (fun z=>z) (by simp) e
  refine⟨a,_,rfl,sm.seq hS,?_⟩
  clear hS sg hints ah sv ip rm il;induction ns with
  |nil=>exact .nil
  |cons n ns ih=>exact .cons .int ih
 refine enter_call (codeAny_mono (aHG KX G.T.g G.T.b G.T.builtins G.T.nolimit hg sg hints (cB ah (by decide)) hr hF hb ii (fun H e s' z=>z)) fun r s' hq=>?_)
 obtain⟨rfl,h2,h3,h4⟩:=hq
 exact⟨.inl ⟨.bool true,.bool true,[],rfl,fun _=>rfl,.bool true,Att.aEP l _,fun _=>⟨List.Pairwise.nil,fun _ hm=>(nomatch hm)⟩⟩,h2,h3,h4⟩
end TL
namespace TL
open PySem PySem.Spec PyProof.Rows L2
theorem aE2(a d:Value):argsOk "max" ⟨[a],[("default",d)]⟩:=by unfold argsOk;kernel_rfl
noncomputable abbrev aCE(us:Array Value)(c:Nat):Obj:={cls:=.type "list",dict:=none,data:=.seq us c,slots:=#[]}
section
variable {P:Program}{w:World}{A:Around}{R:Result->Shared->Prop}{it bs:Addr}{fp wr:List Addr}{n:Nat}{Pr:Nat->Value->Prop}{St:Nat->Heap->Prop}{km:List (Str×Value)}{bt:Nat->Nat->Bool}
variable{s:Shared}{c:Nat}
theorem z8:(toString "max"++toString ".loop":String)="max.loop":=by decide
theorem aFu(W:Walks P w A.in1 it fp wr n Pr St)(mf:CmpOf P w A.in1 .Gt Pr bt)(ji:bs∉fp):∀(k j:Nat)(s:Shared)(vb:Value)(c:Nat),n - (j+1)=k->j+1<=n->St (j+1) s.heap->Pr (argBest bt j) vb->s.heap.get? bs=some (aCE #[vb,vb] c)->
 (∀v g tk,Pr (argBest bt (n - 1)) v->(∀b o,b∉wr->b≠bs->s.heap.get? b=some o->g.get? b=some o)->R (.ok (.ret v)) {s with heap:=g,toks:=tk})->codeAny (model P w) A (.builtin "max.loop" ⟨[.ref it,.none,.ref bs],km⟩) R s:=by
 have nw:bs∉wr:=fun q=>ji (W.sub _ q)
 intro k;induction k with
 |zero=>
  intro j s vb c ek ej st pb eb fin;have en:j+1=n:=by lia
  refine codeAny_builtin PySem.F.entry_max_loop (by
   rw[Around.under_plainId PySem.F.plain_max_loop _];show wpAny _ A.in1 (seqItems? (.ref bs)>>=_) _ _ s
   refine wpAny_bind (wpAny_seqItems eb rfl ?_)
   show wpAny _ A.in1 (tryCatch (pyNext (.ref it)) _>>=_) _ _ s
   refine wpAny_bind (wpAny_tryCatch (W.done s _ _ (en ▸ st) fun g tk kp=>?_))
   have lf:=kp bs _ nw eb;show wpAny _ A.in1 (updateSeq bs (fun _=>#[])>>=_) _ _ _
   exact wpAny_bind (wpAny_updateSeq lf rfl (wpAny_bind (wpAny_letGo (wpAny_pure (fin vb _ tk (by rw[<-en];exact pb) fun b o z1 z2 e=>(Heap.get?_update_other _ _ (Ne.symm z2)).trans (kp b o z1 e)))))))
 |succ k ih=>
  intro j s vb c ek ej st pb eb fin;have lt:j+1<n:=by lia
  refine codeAny_builtin PySem.F.entry_max_loop (by
   rw[Around.under_plainId PySem.F.plain_max_loop _];show wpAny _ A.in1 (seqItems? (.ref bs)>>=_) _ _ s
   refine wpAny_bind (wpAny_seqItems eb rfl ?_)
   show wpAny _ A.in1 (tryCatch (pyNext (.ref it)) _>>=_) _ _ s
   refine wpAny_bind (wpAny_tryCatch (W.item (j+1) s _ _ lt st fun v g tk pv ax kp=>?_))
   have lf:=kp bs _ nw eb;show wpAny _ A.in1 (tryCatch (holding [v,v] (richCompare .Gt v vb>>=_)) _>>=_) _ _ _
   refine wpAny_bind (wpAny_tryCatch (wpAny_holding (wpAny_bind (mf (j+1) (argBest bt j) v vb _ _ _ pv pb (wpAny_bind (wpAny_holding (wpAny_truthy_bool (wpAny_bind (wpAny_letGo (wpAny_pure ?_))))))))))
   cases hb:bt (j+1) (argBest bt j)with
   |true=>
    simp only[if_true]
    refine wpAny_bind (wpAny_updateSeq lf rfl (wpAny_bind (wpAny_letGo ?_)))
    rw[z8]
    refine wpAny_pure ⟨plainId_quiet PySem.F.plain_max_loop _,ih (j+1) _ v _ (by lia) lt (W.frame _ _ _ ax fun b z o e=>?_) (by simp only[argBest,hb,if_true];exact pv) (Heap.get?_update_self _ lf rfl) fun v' g' qf ln qv=>?_⟩
    ·exact(Heap.get?_update_other _ _ (fun q:bs=b=>ji (by rw[q];exact z))).trans e
    ·exact fin v' g' qf ln fun b o z1 z2 e=>qv b o z1 z2 ((Heap.get?_update_other _ _ (Ne.symm z2)).trans (kp b o z1 e))
   |false=>
    simp only[b9,if_false]
    refine wpAny_bind (wpAny_letGo ?_)
    rw[z8]
    refine wpAny_pure ⟨plainId_quiet PySem.F.plain_max_loop _,ih (j+1) _ vb c (by lia) lt ax (by simp only[argBest,hb,b9,if_false];exact pb) lf fun v' g' qf ln qv=>?_⟩
    exact fin v' g' qf ln fun b o z1 z2 e=>qv b o z1 z2 (kp b o z1 e))
theorem aCO(W:Walks P w A.in1 it fp wr n Pr St)(mf:CmpOf P w A.in1 .Gt Pr bt)(ji:bs∉fp)(hn:0<n)(st:St 0 s.heap)(eb:s.heap.get? bs=some (aCE #[] c))
 (fin:∀v g tk,Pr (argBest bt (n - 1)) v->(∀b o,b∉wr->b≠bs->s.heap.get? b=some o->g.get? b=some o)->R (.ok (.ret v)) {s with heap:=g,toks:=tk}):codeAny (model P w) A (.builtin "max.loop" ⟨[.ref it,.none,.ref bs],km⟩) R s:=by
 have nw:bs∉wr:=fun q=>ji (W.sub _ q)
 refine codeAny_builtin PySem.F.entry_max_loop (by
  rw[Around.under_plainId PySem.F.plain_max_loop _];show wpAny _ A.in1 (seqItems? (.ref bs)>>=_) _ _ s
  refine wpAny_bind (wpAny_seqItems eb rfl ?_)
  show wpAny _ A.in1 (tryCatch (pyNext (.ref it)) _>>=_) _ _ s
  refine wpAny_bind (wpAny_tryCatch (W.item 0 s _ _ hn st fun v g tk pv ax kp=>?_))
  have lf:=kp bs _ nw eb;show wpAny _ A.in1 (updateSeq bs (fun _=>#[v,v])>>=_) _ _ _
  refine wpAny_bind (wpAny_updateSeq lf rfl ?_)
  rw[z8]
  refine wpAny_pure ⟨plainId_quiet PySem.F.plain_max_loop _,aFu W mf ji _ 0 _ v _ rfl hn (W.frame _ _ _ ax fun b z o e=>?_) pv (Heap.get?_update_self _ lf rfl) fun v' g' qf ln qv=>?_⟩
  ·exact(Heap.get?_update_other _ _ (fun q:bs=b=>ji (by rw[q];exact z))).trans e
  ·exact fin v' g' qf ln fun b o z1 z2 e=>qv b o z1 z2 ((Heap.get?_update_other _ _ (Ne.symm z2)).trans (kp b o z1 e)))
theorem aEI{d:Value}{nm:Str}(W:Walks P w A.in1 it fp wr 0 Pr St)(ji:bs∉fp)(st:St 0 s.heap)(eb:s.heap.get? bs=some (aCE #[] c))
 (fin:∀g tk,(∀b o,b∉wr->b≠bs->s.heap.get? b=some o->g.get? b=some o)->R (.ok (.ret d)) {s with heap:=g,toks:=tk}):codeAny (model P w) A (.builtin "max.loop" ⟨[.ref it,.none,.ref bs],[(nm,d)]⟩) R s:=by
 refine codeAny_builtin PySem.F.entry_max_loop (by
  rw[Around.under_plainId PySem.F.plain_max_loop _];show wpAny _ A.in1 (seqItems? (.ref bs)>>=_) _ _ s
  refine wpAny_bind (wpAny_seqItems eb rfl ?_)
  show wpAny _ A.in1 (tryCatch (pyNext (.ref it)) _>>=_) _ _ s
  refine wpAny_bind (wpAny_tryCatch (W.done s _ _ st fun g tk kp=>?_))
  exact wpAny_bind (wpAny_rule (wpAny_pure (fin g tk fun b o z1 _ e=>kp b o z1 e))))
end
section
variable {X:Cx}{aa:List (Addr×Obj)}{σ:L2.St}{H:Hp}{s:Shared}{Q:VK}
theorem aEJ{p:Addr}{ns:List Int}{d:Int}{t:Tok}(hc:X.calm=true)(I:Inv X aa σ H s)(hq:SqL X.K H p (ns.map V.int))(q:Q (.int (jR d ns)) H):
 wpAny (model X.prog X.w) X.A (call (.builtin "max") [.ref p] [("default",.int d t)]) (EP X aa σ Q) X.xe s:=by
 obtain⟨its,rv,pl,hz⟩:=I.list hq;have hi:=oJ rv;obtain⟨ys,hx⟩:=hi.allInts.items;have dw:s.heap.IsList p (intItems ys):=hx ▸ pl.isList;have gc:ns=ys.toList.map (·.1):=by
  rw[<-nums_intItems,<-hx]
  exact(show numsOf its.toArray.toList=ns from hi.numsOf).symm
 refine kmk_tree PySem.F.kind_max PySem.F.plain_max PySem.F.entry_max (aE2 _ _) ?_
 show wpAny _ X.A.in1 (Builtin.Builtins.bindParams "max" ["key","default"] 0 ⟨[],[("default",.int d t)]⟩>>=_) _ _ s
 refine wpAny_bind (wpAny_of_eq (show Builtin.Builtins.bindParams "max" ["key","default"] 0 ⟨[],[("default",.int d t)]⟩=pure [none,some (.int d t)]from rfl) (wpAny_bind (wpAny_pure ?_)))
 refine wpAny_bind (iter_intList dw fun s2 e2 st fp ne=>?_)
 subst e2;have W:=Walks.list (prog:=X.prog) (w:=X.w) (A:=X.A.in1) (I.ok.hd hc) s.heap.objs.size p ne (intItems ys);have ji:(s.heap.push {cls:=.type "list_iterator",data:=.fields #[.ref p,.int 0 0]}).objs.size∉[s.heap.objs.size,p]:=fun z=>cU _ (fp _ z)
 refine wpAny_bind (wpAny_newObj_type ?_)
 rw[z8]
 refine wpAny_pure ⟨plainId_quiet PySem.F.plain_max_loop _,?_⟩
 by_cases he:ns=[]
 ·have hsz:(intItems ys).size=0:=by
   have h3:ns.length=0:=by rw[he];rfl
   rw[gc,aP,b6]at h3;simpa[intItems]using h3
  rw[hsz]at W
  refine aEI W ji (W.frame _ _ _ st fun b _ o e=>Heap.get?_push_of_some _ e) (Heap.get?_push_size _ rfl) fun g tk kp=>?_
  refine⟨.int d,H,I.kept fun b o e=>kp b o (fun z=>?_) (bV (aPs (Heap.lt_size e) (by rw[Heap.size_push];exact d8 _))) (Heap.get?_push_of_some _ (Heap.get?_push_of_some _ e)),⟨_,rfl⟩,?_⟩
  ·exact cU _ (bU.mp z ▸ Heap.lt_size e)
  ·have:jR d ns=d:=by unfold jR;rw[he];rfl
   rw[this]at q;exact q
 ·have hsz:0<ys.size:=by
   have h3:0<ns.length:=aOl.mpr he;rw[gc,aP,b6]at h3;exact h3
  refine aCO W (bt:=fun i j=>decide (numAt ys i>numAt ys j)) (CmpOf.ints_gt (numAt ys) (fun _ _=>intItems_at)) ji (by simpa[intItems]using hsz) (W.frame _ _ _ st fun b _ o e=>Heap.get?_push_of_some _ e) (Heap.get?_push_size _ rfl) fun v g tk pv kp=>?_
  have ln:(intItems ys)[argBest (fun i j=>decide (numAt ys i>numAt ys j)) (ys.size - 1)]?=some v:=by simpa[intItems]using pv
  obtain⟨t',rfl⟩:=intItems_at ln;obtain⟨h1,h2⟩:=argBest_gt (numAt ys) (ys.size - 1);obtain⟨m1,m2⟩:=zZ he;have eM:numAt ys (argBest (fun i j=>decide (numAt ys i>numAt ys j)) (ys.size - 1))=tL ns:=by
   apply dW
   ·refine m2 _ ?_
    generalize argBest (fun i j=>decide (numAt ys i>numAt ys j)) (ys.size - 1)=j at*;rw[gc,numAt_eq];exact getD_mem (by rw[aP,b6];lia)
   ·generalize tL ns=M at*;rw[gc]at m1;obtain⟨j,hj,ej⟩:=mem_getD m1;rw[aP,b6]at hj;rw[<-ej,<-numAt_eq];exact h2 j (by lia)
  refine⟨.int (tL ns),H,I.kept fun b o e=>kp b o (fun z=>?_) (bV (aPs (Heap.lt_size e) (by rw[Heap.size_push];exact d8 _))) (Heap.get?_push_of_some _ (Heap.get?_push_of_some _ e)),⟨_,by rw[eM]⟩,?_⟩
  ·exact cU _ (bU.mp z ▸ Heap.lt_size e)
  ·have:jR d ns=tL ns:=by
    unfold jR;rw[if_neg (by simpa using he)]
   rw[this]at q;exact q
end
def aD9(K:aO):R2:=fun x y H Q=>∃p ns d,x=.ref p/\y=.int d/\SqL K H p (ns.map V.int)/\Q (.int (jR d ns)) H
theorem aM0{K:aO}{σ:L2.St}{H:Hp}{Q:VK}{x y:V}(h:∃t1 t2,trV K σ [t1,t2] [x,y] (aBa t1 t2) H Q):aD9 K x y H Q:=by
 obtain⟨t1,t2,H₀,Z,ρ,τ,C,t,C',R,r,e,k⟩:=h;obtain⟨_,_,z,r1,r⟩:=r.cons_inv;cases z;obtain⟨_,_,z,r2,r⟩:=r.cons_inv;cases z;unfold aBa at e;split at e
 ·obtain⟨us,e1,e⟩:=aK.mp e;obtain⟨ns,e2,e⟩:=aL.mp e;cases e;obtain⟨a,vs,ea,qa,ra⟩:=R.li r1 e1;have:=yM ra e2;subst this
  exact⟨a,ns,_,ea,r2.int_inv,qa,k _ H ρ R .int .refl⟩
 ·cases e
section
variable {X:Cx}{p pos kp:Pos}{e de:Expr}{ta tb:TE}{fa fb:FE}
theorem aI6(hm:X.mg "max"=none)(hc:X.calm=true)(ha:PE X e ta)(hb:PE X de tb)(hg:Gl X "max":=by rfl)
 (he:backTo pos (starEach [e] X.env)=(false,eval e X.env)::backTo pos (starEach [] X.env):=by rfl)(av:(backTo pos (starEach [e] X.env)).any (·.1)=false:=by rfl)
 (xr:starEach [e] X.env=(false,eval e X.env)::starEach [] X.env:=by rfl):
 PE X (.Call (.Name "max" p) [e] [⟨some "default",de,kp⟩] pos) (tOp (aD9 X.K) ta tb):=by
 intro aa s σ H Q I h
 refine wpAny_Call_Name_kw (oZ I hg hm boot_max ?_ (by decide) (by decide))
 refine aPM (thn ((vA ha aDf xr) pos aa s σ H (fun vs H1=>match vs with
  | [x]=>tb σ H1 fun y H2=>aD9 X.K x y H2 Q
  |_=>False) I h) fun us s1 ⟨vs,H1,I1,r1,q1⟩=>?_) he av rfl rfl
 match vs,r1,q1 with
 | [x],r1,q1=>
   obtain⟨u,rfl,ru⟩:=vals1 r1
   refine thn ((aJh hb aLL) pos aa s1 σ H1 (fun vs H2=>match vs with
    | [y]=>aD9 X.K x y H2 Q
    |_=>False) I1 q1) fun ws s2 ⟨zs,H2,I2,r2,q2⟩=>?_
   match zs,r2,q2 with
   | [y],r2,q2=>
     obtain⟨u2,rfl,lm⟩:=vals1 r2;obtain⟨p,ns,d,rfl,rfl,hq,q⟩:=q2;cases ru;obtain⟨t,rfl⟩:=lm
     exact aEJ hc I2 hq q
   | [],_,q2=>exact q2.elim
   |_::_::_,_,q2=>exact q2.elim
 | [],_,q1=>exact q1.elim
 |_::_::_,_,q1=>exact q1.elim
theorem aG7(hm:X.mg "max"=none)(hc:X.calm=true)(ha:QE X e fa)(hb:QE X de fb)(hg:Gl X "max":=by rfl)
 (he:backTo pos (starEach [e] X.env)=(false,eval e X.env)::backTo pos (starEach [] X.env):=by rfl)(av:(backTo pos (starEach [e] X.env)).any (·.1)=false:=by rfl)
 (xr:starEach [e] X.env=(false,eval e X.env)::starEach [] X.env:=by rfl):
 QE X (.Call (.Name "max" p) [e] [⟨some "default",de,kp⟩] pos) (aGC fa fb):=(aI6 hm hc ha hb hg he av xr).imp fun _ _ _=>wZ (fun _ _ _ _ _=>aM0)
end
section
variable {P:Program}{w:World}{A:Around}{E:Value->Shared->Prop}{s:Shared}{z TI TO i1 i2 l1 l2:Addr}{k1 k2:Nat}{xs ys:Array Value}{x y a b f0 f1:Value}
end
section
variable {X:Cx}{a b e:Expr}{fa fb:FE}{pos p p2:Pos}
variable {own frs:List Str}{is:List Nat}{scope:Scope}{cl:List (Str×Addr)}{x:Str}{aw:Pos}{bd:Expr}{ifs:List Expr}{fe:FE}{g:FG}{gt:FB}
end
section
variable {X:Cx}{a e:Expr}{te:TE}{fa:FE}{pos p2 p3 p4:Pos}
end
section
variable {X:Cx}{a b:Expr}{fa fb:FE}
end
section
variable {X:Cx}{a e tg:Expr}{fa:FE}{pos p p2:Pos}{da:List Stmt}{F:FS}{g:FG}
end
section
variable {X:Cx}{st:Stmt}{da:List Stmt}{F G:FS}
end
end TL
namespace TL
open PySem L2
abbrev XF:=TSt->Sto->Option (String×Sto)
noncomputable def fX(x:XF)(F:FS):FS:=fun τ C=>match x τ C with
 |some (c,C')=>some (.ex c,τ,C')
 |none=>F τ C
noncomputable def fRaise(c:String)(fa:FN):FS:=fun τ C=>(fa τ C).bind fun p=>if p.1.length<=10 then some (.ex c,τ,p.2)else none
def gX(n:Nat)(G:List T->Option String)(ts:List T)(C:Sto):Option String:=if ts.length=n then(if CFs ts=true then G ts else(mapO (dr 3 C) ts).bind G)else none
def xCall(n:Nat)(G:List T->Option String)(fa:FN):XF:=fun τ C=>(fa τ C).bind fun p=>(gX n G p.1 p.2).map fun c=>(c,p.2)
def aMi(B:FS)(m:Nat)(ts:List T):Option String:=match B (st0 m ts) []with
 |some (.ex c,_,_)=>some c
 |_=>none
def xApp(fo:FE)(x:XF):XF:=fun τ C=>(fo τ C).bind fun p=>match p.1 with
 | .cell c=>(lc p.2 c).bind fun _=>x τ p.2
 |_=>none
section
variable {K:aO}{σ:L2.St}{H:Hp}{Q:VK}
end
end TL
namespace TL
open PySem PySem.Spec PyProof.Rows L2
section
variable {K:aO}{W:XW}{σ:L2.St}{H:Hp}{x:XF}
end
section
variable {X:Cx}{aa:List (Addr×Obj)}{σ:L2.St}{H:Hp}{s:Shared}{k:Nat}{f:Addr}{fd:FuncData}{ps:List Str}{sp:Sp}{e a b:Expr}{es:List Expr}{pos p:Pos}{x:XF}{fa fb:FE}{fr:FN}{st:Stmt}{F:FS}
end
section
variable {X:Cx}{aa:List (Addr×Obj)}{σ:L2.St}{H:Hp}{s:Shared}{c:String}{C:Addr}{e₀:Expr}{rest:List Expr}{np ak pos:Pos}{fa:FN}
end
section
variable {P:Program}{w:World}{K:aO}{mg:Str->Option Value}{base:Heap}
end
end TL
namespace PySem
end PySem
namespace TL
open PySem PySem.Spec PyProof.Rows L2
section
variable {X:Cx}{aa:List (Addr×Obj)}{σ:L2.St}{H H':Hp}{s s':Shared}{c:String}{C a:Addr}{B:Heap}
abbrev Cx.at(X:Cx)(A:Around)(calm:Bool)(pn:List (Addr×Obj))(xe:Value->Shared->Prop):Cx:={X with A:=A,calm:=calm,pn:=pn,xe:=xe}
end
section
variable {X:Cx}{tab:String->List String}{rs ds:List String}{d:String}{i:Nat}{n:Str}{F G:FS}{body suite:List Stmt}{b₀:Stmt}{np lv pos:Pos}
end
end TL
namespace PySem.W
open PySem PySem.Spec PySem.Calls PyProof.Rows Builtin Builtin.ObjectAttr Builtin.Getset_descriptor
section
variable {prog:Program}{w:World}{A:Around}{E:Value->Shared->Prop}{s:Shared}{K:Frag}{x C D:Addr}{name:Str}{R:Result->Shared->Prop}
end
section
variable {prog:Program}{w:World}{A:Around}{E:Value->Shared->Prop}{K:Frag}{x C:Addr}{R:Result->Shared->Prop}{h:Heap}{g:Array GenState}{d:Drawn}{t:Nat}{os:OsState}
end
end PySem.W
namespace TL
open PySem PySem.Spec PyProof.Rows L2
section
variable {X:Cx}
variable {tab:String->List String}{rs ds0:List String}{a:Expr}{fa:FE}{p pos aw p2:Pos}{d:String}{ds:List String}{es:List Expr}
end
section
variable {X:Cx}{a e:Expr}{es:List Expr}{fa:FE}{x:XF}{pos:Pos}
end
section
variable {X:Cx}{e:Expr}{es:List Expr}{fr:FN}{p pos:Pos}
end
section
variable {X:Cx}{a b e de:Expr}{fa fb:FE}{x:XF}{p pos kp:Pos}
end
end TL
namespace TL
open PySem L2
def zD(fo fi fe:FE):FS:=fun τ C=>(fo τ C).bind fun q=>(fi τ q.2).bind fun r=>match q.1,r.1 with
 | .cell c,.int i=>(lc r.2 c).bind fun ts=>(atI ts i).bind fun old=>match old with
   | .int x=>(fe τ r.2).bind fun p=>match p.1 with
     | .int y=>(lc p.2 c).bind fun us=>(ixN us.length i).map fun j=>(.nx,τ,p.2.set c (.l,us.set j (.int (x+y))))
     |_=>none
   |_=>none
 |_,_=>none
abbrev aEq(a b:FE):FE:=iO a b (gIc (fun _ j=>decide (0<j/\j<2^250)) fun i j=>.int (i/j))
def sD(fa:FN):FE:=mV fa fun ts C=>if ts.length<=lim then some (.tup ts,C)else none
section
variable {K:aO}{W:XW}{σ:St}{H:Hp}
theorem aMK{fo fi fe:FE}{D:Ends}(h:trS K W (zD fo fi fe) D σ H):tAugS (trE K fo) (trE K fi) (trE K fe) (aKc K) (ipI fun i j=>i+j) aHQ D σ H:=by
 obtain⟨H₀,Z,ρ,τ,C,fl,ag,C',R,e,k⟩:=h;unfold zD at e;obtain⟨⟨t1,C1⟩,e1,e⟩:=aK.mp e;obtain⟨⟨t2,C2⟩,e2,e⟩:=aK.mp e
 refine⟨H₀,Z,ρ,τ,C,t1,C1,R,e1,fun y H1 af R1 h1 s1=>?_⟩
 refine⟨H₀,Z,af,τ,C1,t2,C2,R1,e2,fun z H2 ar R2 h2 s2=>?_⟩
 dsimp only at e;split at e
 ·obtain⟨ts,e3,e⟩:=aK.mp e;obtain⟨old,e4,e⟩:=aK.mp e;split at e
  ·rename_i x;obtain⟨⟨t3,C3⟩,e5,e⟩:=aK.mp e;dsimp only at e;split at e
   ·rename_i w;obtain⟨us,e6,e⟩:=aK.mp e;obtain⟨j,e7,e⟩:=aL.mp e;cases e;have jb:=h1.step s2;obtain⟨a,vs,ea,qa,ra⟩:=R2.li jb (ts:=ts) e3;obtain⟨v,q1,q2⟩:=aGp ra e4
    refine⟨a,vs,_,v,ea,h2.int_inv,qa,q1,?_⟩
    refine⟨H₀,Z,ar,τ,C2,_,C3,R2,e5,fun u H3 az R3 h3 s3=>?_⟩
    refine⟨x,w,q2.int_inv,h3.int_inv,?_⟩
    have ue:=jb.step s3;unfold RT at ue;obtain⟨a',zm,nj⟩:=ue;obtain⟨vs',c2,c3⟩:=R3.celL nj (gS.mp e6);obtain⟨w1,w2⟩:=R3.write nj (by rw[c2];trivial) (c3.set (t:=.int (x+w)) (v:=.int (x+w)) .int j)
    exact⟨a',vs',_,j,zm,h2.int_inv,c2,by rw[c3.length];exact e7,k σ _ az w1 (((s1.trans s2).trans s3).ss.trans w2)⟩
   ·cases e
  ·cases e
 ·cases e
theorem aL4{fa:FN}{Q:VK}(hz:lim<=sizeLine)(h:trE K (sD fa) σ H Q):tTup (trA K fa) σ H Q:=by
 obtain⟨H₀,Z,ρ,τ,C,ts,C',R,e,k⟩:=aBN h
 refine⟨H₀,Z,ρ,τ,C,ts,C',R,e,fun vs H1 af R1 h1 s1=>?_⟩
 obtain⟨us,jd,Z',ae,ag,C1,t,C2,R',r,e,k⟩:=k vs H1 af R1 h1 s1;split at e
 ·rename_i hl;cases e
  exact⟨by rw[r.length];exact cB hl hz,fun p hp=>k _ _ ae (R'.alloc hp).1 (R'.alloc_tup hp r) (R'.alloc hp).2⟩
 ·cases e
end
end TL
namespace TL
open PySem PySem.Spec PyProof.Rows L2
section
variable {X:Cx}{a b c e:Expr}{es:List Expr}{fa fb fc:FE}{fr:FN}{p pos:Pos}
theorem aFq:PGet X (aKc X.K):=by
 intro aa s σ H o i ov iv Q I rx ry h;obtain⟨p,xs,i,z,rfl,rfl,hq,he,q⟩:=h;cases rx;obtain⟨t,rfl⟩:=ry;obtain⟨its,r,pl,hz⟩:=I.list hq;obtain⟨j,h1,h2,h3,h4,h5⟩:=u7 he;obtain⟨w,ew,fg⟩:=r.get h2;have hl:=r.length;have hn:=line63;have fin:EP X aa σ Q w s:=⟨z,H,I,fg,q⟩;by_cases h0:0<=i
 ·have hj:i.toNat=j:=by
   rw[seqIndex_of h0 h5]at h1
   exact cH.inj h1
  exact wpAny_getItem_list pl.isList h0 (by lia) (by rw[hj];simpa using ew) fin
 ·have hj:(i+(its.toArray.size:Int)).toNat=j:=by
   rw[seqIndex_neg (by lia) h4]at h1;rw[bF,<-hl]
   exact cH.inj h1
  exact wpAny_getItem_list_neg pl.isList (by lia) (by rw[bF]<;>lia) (by lia) (by rw[hj];simpa using ew) fin
theorem aIQ(ho:QE X a fa)(hi:QE X b fb)(hv:QE X c fc)
 (ha:∀ov iv new,augStore b ov iv new=(do holding [new,ov,iv] (setItem ov iv new);release [new,ov,iv] [];pure .next):=by intros;rfl):QS X (.AugAssign (.Subscript a b p) .Add c pos) (zD fa fb fc):=
 (aI0 ho hi aFq hv aLv aCr ha).imp fun _ _ _=>aMK
theorem vK{k}(h:QA X es fr):QE X (.Tuple es k pos) (sD fr):=(aLt h).imp fun _ _ _=>aL4 lG
theorem small300{j:Int}(h:0<j/\j<2^250):j.natAbs.log2<9000:=by
 have h0:j.natAbs≠0:=by lia
 have:j.natAbs<2^250:=by
  have h2:=h.2;have:((j.natAbs:Nat):Int)<((2^250:Nat):Int):=by
   rw[aPd (by lia)];simpa using h2
  exact aPU.mp this
 have:=(aP5 h0).mpr this
 lia
theorem aFZ:OpR X (binaryOp .FloorDiv) (rI (fun _ j=>0<j/\j<2^250) fun i j=>.int (i/j)):=opI fun i j _ _ _ _ _ hc q=>by
 have h1:(0:Int)<j:=hc.1
 exact floordiv_int (by lia) (by rw[aOH i (by lia)];exact q) (.inl (PyProof.noPylong_of_log2 (small300 hc)))
theorem aAs(ha:QE X a fa)(hb:QE X b fb):QE X (.BinOp a .FloorDiv b pos) (aEq fa fb):=(t6 aFZ ha hb).imp fun _ _ _=>wZ fun _ _ _ _ _ h=>by
 obtain⟨i,j,h1,h2,h3,q⟩:=aHN (g:=fun i j=>.int (i/j)) (fun _ _ _ _=>.int) h;have h4:0<j/\j<2^250:=of_decide_eq_true h3
 exact⟨i,j,h1,h2,h4,q⟩
end
end TL
namespace TL
open PySem L2
end TL
namespace TL
open PySem PySem.Spec PyProof.Rows L2
section
variable {X:Cx}{e:Expr}{es:List Expr}{fr:FN}{p pos:Pos}
end
end TL
namespace TL
open PySem L2
end TL
namespace TL
open PySem PySem.Spec PyProof.Rows L2
section
variable {X:Cx}{a b:Expr}{fa fb:FE}{p pos:Pos}
end
end TL
namespace TL
open PySem L2
noncomputable def zU(t1 t2:T)(C:Sto):Option (T×Sto):=match t2 with
 | .non=>match t1 with
   | .non=>some (.bl false,C)
   |_=>some (.bl true,C)
 |_=>none
end TL
namespace TL
open PySem PySem.Spec PyProof.Rows L2
section
variable {K:aO}{σ:L2.St}{H:Hp}
theorem aMq{x y:V}{Q:VK}(h:∃t1 t2,trV K σ [t1,t2] [x,y] (zU t1 t2) H Q):y=.non/\Q (.bl (!decide (x=.non))) H:=by
 obtain⟨t1,t2,H₀,Z,ρ,τ,C,t,C',R,r,e,k⟩:=h;obtain⟨_,_,z,r1,r⟩:=r.cons_inv;cases z;obtain⟨_,_,z,r2,r⟩:=r.cons_inv;cases z;unfold zU at e;split at e
 ·unfold RT at r2
  refine⟨r2,?_⟩
  cases t1 with
  |non=>cases e;unfold RT at r1;rw[r1];exact k _ H ρ R .bl .refl
  |_=>
   cases e;have:decide (x=V.non)=false:=by
    unfold RT at r1;first
     | (rw[r1];rfl)
     | (obtain⟨a,r1⟩:=r1;first| (rw[r1.1];rfl)| (obtain⟨b,r1⟩:=r1;rw[r1.1];rfl))
   rw[this]
   exact k _ H ρ R .bl .refl
 ·cases e
end
section
variable {X:Cx}{a b e:Expr}{es:List Expr}{fa fb:FE}{fr:FN}{p pos:Pos}
theorem aMX(ha:QE X a fa)(hb:QE X b fb)(hm:behindInMarks .IsNot b=false:=by rfl):QT X (.Compare a [.IsNot] [b] pos) (i8 (iO fa fb zU)):=xR aJS (fun _ _ _ _ _=>aMq) ha hb hm
end
section
variable {X:Cx}{own fr:List Str}{is:List Nat}{scope:Scope}{cl:List (Str×Addr)}{x:Str}
end
section
variable {X:Cx}{p p2 pos:Pos}{own frs:List Str}{is:List Nat}{scope:Scope}{cl:List (Str×Addr)}{tg iter bd:Expr}{ifs:List Expr}{fi fe:FE}{g:FG}{gt:FB}{cx:Str}
end
end TL
namespace TL
open PySem L2
mutual
def sh(k:Nat):T->T
 | .lst ts=>.lst (shs k ts)
 | .tup ts=>.tup (shs k ts)
 | .cell c=>.cell (k+c)
 | .non=>.non
 | .bl b=>.bl b
 | .int i=>.int i
 | .str x=>.str x
 | .exc c=>.exc c
def shs(k:Nat):List T->List T
 | []=>[]
 |t::ts=>sh k t::shs k ts
end
def shc(k:Nat)(x:Cl):Cl:=(x.1,shs k x.2)
section
variable {K:aO}{M:Hp}{ρ ae:Rho}{k:Nat}
mutual
theorem RT.sh(p:∀(c:Nat)(a:Addr),ρ[c]?=some a->ae[k+c]?=some a):∀{t:T}{v:V},RT K M ρ t v->RT K M ae (TL.sh k t) v
 | .non,_,h=>by unfold TL.sh;unfold RT at*;exact h
 | .bl _,_,h=>by unfold TL.sh;unfold RT at*;exact h
 | .int _,_,h=>by unfold TL.sh;unfold RT at*;exact h
 | .str _,_,h=>by unfold TL.sh;unfold RT at*;exact h
 | .lst ts,v,h=>by
   unfold TL.sh;unfold RT at*;obtain⟨a,vs,e,q,r⟩:=h
   exact⟨a,vs,e,q,RTs.sh p r⟩
 | .tup ts,v,h=>by
   unfold TL.sh;unfold RT at*;obtain⟨a,vs,e,q,r⟩:=h
   exact⟨a,vs,e,q,RTs.sh p r⟩
 | .cell c,v,h=>by
   unfold TL.sh;unfold RT at*;obtain⟨a,e,q⟩:=h
   exact⟨a,e,p c a q⟩
 | .exc c,v,h=>by
   unfold TL.sh;unfold RT at*
   exact h
theorem RTs.sh(p:∀(c:Nat)(a:Addr),ρ[c]?=some a->ae[k+c]?=some a):∀{ts:List T}{vs:List V},RTs K M ρ ts vs->RTs K M ae (shs k ts) vs
 | [],_,h=>by unfold shs;unfold RTs at*;exact h
 |t::ts,vs,h=>by
  unfold shs;unfold RTs at*;obtain⟨v,r,e,h1,h2⟩:=h
  exact⟨v,r,e,RT.sh p h1,RTs.sh p h2⟩
end
end
def aCC(K:aO)(n:Nat)(G:List T->Option (T×Sto)):Sp:=fun vs H Q _=>∃Z ts r Cn,ts.length=n/\(∀a,Z a->NT (H a))/\RTs K (mask H Z []) [] ts vs/\G ts=some (r,Cn)/\
 ∀v H' ae ai ag,Rel K H Z ae ag Cn ai H'->RT K (mask H' Z ae) ae r v->Q v H'
theorem aGN{K:aO}{n:Nat}{G:List T->Option (T×Sto)}:∀vs H Q E,aCC K n G vs H Q E->vs.length=n:=fun vs H Q E zz=>by obtain⟨Z,ts,r,Cn,h,_,rr,_⟩:=zz;rw[rr.length,h]
def EndRc(p:T×Sto):Fl×TSt×Sto->Prop
 | (.rt r,_,C)=>p=(r,C)
 |_=>False
def aB6(B:FS)(m:Nat)(ts:List T):Option (T×Sto):=match B (st0 m ts) []with
 |some (.rt r,_,C)=>some (r,C)
 |_=>none
theorem aIc{B:FS}{m n:Nat}:∀ts p,ts.length=n->aB6 B m ts=some p->∃r,B (st0 m ts) []=some r/\EndRc p r:=fun ts p _ e=>by
 unfold aB6 at e;split at e
 ·rename_i h;cases e;exact⟨_,h,rfl⟩
 ·cases e
section
variable {K:aO}{W:XW}{σ:St}{H:Hp}{Q:VK}{D:Ends}
variable{G:List T->Option (T×Sto)}
theorem aJi{n m:Nat}{F:FS}{vs:List V}{E:XK}(hG:∀ts p,ts.length=n->G ts=some p->∃r,F (st0 m ts) []=some r/\EndRc p r)(h:aCC K n G vs H Q E):
 trS K W F {nx:=fun _ H'=>Q .non H',rt:=Q} (vs.map some++aT (m - vs.length) none) H:=by
 obtain⟨Z,ts,r,Cn,hn,hz,rr,e,k⟩:=h;obtain⟨⟨fl,ag,C'⟩,e1,e2⟩:=hG ts _ hn e
 refine⟨H,Z,[],st0 m ts,[],fl,ag,C',Rel.start hz rr,e1,fun ai H' ae R' _=>?_⟩
 cases fl with
 |nx=>exact False.elim e2
 |bk=>exact False.elim e2
 |ct=>exact False.elim e2
 |ex c=>exact False.elim e2
 |rt u=>
  cases e2
  exact fun v hv=>k v H' ae ai ag R' hv
def qT(n:Nat)(G:List T->Option (T×Sto))(ts:List T)(C:Sto):Option (T×Sto):=if ts.length=n/\CFs ts=true then(G ts).map fun p=>(sh C.length p.1,C++p.2.map (shc C.length))else none
abbrev fCallR(n:Nat)(G:List T->Option (T×Sto))(fa:FN):FE:=mV fa (qT n G)
theorem aI5{n:Nat}{vs:List V}{E:XK}(h:∃ts,trV K σ ts vs (qT n G ts) H Q):aCC K n G vs H Q E:=by
 obtain⟨ts,H₀,Z,ρ,τ,C,t,C',R,r,e,k⟩:=h;unfold qT at e;split at e
 ·rename_i hn;obtain⟨⟨u,Cn⟩,e1,e⟩:=aL.mp e;cases e
  refine⟨fun a=>Z a\/a∈ρ,ts,u,Cn,hn.1,fun a z=>?_,by rw[aAG];exact r.cf hn.2,e1,fun v H' ae ai ag R' rv=>?_⟩
  ·rcases z with z|z
   ·exact R.zd a z
   ·exact R.cel_some z
  ·have em:mask H' (fun a=>Z a\/a∈ρ) ae=mask H' Z (ρ++ae):=by
    funext a;unfold mask;by_cases h:(Z a\/a∈ρ)\/a∈ae
    ·rw[if_pos h,if_pos (by rcases h with(h|h)|h
                            ·exact .inl h
                            ·exact .inr (bM.mpr (.inl h))
                            ·exact .inr (bM.mpr (.inr h)))]
    ·rw[if_neg h,if_neg (by
      rintro(z|z)
      ·exact h (.inl (.inl z))
      ·rcases bM.mp z with z|z
       ·exact h (.inl (.inr z))
       ·exact h (.inr z))]
   have tm:∀(c:Nat)(a:Addr),ae[c]?=some a->(ρ++ae)[C.length+c]?=some a:=fun c a z=>by
    rw[<-R.len,bH (by lia)];rw[show ρ.length+c - ρ.length=c by lia];exact z
   have st:Step H H' ρ (ρ++ae):=.of R'.old fun a ha=>(R'.frs a ha).1
   have nR:Rel K H₀ Z (ρ++ae) τ (C++Cn.map (shc C.length)) σ H':=by
    refine⟨R.old.trans R'.old,fun a ha=>?_,?_,fun a z=>R'.zd a (.inl z),fun i t e=>?_,fun c a e=>?_,?_,R.lnt⟩
    ·rcases bM.mp ha with ha|ha
     ·exact R.frs a ha
     ·exact⟨R.old.free (R'.frs a ha).1,fun z=>(R'.frs a ha).2 (.inl z)⟩
    ·exact dX.mpr ⟨R.nd,R'.nd,fun a h1 b h2 z=>by subst z;exact(R'.frs a h2).2 (.inr h1)⟩
    ·obtain⟨v,h1,h2⟩:=R.loc i t e
     exact⟨v,h1,h2.step st⟩
    ·by_cases hc:c<ρ.length
     ·rw[aZ hc]at e;obtain⟨us,ws,ob,h1,h2,h4,h3⟩:=R.cel c a e
      exact⟨us,ws,ob,by rw[aZ (by rw[<-R.len];exact hc)];exact h1,R'.old _ _ h2,h4,h3.step st⟩
     ·rw[bH (by lia)]at e;obtain⟨us,ws,ob,h1,h2,h4,h3⟩:=R'.cel _ a e
      refine⟨shc C.length us,ws,ob,?_,h2,h4,?_⟩
      ·rw[bH (by rw[<-R.len];lia),<-R.len,bK,h1];rfl
      ·rw[em]at h3;exact h3.sh tm
    ·rw[aU,aU,aP,R.len,R'.len]
   rw[em]at rv
   exact k v H' (ρ++ae) nR (rv.sh tm) st
 ·cases e
theorem aKh{fa:FN}{n:Nat}{E:XK}(h:trE K (mV fa (qT n G)) σ H Q):aEv (aCC K n G) [] E (trA K fa) σ H Q:=
 pF (aBN h) fun vs _ q=>by rw[aW];exact aI5 q
theorem Rel.locals{H₀:Hp}{Z:Addr->Prop}{ρ:Rho}{τ:TSt}{C:Sto}{ts:List T}{vs:List V}{m:Nat}(R:Rel K H₀ Z ρ τ C σ H)(h:RTs K (mask H Z ρ) ρ ts vs):
 Rel K H₀ Z ρ (st0 m ts) C (vs.map some++aT (m - vs.length) none) H:=by
 refine⟨R.old,R.frs,R.nd,R.zd,fun i t e=>?_,R.cel,R.len,by simp[st0,h.length]⟩
 unfold st0 at e;have hi:i<ts.length:=by
  by_cases hi:i<ts.length
  ·exact hi
  ·rw[bH (by simpa using hi),cO]at e;split at e<;>cases e
 rw[aZ (by simpa using hi),bK]at e;cases q:ts[i]?with
 |none=>rw[q]at e;cases e
 |some u=>
  rw[q]at e;cases e;obtain⟨v,h1,h2⟩:=h.get q
  refine⟨v,?_,h2⟩
  rw[aZ (by simpa[h.length]using hi),bK,h1];rfl
end
end TL
namespace TL
open PySem PySem.Spec PyProof.Rows L2
section
variable {X:Cx}{e:Expr}{es:List Expr}{fr:FN}{p pos aq:Pos}
structure aFY(P:Program)(w:World)(K:aO)(mg:Str->Option Value)(base:Heap)(k:Nat)(x:Str)(n:Nat)(G:List T->Option (T×Sto)):Prop where
 ex:∃f fd ps,mX P w K mg base CX0 k f fd ps (aCC K n G)/\mg x=some (.ref f)/\cN K (.ref f)=true/\Binds K fd ps []
theorem aIx{k n:Nat}{x:Str}{G:List T->Option (T×Sto)}(D:aFY X.prog X.w X.K X.mg X.base k x n G)(hr:Room k X.A)(ha:QA X (e::es) fr)(hg:Gl X x:=by rfl)(dj:(x==("__debug__":Str))=false:=by decide)
 (he:starEach (e::es) X.env=(false,eval e X.env)::starEach es X.env:=by rfl)(av:(backTo pos (starEach es X.env)).any (·.1)=false:=by rfl):QE X (.Call (.Name x p) (e::es) [] pos) (fCallR n G fr):=by
 obtain⟨f,fd,ps,F,hm,hk,hb⟩:=D.ex
 exact(aAi (E:=fun _ _ _=>False) F hr hg hm hk hb .nil (fun _ _ _ _ _ _ _ h=>h.elim) ha dj he av).imp fun _ _ _=>aKh
section
variable {own frs:List Str}{is:List Nat}{scope:Scope}{cl:List (Str×Addr)}{bd a b:Expr}{ts ifs:List Expr}{tk}{aw p2 bv:Pos}{fa fb fe:FE}{g:FG}{gt:FB}{x:Str}
end
end
end TL
namespace TL
open PySem L2
noncomputable def getN{α:Type}(f:Str):List Str->List α->Option α
 |n::ns,t::ts=>if f=n then some t else getN f ns ts
 |_,_=>none
noncomputable def pn(f:Str):List Str->List Str
 | []=>[f]
 |n::ns=>if n=f then n::ns else n::pn f ns
noncomputable def pv{α:Type}(f:Str)(t:α):List Str->List α->List α
 | [],_=>[t]
 |n::ns,x::ts=>if n=f then t::ts else x::pv f t ns ts
 |_::_,[]=>[]
theorem u5{f:Str}:∀{ns:List Str}{vs:List V},(ns.zip vs).lookup f=getN f ns vs
 | [],_=>rfl
 |_::_,[]=>rfl
 |n::ns,v::vs=>by
  rw[cE,b4];unfold getN;by_cases h:f=n
  ·rw[if_pos h,beq_iff_eq.mpr h]
  ·rw[if_neg h,(beq_eq_false_iff_ne).mpr h];exact u5
theorem aAa{f:Str}{v:V}:∀{ns:List Str}{vs:List V},ns.length=vs.length->oH f v (ns.zip vs)=(pn f ns).zip (pv f v ns vs)
 | [],_,_=>rfl
 |_::_,[],h=>by cases h
 |n::ns,x::vs,h=>by
  rw[cE];unfold oH pn pv;split
  ·rfl
  ·rw[aAa (by simpa using h),cE]
theorem aDr{α:Type}{f:Str}{t:α}:∀{ns:List Str}{ts:List α},ns.length=ts.length->(pn f ns).length=(pv f t ns ts).length
 | [],_,_=>rfl
 |_::_,[],h=>by cases h
 |n::ns,x::ts,h=>by
  have h':ns.length=ts.length:=by simpa using h
  unfold pn pv;split
  ·simpa using h'
  ·simpa using aDr h'
section
variable {K:aO}{M:Hp}{ρ:Rho}
theorem RTs.getN{f:Str}:∀{ns:List Str}{ts:List T}{vs:List V}{t:T},RTs K M ρ ts vs->TL.getN f ns ts=some t->∃v,TL.getN f ns vs=some v/\RT K M ρ t v
 | [],ts,vs,t,_,e=>by unfold TL.getN at e;cases e
 |_::_,[],vs,t,_,e=>by unfold TL.getN at e;cases e
 |n::ns,x::ts,vs,t,h,e=>by
  obtain⟨v,r,rfl,h1,h2⟩:=h.cons_inv;unfold TL.getN at e|-;split at e
  ·rename_i hn;cases e;exact⟨v,if_pos hn,h1⟩
  ·rename_i hn;rw[if_neg hn];exact RTs.getN h2 e
theorem RTs.pv{f:Str}{t:T}{v:V}(h0:RT K M ρ t v):∀{ns:List Str}{ts:List T}{vs:List V},RTs K M ρ ts vs->RTs K M ρ (TL.pv f t ns ts) (TL.pv f v ns vs)
 | [],_,_,_=>.cons h0 .nil
 |n::ns,[],vs,h=>by rw[h.nil_inv];exact .nil
 |n::ns,x::ts,vs,h=>by
  obtain⟨u,r,rfl,h1,h2⟩:=h.cons_inv;unfold TL.pv;split
  ·exact .cons h0 h2
  ·exact .cons h1 (RTs.pv h0 h2)
end
noncomputable def oc(cls:String)(C:Sto):T->Option (Nat×List Str×List T)
 | .cell c=>(C[c]?).bind fun x=>match x.1 with
   | .o k ns=>if k=cls then some (c,ns,x.2)else none
   |_=>none
 |_=>none
theorem aJa{cls:String}{C:Sto}{t:T}{c:Nat}{ns:List Str}{ts:List T}(h:oc cls C t=some (c,ns,ts)):t=.cell c/\C[c]?=some (.o cls ns,ts):=by
 unfold oc at h;split at h
 ·obtain⟨⟨k,us⟩,e,h⟩:=aK.mp h;dsimp only at h;split at h
  ·split at h
   ·rename_i hk;cases h;cases hk;exact⟨rfl,e⟩
   ·cases h
  ·cases h
 ·cases h
def iM(K:aO)(cls:String)(f:Str):Prop:=∀C,bW K mainGlobals (Str.ofString cls)=some (some (.ref C))->Cls K C/\n5 K C f
def aEF(cls:String)(f:Str)(t:T)(C:Sto):Option (T×Sto):=(oc cls C t).bind fun x=>(getN f x.2.1 x.2.2).map fun u=>(u,C)
abbrev kW(cls:String)(f:Str)(a:FE):FE:=fUn a (aEF cls f)
def m8(cls:String)(f:Str)(fo fe:FE):FS:=fun τ C=>(fe τ C).bind fun p=>(fo τ p.2).bind fun q=>(oc cls q.2 q.1).bind fun x=>if x.2.1.length<900 then some (.nx,τ,q.2.set x.1 (.o cls (pn f x.2.1),pv f p.1 x.2.1 x.2.2))else none
def uG(cls:String)(f:Str)(g:Int->Int->Int)(fo fe:FE):FS:=fun τ C=>(fo τ C).bind fun q=>(oc cls q.2 q.1).bind fun x=>(getN f x.2.1 x.2.2).bind fun old=>match old with
 | .int i=>(fe τ q.2).bind fun p=>match p.1 with
   | .int j=>(oc cls p.2 q.1).bind fun y=>if y.2.1.length<900 then some (.nx,τ,p.2.set y.1 (.o cls (pn f y.2.1),pv f (.int (g i j)) y.2.1 y.2.2))else none
   |_=>none
 |_=>none
section
variable {K:aO}{W:XW}{σ:St}{H:Hp}{Q:VK}{D:Ends}{cls:String}{f:Str}
theorem Rel.oc{H₀:Hp}{Z:Addr->Prop}{ρ:Rho}{τ:TSt}{C:Sto}{t:T}{v:V}{c:Nat}{ns:List Str}{ts:List T}(R:Rel K H₀ Z ρ τ C σ H)(h:RT K (mask H Z ρ) ρ t v)(e:TL.oc cls C t=some (c,ns,ts)):
 ∃a Cl dx vs,v=.ref a/\ρ[c]?=some a/\ns.length=vs.length/\bW K mainGlobals (Str.ofString cls)=some (some (.ref Cl))/\H a=some (.ins Cl dx (ns.zip vs))/\RTs K (mask H Z ρ) ρ ts vs:=by
 obtain⟨rfl,e0⟩:=aJa e;unfold RT at h;obtain⟨a,ev,q⟩:=h;obtain⟨x,vs,ob,h1,h2,h3,h4⟩:=R.cel c a q;rw[e0]at h1;cases h1;obtain⟨hl,Cl,dx,hn,ho⟩:=h3;subst ho
 exact⟨a,Cl,dx,vs,ev,q,hl,hn,h2,h4⟩
theorem aNo{fa:FE}(hc:iM K cls f)(h:trE K (kW cls f fa) σ H Q):tFld K (trE K fa) f σ H Q:=by
 refine iD (aMA h) fun x H1 q=>?_
 obtain⟨t1,H₀,Z,ρ,τ,C,t,C',R,r,e,k⟩:=q;obtain⟨_,_,z,r1,r⟩:=r.cons_inv;cases z;unfold aEF at e;obtain⟨⟨c,ns,ts⟩,e1,e⟩:=aK.mp e;obtain⟨u,e2,e⟩:=aL.mp e;cases e;obtain⟨a,Cl,dx,vs,ev,q,hl,hn,hH,hr⟩:=R.oc r1 e1;obtain⟨v,e3,rv⟩:=hr.getN e2;obtain⟨h1,h2⟩:=hc Cl hn
 exact⟨a,Cl,dx,_,v,ev,hH,h1,h2,by rw[u5];exact e3,k v H1 ρ R rv .refl⟩
theorem aNs{fo fe:FE}(hc:iM K cls f)(h:trS K W (m8 cls f fo fe) D σ H):sFld K (trE K fo) (trE K fe) f D σ H:=by
 obtain⟨H₀,Z,ρ,τ,C,fl,ag,C',R,e,k⟩:=h;unfold m8 at e;obtain⟨⟨t1,C1⟩,e1,e⟩:=aK.mp e;obtain⟨⟨t2,C2⟩,e2,e⟩:=aK.mp e;obtain⟨⟨c,ns,ts⟩,e3,e⟩:=aK.mp e;dsimp only at e;split at e
 ·rename_i hl9;cases e
  refine⟨H₀,Z,ρ,τ,C,t1,C1,R,e1,fun y H1 af R1 h1 s1=>?_⟩
  refine⟨H₀,Z,af,τ,C1,t2,C2,R1,e2,fun x H2 ar R2 h2 s2=>?_⟩
  obtain⟨a,Cl,dx,vs,ev,q,hl,hn,hH,hr⟩:=R2.oc h2 e3;obtain⟨p1,p2⟩:=hc Cl hn;obtain⟨w1,w2⟩:=R2.put (kd:=.o cls (pn f ns)) (ob:=.ins Cl dx ((pn f ns).zip (pv f y ns vs))) q (by rw[hH];trivial) ⟨aDr hl,Cl,dx,hn,rfl⟩ (hr.pv (h1.step s2))
  exact⟨a,Cl,dx,_,ev,hH,p1,p2,by rw[dG];lia,by rw[aAa hl];exact k σ _ ar w1 ((s1.trans s2).ss.trans w2)⟩
 ·cases e
theorem aBG{fo fe:FE}{g:Int->Int->Int}{rd:V->V->Hp->VK->Prop}(rm:∀i j H Q,Q (.int (g i j)) H->rd (.int i) (.int j) H Q)(hc:iM K cls f)(h:trS K W (uG cls f g fo fe) D σ H):sFldAug K (trE K fo) (trE K fe) rd f D σ H:=by
 obtain⟨H₀,Z,ρ,τ,C,fl,ag,C',R,e,k⟩:=h;unfold uG at e;obtain⟨⟨t1,C1⟩,e1,e⟩:=aK.mp e;obtain⟨⟨c,ns,ts⟩,e3,e⟩:=aK.mp e;obtain⟨old,e4,e⟩:=aK.mp e;dsimp only at e;split at e
 ·rename_i i;obtain⟨⟨t2,C2⟩,e2,e⟩:=aK.mp e;dsimp only at e;split at e
  ·rename_i j;obtain⟨⟨c2,uu,ts2⟩,e5,e⟩:=aK.mp e;dsimp only at e;split at e
   ·rename_i hl9;cases e
    refine⟨H₀,Z,ρ,τ,C,t1,C1,R,e1,fun x H1 af R1 h1 s1=>?_⟩
    obtain⟨a,Cl,dx,vs,ev,q,hl,hn,hH,hr⟩:=R1.oc h1 e3;obtain⟨v,e6,rv⟩:=hr.getN e4;obtain⟨p1,p2⟩:=hc Cl hn
    refine⟨a,Cl,dx,_,v,ev,hH,p1,p2,by rw[u5];exact e6,?_⟩
    refine⟨H₀,Z,af,τ,C1,_,C2,R1,e2,fun y H2 ar R2 h2 s2=>?_⟩
    rw[rv.int_inv,h2.int_inv]
    refine rm i j H2 _ ?_
    obtain⟨a',Cl',mj,vs',ij,q',dw,kq,vo,rn⟩:=R2.oc (h1.step s2) e5;rw[ev]at ij;cases ij;rw[hn]at kq;cases kq;obtain⟨w1,w2⟩:=R2.put (kd:=.o cls (pn f uu)) (ob:=.ins Cl mj ((pn f uu).zip (pv f (.int (g i j)) uu vs'))) (ts:=pv f (.int (g i j)) uu ts2) q' (by rw[vo];trivial) ⟨aDr dw,Cl,mj,hn,rfl⟩ (rn.pv .int)
    exact⟨mj,_,vo,by rw[dG];lia,by rw[aAa dw];exact k σ _ ar w1 ((s1.trans s2).ss.trans w2)⟩
   ·cases e
  ·cases e
 ·cases e
end
end TL
namespace TL
open PySem PySem.Spec PyProof.Rows L2
section
variable {X:Cx}{e o value:Expr}{fa fo fe:FE}{cls:String}{f:Str}{pos aq aw:Pos}
theorem j0(hc:iM X.K cls f)(he:QE X e fa)(hb:attributeBase e f X.env (eval e X.env)=eval e X.env:=by rfl):QE X (.Attribute e f pos) (kW cls f fa):=(aLD he hb).imp fun _ _ _=>aNo hc
theorem n6(hc:iM X.K cls f)(ho:QE X o fo)(hv:QE X value fe)(hs:swapsWith value (some (.Attribute o f aq)) pos.line X.env=pure false:=by rfl):QS X (.Assign [.Attribute o f aq] value pos) (m8 cls f fo fe):=(aLn ho hv hs).imp fun _ _ _=>aNs hc
theorem aE0(hc:iM X.K cls f)(ho:QE X o fo)(hv:QE X value fe):QS X (.AugAssign (.Attribute o f aw) .Add value pos) (uG cls f (fun i j=>i+j) fo fe):=(zI ho hv aLB).imp fun _ _ _=>aBG (fun i j H Q q=>⟨i,j,rfl,rfl,q⟩) hc
theorem aE1(hc:iM X.K cls f)(ho:QE X o fo)(hv:QE X value fe):QS X (.AugAssign (.Attribute o f aw) .Sub value pos) (uG cls f (fun i j=>i - j) fo fe):=(zI ho hv aHM).imp fun _ _ _=>aBG (fun i j H Q q=>⟨i,j,rfl,rfl,q⟩) hc
end
end TL
namespace TL
open PySem L2
def spS(K:aO)(n:Nat)(G:List T->Sto->Option (T×Sto)):Sp:=fun vs H Q _=>∃H₀ Z ρ τ C σ ts r C',Rel K H₀ Z ρ τ C σ H/\RTs K (mask H Z ρ) ρ ts vs/\ts.length=n/\G ts C=some (r,C')/\
 ∀v H' ae,Rel K H₀ Z ae τ C' σ H'->RT K (mask H' Z ae) ae r v->Step H H' ρ ae->Q v H'
def mW(B:FS)(m:Nat)(ts:List T)(C:Sto):Option (T×Sto):=match B (st0 m ts) C with
 |some (.nx,_,C')=>some (.non,C')
 |some (.rt r,_,C')=>some (r,C')
 |_=>none
section
variable {K:aO}{W:XW}{σ:St}{H:Hp}{Q:VK}{D:Ends}
variable{G:List T->Sto->Option (T×Sto)}{fa:FN}{cls:String}{Ca:Addr}
theorem jF{n:Nat}:∀vs H Q E,spS K n G vs H Q E->vs.length=n:=fun vs H Q E zz=>by obtain⟨H₀,Z,ρ,τ,C,σ,ts,r,C',R,rr,h,_⟩:=zz;rw[rr.length,h]
theorem Rel.back{H₀:Hp}{Z:Addr->Prop}{ρ ae:Rho}{τ ag:TSt}{C C':Sto}{ai:St}{H':Hp}(R:Rel K H₀ Z ρ τ C σ H)(R':Rel K H₀ Z ae ag C' ai H')(s:Step H H' ρ ae):Rel K H₀ Z ae τ C' σ H':=
 ⟨R'.old,R'.frs,R'.nd,R'.zd,fun i t e=>let ⟨v,h1,h2⟩:=R.loc i t e;⟨v,h1,h2.step s⟩,R'.cel,R'.len,R.lnt⟩
theorem kA{n m:Nat}{F:FS}{vs:List V}{E:XK}(h:spS K n (mW F m) vs H Q E):
 trS K W F {nx:=fun _ H'=>Q .non H',rt:=Q} (vs.map some++aT (m - vs.length) none) H:=by
 obtain⟨H₀,Z,ρ,τ,C,σ0,ts,r,C',R,rr,hn,e,k⟩:=h;unfold mW at e;split at e
 ·rename_i ag C2 hF;cases e
  refine⟨H₀,Z,ρ,st0 m ts,C,.nx,ag,C',R.locals rr,hF,fun ai H' ae R' s'=>?_⟩
  exact k .non H' ae (R.back R' s') .non s'
 ·rename_i u ag C2 hF;cases e
  refine⟨H₀,Z,ρ,st0 m ts,C,.rt r,ag,C',R.locals rr,hF,fun ai H' ae R' s'=>?_⟩
  exact fun v hv=>k v H' ae (R.back R' s') hv s'
 ·cases e
noncomputable def pK(n:Nat)(G:List T->Sto->Option (T×Sto))(ts:List T)(C:Sto):Option (T×Sto):=if ts.length=n then G ts C else none
abbrev kP(n:Nat)(G:List T->Sto->Option (T×Sto))(fa:FN):FE:=mV fa (pK n G)
theorem aAx{n:Nat}{vs:List V}{E:XK}(h:∃ts,trV K σ ts vs (pK n G ts) H Q):spS K n G vs H Q E:=by
 obtain⟨ts,H₀,Z,ρ,τ,C,t,C',R,r,e,k⟩:=h;unfold pK at e;split at e
 ·rename_i hn
  exact⟨H₀,Z,ρ,τ,C,σ,ts,t,C',R,r,hn,e,fun v H' ae R' rv s=>k v H' ae R' rv s⟩
 ·cases e
theorem aJN{n:Nat}{E:XK}(h:trE K (kP n G fa) σ H Q):aEv (spS K n G) [] E (trA K fa) σ H Q:=
 pF (aBN h) fun vs _ q=>by rw[aW];exact aAx q
def k7(cls:String)(m:Str)(n:Nat)(G:List T->Sto->Option (T×Sto))(fo:FE)(fa:FN):FE:=fun τ C=>(fo τ C).bind fun p=>(oc cls p.2 p.1).bind fun x=>match getN m x.2.1 x.2.2 with
 |some _=>none
 |none=>(fa τ p.2).bind fun q=>pK n G (p.1::q.1) q.2
theorem y6{α β:Type}{f:Str}:∀{ns:List Str}{ts:List α}{vs:List β},ts.length=vs.length->getN f ns ts=none->getN f ns vs=none
 | [],_,_,_,_=>by unfold getN;rfl
 |_::_,[],[],_,_=>by unfold getN;rfl
 |_::_,[],_::_,h,_=>by cases h
 |_::_,_::_,[],h,_=>by cases h
 |n::ns,t::ts,v::vs,h,e=>by
  unfold getN at e|-;split at e
  ·cases e
  ·rename_i hn;rw[if_neg hn];exact y6 (by simpa using h) e
theorem aGH{m:Str}{n:Nat}{fo:FE}{E:XK}(hc:bW K mainGlobals (Str.ofString cls)=some (some (.ref Ca)))(h:trE K (k7 cls m n G fo fa) σ H Q):aIg Ca m (spS K n G) [] E (trE K fo) (trA K fa) σ H Q:=by
 obtain⟨H₀,Z,ρ,τ,C,t,C',R,e,k⟩:=h;unfold k7 at e;obtain⟨⟨t1,C1⟩,e1,e⟩:=aK.mp e;obtain⟨⟨c,ns,ts⟩,e2,e⟩:=aK.mp e;dsimp only at e2 e;split at e
 ·cases e
 ·rename_i hm;obtain⟨⟨us,C2⟩,e3,e⟩:=aK.mp e;dsimp only at e3 e
  refine⟨H₀,Z,ρ,τ,C,t1,C1,R,e1,fun x H1 af R1 h1 s1=>?_⟩
  obtain⟨a,Cl,dx,vs,ev,q,hl,hn,hH,hr⟩:=R1.oc h1 e2;rw[hc]at hn;cases hn
  refine⟨a,dx,_,ev,hH,by rw[u5];exact y6 (by rw[hr.length]) hm,?_⟩
  refine⟨H₀,Z,af,τ,C1,us,C2,R1,e3,fun ws H2 ar R2 h2 s2=>?_⟩
  dsimp only;rw[aW]
  exact aAx ⟨t1::us,H₀,Z,ar,τ,C2,t,C',R2,.cons (h1.step s2) h2,e,fun v H3 az R3 h3 s3=>k v H3 az R3 h3 ((s1.trans s2).trans s3)⟩
def uA(cls:String)(n:Nat)(G:List T->Sto->Option (T×Sto))(gp:List T)(fa:FN):FE:=fun τ C=>(fa τ C).bind fun p=>(pK n G (.cell p.2.length::(p.1++gp)) (p.2++[(.o cls [],[])])).bind fun q=>match q.1 with
 | .non=>some (.cell p.2.length,q.2)
 |_=>none
theorem aMs{n:Nat}{gp:List T}{bn:List V}{E:XK}(hc:bW K mainGlobals (Str.ofString cls)=some (some (.ref Ca)))(hd:∀M ρ,RTs K M ρ gp bn)
 (h:trE K (uA cls n G gp fa) σ H Q):tMake Ca (spS K n G) bn E (trA K fa) σ H Q:=by
 obtain⟨H₀,Z,ρ,τ,C,t,C',R,e,k⟩:=h;unfold uA at e;obtain⟨⟨ts,C1⟩,e1,e⟩:=aK.mp e;obtain⟨⟨r,C2⟩,e2,e⟩:=aK.mp e;dsimp only at e2 e;split at e
 ·cases e
  refine⟨H₀,Z,ρ,τ,C,ts,C1,R,e1,fun vs H1 af R1 h1 s1 x dx hx hdx ay=>?_⟩
  obtain⟨R2,s2⟩:=R1.alloc (o:=.own x) hdx;have hx2:upd H1 dx (.own x) x=none:=by rw[fG (Ne.symm ay)];exact hx
  obtain⟨R3,s3,r3⟩:=R2.alloc_cl (kd:=.o cls []) (ts:=[]) (vs:=[]) (ob:=.ins Ca dx []) hx2 ⟨rfl,Ca,dx,hc,rfl⟩ .nil
  refine aAx (σ:=σ) ⟨.cell C1.length::(ts++gp),H₀,Z,af++[x],τ,C1++[(.o cls [],[])],.non,_,R3,.cons r3 (((h1.step s2).step s3).append (hd _ _)),e2,fun v H4 jn R4 h4 s4=>⟨h4.non_inv,?_⟩⟩
  exact k _ H4 jn R4 (r3.step s4) (((s1.trans s2).trans s3).trans s4)
 ·cases e
end
end TL
namespace L2
open PySem PySem.Spec PyProof.Rows
section
variable {κ:Type}[DecidableEq κ]
variable{p:κ×V}{r kvs:List (κ×V)}{o:Option V}{u:Option Value}
noncomputable def sV(kvs:List (κ×V))(k:κ):Option V:=(kvs.find? fun kv=>decide (kv.1=k)).map (·.2)
noncomputable def putK(kvs:List (κ×V))(k:κ)(v:V):List (κ×V):=
 if(kvs.any fun kv=>decide (kv.1=k))=true then kvs.map (fun kv=>if kv.1=k then(kv.1,v)else kv)else kvs++[(k,v)]
theorem rO{k:κ}(e:p.1=k):sV (p::r) k=some p.2:=by simp[sV,dC,e]
theorem pD{k:κ}(e:¬p.1=k):sV (p::r) k=sV r k:=by simp[sV,dC,e]
theorem aCp(k:κ):∀kvs:List (κ×V),(kvs.any fun kv=>decide (kv.1=k))=(sV kvs k).isSome
 | []=>rfl
 |p::r=>by
  rw[aOy];by_cases e:p.1=k
  ·simp only[rO e,decide_eq_true e,Bool.true_or,Option.isSome_some]
  ·rw[pD e,decide_eq_false e,Bool.false_or];exact aCp k r
theorem oW(kvs:List (κ×V))(k:κ)(v:V):(putK kvs k v).length<=kvs.length+1:=by
 unfold putK;split
 ·rw[aP];lia
 ·rw[aU,aN,aQ];lia
theorem oU.isSome_eq(r:oU o u):o.isSome=u.isSome:=by
 cases o with
 |none=>cases u with
  |none=>rfl
  |some _=>exact(show False from r).elim
 |some _=>cases u with
  |none=>exact(show False from r).elim
  |some _=>rfl
theorem oU.getD{d:V}{d':Value}(r:oU o u)(rd:RelV d d'):RelV (o.getD d) (u.getD d'):=by
 cases o with
 |none=>cases u with
  |none=>exact rd
  |some _=>exact(show False from r).elim
 |some _=>cases u with
  |none=>exact(show False from r).elim
  |some _=>exact r
theorem KV.val{vs:List (κ×Value)}(r:KV kvs vs)(k:κ):oU (sV kvs k) (valueAt vs k):=by
 unfold KV at r;induction r with
 |nil=>exact True.intro
 | @cons p q ps qs h t ih=>
   obtain⟨h1,h2⟩:=h;by_cases e:p.1=k
   ·have e':q.1=k:=h1.symm.trans e;have b:valueAt (q::qs) k=some q.2:=by simp[valueAt,dC,e']
    rw[rO e,b];exact h2
   ·have e':¬q.1=k:=fun z=>e (h1.trans z)
    have b:valueAt (q::qs) k=valueAt qs k:=by simp[valueAt,dC,e']
    rw[pD e,b];exact ih
theorem KV.any{vs:List (κ×Value)}(r:KV kvs vs)(k:κ):(kvs.any fun kv=>decide (kv.1=k))=vs.any fun kv=>decide (kv.1=k):=by
 unfold KV at r;induction r with
 |nil=>rfl
 |cons h t ih=>rw[aOy,aOy,ih,h.1]
theorem KV.repl{vs:List (κ×Value)}(r:KV kvs vs)(k:κ){y:V}{u:Value}(ry:RelV y u):
 KV (kvs.map fun kv=>if kv.1=k then(kv.1,y)else kv) (vs.map fun kv=>if kv.1=k then(kv.1,u)else kv):=by
 unfold KV at r|-;induction r with
 |nil=>exact .nil
 | @cons p q ps qs h t ih=>
   rw[aM,aM]
   refine .cons ?_ ih
   obtain⟨h1,h2⟩:=h;by_cases e:p.1=k
   ·rw[if_pos e,if_pos (h1.symm.trans e)];exact⟨h1,ry⟩
   ·rw[if_neg e,if_neg (fun z=>e (h1.trans z))];exact⟨h1,h2⟩
theorem KV.put{vs:List (κ×Value)}(r:KV kvs vs)(k:κ){y:V}{u:Value}(ry:RelV y u):KV (putK kvs k y) (stored vs k u):=by
 unfold putK stored;rw[r.any k];by_cases e:(vs.any fun kv=>decide (kv.1=k))=true
 ·rw[if_pos e,if_pos e];exact r.repl k ry
 ·rw[if_neg e,if_neg e];exact Paired.snoc r ⟨rfl,ry⟩
theorem KV.length{vs:List (κ×Value)}(r:KV kvs vs):kvs.length=vs.length:=Paired.length r
end
variable{u:Value}{kvs:List (List Key×V)}{xs:List (List Key×Addr×Value)}
theorem wA{P:Program}{w:World}{k:Key}(r:RelV (kV k) u):(iN P w).is k u=true:=by
 cases k with
 |inl i=>obtain⟨t,e⟩:=(show∃t,u=Value.int i t from r);subst e;exact aCj P w i t
 |inr x=>obtain⟨t,e⟩:=(show∃t,u=Value.str x t from r);subst e;exact aBc P w x t
theorem yU{P:Program}{w:World}:∀{ks:List Key}{us:List Value},Vals (ks.map kV) us->ItemsAre (iN P w) ks us
 | [],_,r=>by rw[bC]at r;cases r;exact .nil
 |k::ks,_,r=>by
  rw[aM]at r;cases r with
  |cons h t=>exact .cons (wA h) (yU t)
abbrev KT(H:Hp):List (List Key×V)->List (List Key×Addr×Value)->Prop:=Paired fun p q=>p.1=q.1/\H q.2.1=some (.tup (p.1.map kV))/\RelV p.2 q.2.2
theorem KT.val{H:Hp}(r:KT H kvs xs)(k:List Key):oU (sV kvs k) ((atKey xs k).map (·.2)):=by
 induction r with
 |nil=>exact True.intro
 | @cons p q ps qs h t ih=>
   obtain⟨h1,_,h2⟩:=h;by_cases e:p.1=k
   ·have e':q.1=k:=h1.symm.trans e;have b:atKey (q::qs) k=some q.2:=by simp[atKey,dC,e']
    rw[rO e,b];exact h2
   ·have e':¬q.1=k:=fun z=>e (h1.trans z)
    have b:atKey (q::qs) k=atKey qs k:=by simp[atKey,dC,e']
    rw[pD e,b];exact ih
theorem KT.repl{H:Hp}(r:KT H kvs xs)(k:List Key){y:V}(ry:RelV y u):
 KT H (kvs.map fun kv=>if kv.1=k then(kv.1,y)else kv) (xs.map (putAt k u)):=by
 induction r with
 |nil=>exact .nil
 | @cons p q ps qs h t ih=>
   rw[aM,aM]
   refine .cons ?_ ih
   obtain⟨h1,h2,h3⟩:=h;unfold putAt;by_cases e:p.1=k
   ·rw[if_pos e,if_pos (h1.symm.trans e)];exact⟨h1,h2,ry⟩
   ·rw[if_neg e,if_neg (fun z=>e (h1.trans z))];exact⟨h1,h2,h3⟩
theorem KT.put{H:Hp}(r:KT H kvs xs)(k:List Key){b:Addr}{y:V}(hb:H b=some (.tup (k.map kV)))(ry:RelV y u):
 KT H (putK kvs k y) (storedH xs k b u):=by
 have e:(kvs.any fun kv=>decide (kv.1=k))=(atKey xs k).isSome:=by
  rw[aCp,(r.val k).isSome_eq,aOU]
 unfold putK storedH;rw[e];by_cases q:(atKey xs k).isSome=true
 ·rw[if_pos q,if_pos q];exact r.repl k ry
 ·rw[if_neg q,if_neg q];exact Paired.snoc r ⟨rfl,hb,ry⟩
theorem KT.keeps{H H':Hp}(r:KT H kvs xs)(ht:∀b ys,H b=some (.tup ys)->H' b=some (.tup ys)):KT H' kvs xs:=
 Paired.mapP r fun _ _ z=>⟨z.1,ht _ _ z.2.1,z.2.2⟩
section
variable {P:Program}{w:World}{H:Hp}{h:Heap}{a:Addr}
theorem aKU{u:HO}(ok:HOk P w H h)(e:Rd H a u):jK P w H h a u:=e.ok ok
theorem vU{kvs:List (Key×V)}(ok:HOk P w H h)(e:Rd H a (.dK kvs)):kvs.length<=sizeLine/\(a==sysModules)=false/\∃vs,KV kvs vs/\h.DictOf (iN P w) a vs:=
 show jK P w H h a (.dK kvs)from aKU ok e
theorem aEj{kvs:List (Key×V)}(ok:HOk P w H h)(e:H a=some (.dK kvs)):kvs.length<=sizeLine/\(a==sysModules)=false/\∃vs,KV kvs vs/\h.DictOf (iN P w) a vs:=vU ok (.inl e)
theorem tD{ks:List Key}(ok:HOk P w H h)(e:H a=some (.tup (ks.map kV))):(tupleKind (iN P w)).is h ks a:=by
 obtain⟨_,its,r,o,h1,h2,n,h3⟩:=(show jK P w H h a (.tup (ks.map kV))from ok a _ e)
 exact⟨o,its.toArray,n,h1,h2,h3,by simpa using yU r⟩
theorem v6{kvs:List (List Key×V)}(ok:HOk P w H h)(e:Rd H a (.dT kvs)):kvs.length<=sizeLine/\(a==sysModules)=false/\
 ∃xs,KT H kvs xs/\h.DictOfH (tupleKind (iN P w)) a xs:=by
 obtain⟨z,y,xs,r,o,es,ep,h1,h2,h3,h4,h5⟩:=(show jK P w H h a (.dT kvs)from aKU ok e)
 refine⟨z,y,xs,r,o,es,ep,h1,h2,h3,h4,fun x hx=>?_,h5⟩
 have all:∀{l:List (List Key×V)}{m:List (List Key×Addr×Value)},KT H l m->∀x∈m,(tupleKind (iN P w)).is h x.1 x.2.1:=by
  intro l m q;induction q with
  |nil=>intro x hx;exact nomatch hx
  | @cons p q ps qs hq t ih=>
    intro x hx;rcases bE.mp hx with e|hx
    ·subst e
     exact tD ok (by rw[<-hq.1];exact hq.2.1)
    ·exact ih x hx
 exact all r x hx
theorem aN0{kvs:List (List Key×V)}(ok:HOk P w H h)(e:H a=some (.dT kvs)):kvs.length<=sizeLine/\(a==sysModules)=false/\
 ∃xs,KT H kvs xs/\h.DictOfH (tupleKind (iN P w)) a xs:=v6 ok (.inl e)
end
def qV(H:Hp)(a:Addr)(y:V)(r:Option V):Prop:=
 (∃kvs k,Rd H a (.dK kvs)/\y=kV k/\r=sV kvs k)\/∃kvs k b,Rd H a (.dT kvs)/\y=.ref b/\H b=some (.tup (k.map kV))/\r=sV kvs k
def yJ(H:Hp)(a:Addr)(y v:V)(H':Hp):Prop:=
 (∃kvs k,H a=some (.dK kvs)/\y=kV k/\kvs.length<sizeLine/\H'=upd H a (.dK (putK kvs k v)))\/
 ∃kvs k b,H a=some (.dT kvs)/\y=.ref b/\H b=some (.tup (k.map kV))/\kvs.length<sizeLine/\H'=upd H a (.dT (putK kvs k v))
theorem qV.k{H:Hp}{a:Addr}{kvs:List (Key×V)}{k:Key}(e:H a=some (.dK kvs)):qV H a (kV k) (sV kvs k):=.inl ⟨kvs,k,.inl e,rfl,rfl⟩
theorem yJ.k{H:Hp}{a:Addr}{kvs:List (Key×V)}{k:Key}{v:V}(e:H a=some (.dK kvs))(hl:kvs.length<sizeLine):yJ H a (kV k) v (upd H a (.dK (putK kvs k v))):=.inl ⟨kvs,k,e,rfl,hl,rfl⟩
theorem yJ.t{H:Hp}{a b:Addr}{kvs:List (List Key×V)}{k:List Key}{v:V}(e:H a=some (.dT kvs))(eb:H b=some (.tup (k.map kV)))(hl:kvs.length<sizeLine):
 yJ H a (.ref b) v (upd H a (.dT (putK kvs k v))):=.inr ⟨kvs,k,b,e,rfl,eb,hl,rfl⟩
section
variable {X:Cx}{aa:List (Addr×Obj)}{σ:St}{H:Hp}{s:Shared}{a:Addr}{y v:V}{u r:Value}{o:Option V}{A:Around}{E:Value->Shared->Prop}
variable{Q:Value->Shared->Prop}{h':Heap}
theorem Inv.big(I:Inv X aa σ H s):sysModules<s.heap.objs.size:=by
 have h:mainGlobals<s.heap.objs.size:=(I.mod.glob.keeps I.bk).lt
 exact aPs (by decide) h
theorem zP(hu:A.units+1<cLine)(I:Inv X aa σ H s)(g:qV H a y (some v))(ry:RelV y u)(h:∀w' s',Inv X aa σ H s'->RelV v w'->Q w' s'):
 wpAny (model X.prog X.w) A (getItem (.ref a) u) Q E s:=by
 rcases g with⟨kvs,k,e,ey,l⟩| ⟨kvs,k,b,e,ey,eb,l⟩
 ·subst ey;obtain⟨z,hd,vs,rel,dd⟩:=vU I.hok e;obtain⟨w',hw,fg⟩:=oU.some_of (v:=v) (o:=valueAt vs k) (by rw[l];exact rel.val k)
  exact wpAny_getItem_of (wA ry) dd.mapOf hw (h w' _ (I.tok _) fg)
 ·subst ey;cases (show u=Value.ref b from ry);obtain⟨z,hd,xs,rel,dd⟩:=v6 I.hok e;obtain⟨w',hw,fg⟩:=oU.some_of (v:=v) (o:=(atKey xs k).map (·.2)) (by rw[l];exact rel.val k);obtain⟨p,hp,oh⟩:=aL.mp hw
  refine wpAny_getItem_heap (tupleKind_room_in1 hu) (tD I.hok eb) dd hp ?_
  rw[oh]
  exact h w' _ (I.tok _) fg
theorem aN5(hu:A.units+1<cLine)(I:Inv X aa σ H s)(g:qV H a y o)(ry:RelV y u)(h:∀s',Inv X aa σ H s'->Q (.bool o.isSome) s'):
 wpAny (model X.prog X.w) A (compareOp .In u (.ref a)) Q E s:=by
 rcases g with⟨kvs,k,e,ey,l⟩| ⟨kvs,k,b,e,ey,eb,l⟩
 ·subst ey;obtain⟨z,hd,vs,rel,dd⟩:=vU I.hok e
  refine wpAny_in_of (wA ry) hd dd.mapOf ?_
  rw[<-(rel.val k).isSome_eq,<-l]
  exact h _ (I.tok _)
 ·subst ey;cases (show u=Value.ref b from ry);obtain⟨z,hd,xs,rel,dd⟩:=v6 I.hok e
  refine wpAny_in_heap (tupleKind_room_in1 hu) (tD I.hok eb) hd dd ?_
  have q:=(rel.val k).isSome_eq;rw[aOU]at q;rw[<-q,<-l]
  exact h _ (I.tok _)
theorem aIT(hu:A.units+1<cLine)(I:Inv X aa σ H s)(g:qV H a y o)(ry:RelV y u)(h:∀s',Inv X aa σ H s'->Q (.bool (!o.isSome)) s'):
 wpAny (model X.prog X.w) A (compareOp .NotIn u (.ref a)) Q E s:=by
 rcases g with⟨kvs,k,e,ey,l⟩| ⟨kvs,k,b,e,ey,eb,l⟩
 ·subst ey;obtain⟨z,hd,vs,rel,dd⟩:=vU I.hok e
  refine wpAny_notIn_of (wA ry) hd dd.mapOf ?_
  rw[<-(rel.val k).isSome_eq,<-l]
  exact h _ (I.tok _)
 ·subst ey;cases (show u=Value.ref b from ry);obtain⟨z,hd,xs,rel,dd⟩:=v6 I.hok e
  refine wpAny_notIn_heap (tupleKind_room_in1 hu) (tD I.hok eb) hd dd ?_
  have q:=(rel.val k).isSome_eq;rw[aOU]at q;rw[<-q,<-l]
  exact h _ (I.tok _)
theorem uW{t':Nat}{ob:HO}(I:Inv X aa σ H s)(mu:Mut (H a))(hs:Heap.SameBut a s.heap h')(he:∃q,h'.get? a=some q)(new:jK X.prog X.w (upd H a ob) h' a ob):
 Inv X aa σ (upd H a ob) {s with heap:=h',toks:=t'}:=
 I.write (x:=a) (e:=a) mu (.inl rfl) (fun b q hb z=>(hs.2 b hb).trans z) he new
theorem aDb{P:Program}{w:World}{H':Hp}{kvs:List (Key×V)}{vs:List (Key×Value)}(z:kvs.length<=sizeLine)(hd:(a==sysModules)=false)(rel:KV kvs vs)(dd:h'.DictOf (iN P w) a vs):
 jK P w H' h' a (.dK kvs):=⟨z,hd,vs,rel,dd⟩
theorem y4{H':Hp}{Q:Unit->Shared->Prop}(hu:A.units+1<cLine)(I:Inv X aa σ H s)(g:yJ H a y v H')(ry:RelV y u)(rv:RelV v r)(h:∀s',Inv X aa σ H' s'->Q () s'):
 wpAny (model X.prog X.w) A (setItem (.ref a) u r) Q E s:=by
 rcases g with⟨kvs,k,e,ey,l,eH⟩| ⟨kvs,k,b,e,ey,eb,l,eH⟩
 ·subst ey eH;obtain⟨z,hd,vs,rel,dd⟩:=aEj I.hok e;have hz:vs.length<=sizeLine:=by rw[<-rel.length];exact z
  have hl:(putK kvs k v).length<=sizeLine:=by have:=oW kvs k v;lia
  refine wpAny_setItem_pairs (hsz:=hz) (wA ry) dd fun h' jl hs=>h _ ?_
  have he:∃q,h'.get? a=some q:=let ⟨q,_,_,hq,_⟩:=jl;⟨q,hq⟩
  exact uW I (by rw[e];exact True.intro) hs he (aDb hl hd (rel.put k rv) jl)
 ·subst ey eH;cases (show u=Value.ref b from ry);obtain⟨z,hd,xs,rel,dd⟩:=aN0 I.hok e;have hz:xs.length<=sizeLine:=by rw[<-Paired.length rel];exact z
  have hl:(putK kvs k v).length<=sizeLine:=by have:=oW kvs k v;lia
  refine wpAny_setItem_heap (hsz:=hz) (tupleKind_room_in1 hu) (tD I.hok eb) dd fun h' jl hs=>h _ ?_
  obtain⟨q,es,ep,hq,h2,h3,h4,_,h5⟩:=jl
  refine uW I (by rw[e];exact True.intro) hs ⟨q,hq⟩ ⟨hl,hd,_,(rel.put k eb rv).keeps fun c ys ec=>?_,q,es,ep,hq,h2,h3,h4,h5⟩
  rw[fG (mZ ec e (fun z=>nomatch z))]
  exact ec
end
section
variable {X:Cx}{aa:List (Addr×Obj)}{σ:St}{H:Hp}{s:Shared}{a:Addr}{kvs:List (Key×V)}{k:Key}{u:Value}{A:Around}{E:Value->Shared->Prop}
end
variable{s:Shared}
def aLM(i:Expr):Prop:=∀ov iv,subscripted i false ov iv=operate [ov,iv] (getItem ov iv)
theorem aIJ{prog:Program}{w:World}{A:Around}{E:Value->Shared->Prop}{env:Env}{value slice:Expr}{pos:Pos}{T id:String}{Q:Value->Shared->Prop}
 (hl:typeLookup (.type T) "__getitem__"=pure (some (.builtin id)))(hs:aLM slice)
 (h:wpAny (model prog w) A (eval value env) (fun o aj=>wpAny (model prog w) A (eval slice env) (fun i bz=>bz.TypeIs o T/\wpAny (model prog w) A (getItem o i) Q E bz) E aj) E s):
 wpAny (model prog w) A (eval (.Subscript value slice pos) env) Q E s:=by
 refine Subscript_ (wpAny_mono h (fun o aj bg=>wpAny_mono bg (fun i bz cq=>?_) fun _ _ x=>x) fun _ _ x=>x)
 obtain⟨hT,cq⟩:=cq;unfold subscriptTail
 refine wpAny_bind ?_
 rw[getitemInPython_of_ne hT.not_modules]
 refine wpAny_bind (wpAny_specialOf hT hl ?_)
 have fin:wpAny (model prog w) A (subscripted slice false o i) (fun r cz=>wpAny (model prog w) A (letTemporaryGo value o r>>=fun _=>pure r) Q E cz) E bz:=by
  rw[hs o i]
  exact wpAny_operating (wpAny_mono cq (fun r cz jr=>wpAny_bind (wpAny_letTemporaryGo (wpAny_pure jr))) fun _ _ x=>x)
 first
  |exact wpAny_pure (wpAny_bind fin)
  |exact wpAny_bind (wpAny_pure (wpAny_bind fin))
  |exact wpAny_bind fin
theorem aCa{X:Cx}{aa:List (Addr×Obj)}{σ:St}{H:Hp}{a:Addr}{y:V}{o:Option V}(I:Inv X aa σ H s)(g:qV H a y o):s.TypeIs (.ref a) "dict":=by
 rcases g with⟨kvs,k,e,_,_⟩| ⟨kvs,k,b,e,_,_,_⟩
 ·obtain⟨_,_,vs,_,dd⟩:=vU I.hok e
  exact dd.typeIs
 ·obtain⟨_,_,xs,_,dd⟩:=v6 I.hok e
  exact dd.typeIs
noncomputable def tDGet(td ty:TE):TE:=fun σ H Q=>td σ H fun x H1=>ty σ H1 fun y H2=>∃a v,x=.ref a/\qV H2 a y (some v)/\Q v H2
noncomputable def tDIn(ty td:TE):TE:=fun σ H Q=>ty σ H fun y H1=>td σ H1 fun x H2=>∃a o,x=.ref a/\qV H2 a y o/\Q (.bl o.isSome) H2
noncomputable def tDNotIn(ty td:TE):TE:=fun σ H Q=>ty σ H fun y H1=>td σ H1 fun x H2=>∃a o,x=.ref a/\qV H2 a y o/\Q (.bl (!o.isSome)) H2
noncomputable def sDPut(td ty tv:TE):TS:=fun D σ H=>tv σ H fun v H1=>td σ H1 fun x H2=>ty σ H2 fun y H3=>∃a H4,x=.ref a/\yJ H3 a y v H4/\D.nx σ H4
def sDAug(td ty tv:TE)(rd:V->V->Hp->VK->Prop):TS:=fun D σ H=>td σ H fun x H1=>ty σ H1 fun y H2=>∃a v,x=.ref a/\qV H2 a y (some v)/\
 tv σ H2 fun y2 H3=>rd v y2 H3 fun z H4=>∃H5,yJ H4 a y z H5/\D.nx σ H5
section
variable {X:Cx}{o i e value:Expr}{pos aq aw:Pos}{td ty tv:TE}
theorem aJT(hu:X.A.units+1<cLine)(ho:PE X o td)(hi:PE X i ty)(hs:aLM i):PE X (.Subscript o i pos) (tDGet td ty):=by
 intro aa s σ H Q I h
 refine aIJ PySem.F.slot_dict_getitem.lookup hs (thn (ho aa s σ H _ I h) fun u s1 ⟨x,H1,I1,rx,q1⟩=>thn (hi aa s1 σ H1 _ I1 q1) fun iv s2 zz=>?_)
 obtain⟨y,H2,I2,ry,a,v,ex,g,q2⟩:=zz;subst ex;obtain rfl:u=Value.ref a:=rx
 exact⟨aCa I2 g,zP hu I2 g ry fun w' s3 I3 fg=>⟨v,H2,I3,fg,q2⟩⟩
theorem aL3(hu:X.A.units+1<cLine)(hi:PE X i ty)(ho:PE X o td):PC X .In i o (tDIn ty td):=by
 intro aa s σ H Q I h
 refine thn (hi aa s σ H _ I h) fun iv s1 ⟨y,H1,I1,ry,q1⟩=>thn (ho aa s1 σ H1 _ I1 q1) fun u s2 zz=>?_
 obtain⟨x,H2,I2,rx,a,ov,ex,g,q2⟩:=zz;subst ex;obtain rfl:u=Value.ref a:=rx
 exact aN5 hu I2 g ry fun s3 I3=>⟨.bl ov.isSome,H2,I3,rfl,q2⟩
theorem aFC(hu:X.A.units+1<cLine)(hi:PE X i ty)(ho:PE X o td):PC X .NotIn i o (tDNotIn ty td):=by
 intro aa s σ H Q I h
 refine thn (hi aa s σ H _ I h) fun iv s1 ⟨y,H1,I1,ry,q1⟩=>thn (ho aa s1 σ H1 _ I1 q1) fun u s2 zz=>?_
 obtain⟨x,H2,I2,rx,a,ov,ex,g,q2⟩:=zz;subst ex;obtain rfl:u=Value.ref a:=rx
 exact aIT hu I2 g ry fun s3 I3=>⟨.bl (!ov.isSome),H2,I3,rfl,q2⟩
theorem aKr(hu:X.A.units+1<cLine)(ho:PE X o td)(hi:PE X i ty)(hv:PE X value tv)(hs:swapsWith value (some (.Subscript o i aq)) pos.line X.env=pure false):
 PS X (.Assign [.Subscript o i aq] value pos) (sDPut td ty tv):=by
 intro aa s σ H D I h
 refine wpAny_Assign_Subscript (thn (hv aa s σ H _ I h) fun r s1 ⟨v,H1,I1,rv,q1⟩=>thn (ho aa s1 σ H1 _ I1 q1) fun u s2 ⟨x,H2,I2,rx,q2⟩=>thn (hi aa s2 σ H2 _ I2 q2) fun iv s3 ⟨y,H3,I3,ry,a,H4,ex,g,q3⟩=>?_) hs
 subst ex;obtain rfl:u=Value.ref a:=rx
 exact y4 hu I3 g ry rv fun s4 I4=>⟨σ,H4,I4,q3⟩
theorem aKt{op:Operator}{rd:V->V->Hp->VK->Prop}(hu:X.A.units+1<cLine)(ho:PE X o td)(hi:PE X i ty)(hv:PE X value tv)(xy:aIs X op rd)
 (ha:∀ov iv new,augStore i ov iv new=(do holding [new,ov,iv] (setItem ov iv new);release [new,ov,iv] [];pure .next)):PS X (.AugAssign (.Subscript o i aw) op value pos) (sDAug td ty tv rd):=by
 intro aa s σ H D I h
 refine wpAny_AugAssign_SubscriptAny (thn (ho aa s σ H _ I h) fun u s1 ⟨x,H1,I1,rx,q1⟩=>thn (hi aa s1 σ H1 _ I1 q1) fun iv s2 ⟨y,H2,I2,ry,a,v,ex,g,q2⟩=>?_) ha
 subst ex;obtain rfl:u=Value.ref a:=rx
 refine zP hu I2 g ry fun w' s3 I3 fg=>thn (hv aa s3 σ H2 _ I3 q2) fun w2 s4 ⟨y2,H3,I4,ry2,q3⟩=>thn (xy aa s4 σ H3 v y2 w' w2 _ I4 fg ry2 q3) fun w3 s5 zz=>?_
 obtain⟨z,H4,I5,rz,H5,g5,q4⟩:=zz
 exact y4 hu I5 g5 ry rz fun s6 I6=>⟨σ,H5,I6,q4⟩
end
variable{P:Program}{w:World}
theorem aBo{H:Hp}(h:Heap)(hb:sysModules<h.objs.size):jK P w H (h.push {cls:=.type "dict",data:=.dict #[]}) h.objs.size (.dK []):=
 ⟨dQ _,beq_eq_false_iff_ne.mpr (Ne.symm (bV hb)),[],.nil,Heap.DictOf.new h⟩
theorem aGm{H:Hp}(h:Heap)(hb:sysModules<h.objs.size):jK P w H (h.push {cls:=.type "dict",data:=.dict #[]}) h.objs.size (.dT []):=
 ⟨dQ _,beq_eq_false_iff_ne.mpr (Ne.symm (bV hb)),[],.nil,_,#[],0,Heap.get?_push_size _ rfl,⟨rfl,rfl,rfl⟩,rfl,rfl,aPJ⟩
def tDNewK:TE:=fun _ H Q=>∀p,H p=none->Q (.ref p) (upd H p (.dK []))
def tDNewT:TE:=fun _ H Q=>∀p,H p=none->Q (.ref p) (upd H p (.dT []))
section
variable {X:Cx}{pos:Pos}
theorem aGT:PE X (.Dict [] [] pos) tDNewK:=fun aa s σ H Q I h=>
 wpAny_Dict_empty ⟨.ref s.heap.objs.size,_,I.laid (a:=s.heap.objs.size) (o:=.dK []) (t':=s.toks) (fun _ _ q=>Heap.get?_push_of_some _ q) (bG _) (aBo s.heap I.big),rfl,h _ (I.hok.fresh (bG _))⟩
theorem aHw:PE X (.Dict [] [] pos) tDNewT:=fun aa s σ H Q I h=>
 wpAny_Dict_empty ⟨.ref s.heap.objs.size,_,I.laid (a:=s.heap.objs.size) (o:=.dT []) (t':=s.toks) (fun _ _ q=>Heap.get?_push_of_some _ q) (bG _) (aGm s.heap I.big),rfl,h _ (I.hok.fresh (bG _))⟩
end
variable{X:Cx}{pos:Pos}{ki:List (TE×TE)}
def aC5:List (TE×TE)->St->Hp->(List (V×V)->Hp->Prop)->Prop
 | [],_,H,Q=>Q [] H
 | (tk,tv)::r,σ,H,Q=>tk σ H fun x H1=>tv σ H1 fun y H2=>aC5 r σ H2 fun ps H3=>Q ((x,y)::ps) H3
abbrev VV:List (V×V)->List (Value×Value)->Prop:=Paired fun p q=>RelV p.1 q.1/\RelV p.2 q.2
def PPs(X:Cx)(pos:Pos)(keys:List (Option Expr))(values:List Expr)(ki:List (TE×TE)):Prop:=
 ∀(aa:List (Addr×Obj))(s:Shared)(σ:St)(H:Hp)(Q:List (V×V)->Hp->Prop),Inv X aa σ H s->aC5 ki σ H Q->
  wpAny (model X.prog X.w) X.A (evalPairs (pairTrees keys values X.env pos)) (fun vs s'=>∃ps H',Inv X aa σ H' s'/\VV ps vs/\Q ps H') X.xe s
theorem aJM:PPs X pos [] [] []:=fun aa s σ H Q I h=>pairTrees_nil_walk ⟨[],H,I,.nil,h⟩
theorem aF4{k v:Expr}{ks:List (Option Expr)}{vs:List Expr}{tk tv:TE}(hk:PE X k tk)(hv:PE X v tv)(hr:PPs X pos ks vs ki):
 PPs X pos (some k::ks) (v::vs) ((tk,tv)::ki):=fun aa s σ H Q I h=>
 pairTrees_cons_walk (thn (hk aa s σ H _ I h) fun u s1 ⟨x,H1,I1,rx,q1⟩=>thn (hv aa s1 σ H1 _ I1 q1) fun w2 s2 ⟨y,H2,I2,ry,q2⟩=>
  thn (hr aa s2 σ H2 _ I2 q2) fun ws s3 ⟨ps,H3,I3,rel,q3⟩=>⟨(x,y)::ps,H3,I3,.cons ⟨rx,ry⟩ rel,q3⟩)
def o4(kvs more:List (Key×V)):List (Key×V):=more.foldl (fun acc kv=>putK acc kv.1 kv.2) kvs
theorem KV.merge:∀{more:List (Key×V)}{rs:List (Key×Value)}{kvs:List (Key×V)}{vs:List (Key×Value)},KV more rs->KV kvs vs->KV (o4 kvs more) (merged vs rs):=by
 intro more rs kvs vs r;unfold KV at r;induction r generalizing kvs vs with
 |nil=>intro q;exact q
 | @cons p q ps qs h t ih=>
   intro r0;have e:KV (putK kvs p.1 p.2) (stored vs q.1 q.2):=by
    have:=r0.put p.1 h.2;rw[<-h.1];exact this
   exact ih e
theorem nF:∀(more kvs:List (Key×V)),(o4 kvs more).length<=kvs.length+more.length
 | [],kvs=>by show kvs.length<=kvs.length+0;lia
 |p::r,kvs=>by
  have h1:=nF r (putK kvs p.1 p.2);have h2:=oW kvs p.1 p.2;show(o4 (putK kvs p.1 p.2) r).length<=_;rw[aN];lia
theorem wS{P:Program}{w:World}:∀{kvs:List (Key×V)}{ws:List (Value×Value)},VV (kvs.map fun kv=>(kV kv.1,kv.2)) ws->∃rs,Carries (iN P w) ws rs/\KV kvs rs
 | [],_,r=>by rw[bC]at r;cases r;exact⟨[],True.intro,.nil⟩
 |p::kvs,_,r=>by
  rw[aM]at r;cases r with
  | @cons a b as bs h t=>
    obtain⟨rs,c,q⟩:=wS (P:=P) (w:=w) t;obtain⟨b1,b2⟩:=b
    exact⟨(p.1,b2)::rs,⟨wA h.1,rfl,c⟩,.cons ⟨rfl,h.2⟩ q⟩
def tDisp(ki:List (TE×TE)):TE:=fun σ H Q=>∀p,H p=none->aC5 ki σ (upd H p (.dK [])) fun ps H2=>H2 p=some (.dK [])/\∃kvs:List (Key×V),ps=kvs.map (fun kv=>(kV kv.1,kv.2))/\kvs.length<=15/\Q (.ref p) (upd H2 p (.dK (o4 [] kvs)))
theorem aIK{keys:List (Option Expr)}{values:List Expr}(h:PPs X pos keys values ki)(i':keys.all (·.isSome)=true)(hl:keys.length=values.length)(h0:keys≠[])
 (h15:keys.length<=15):PE X (.Dict keys values pos) (tDisp ki):=by
 intro aa s σ H Q I q;have hn:=I.hok.fresh (bG s.heap.objs.size);have I1:=I.laid (a:=s.heap.objs.size) (o:=.dK []) (h':=s.heap.push {cls:=.type "dict",data:=.dict #[]}) (t':=s.toks) (fun _ _ q=>Heap.get?_push_of_some _ q) (bG _) (aBo s.heap I.big)
 refine wpAny_Dict_walk (knd:=iN X.prog X.w) i' hl h0 h15 (thn (h aa _ σ _ _ I1 (q _ hn)) fun ws s2 zz=>?_)
 obtain⟨ps,H2,I2,rel,e,kvs,ep,lk,q2⟩:=zz;subst ep;obtain⟨rs,c,rk⟩:=wS (P:=X.prog) (w:=X.w) rel;obtain⟨z,hd,vs0,r0,dd⟩:=aEj I2.hok e;cases r0
 refine⟨rs,c,dd,fun h' jl hs=>⟨.ref s.heap.objs.size,_,?_,rfl,q2⟩⟩
 have hz:(o4 [] kvs).length<=sizeLine:=by
  have h1:=nF kvs [];rw[aQ]at h1;rw[sizeLine_eq];lia
 have he:∃q,h'.get? s.heap.objs.size=some q:=let ⟨q,_,_,hq,_⟩:=jl;⟨q,hq⟩
 exact uW I2 (by rw[e];exact True.intro) hs he (aDb hz hd (rk.merge .nil) jl)
structure M1(X:Cx)(o:Expr)(m:Str)(al:Pos)(e:Expr)(ak:Pos):Prop where
 base:attributeBase o m X.env (eval o X.env)=eval o X.env
 few:((backTo ak (starEach [e] X.env)).all (fun x=> !x.1)&&(backToKw ak (keywordEach [] X.env)).all (fun x=>x.1.isSome)
  &&decide (([e]:List Expr).length+([]:List Keyword).length+(if([]:List Keyword).isEmpty then 0 else 1)<30))=true
 line:(al.endLine==ak.line)=true
 trees:backTo ak (starEach [e] X.env)=[(false,eval e X.env)]
structure M2(X:Cx)(o:Expr)(m:Str)(al:Pos)(e f:Expr)(ak:Pos):Prop where
 base:attributeBase o m X.env (eval o X.env)=eval o X.env
 few:((backTo ak (starEach [e,f] X.env)).all (fun x=> !x.1)&&(backToKw ak (keywordEach [] X.env)).all (fun x=>x.1.isSome)
  &&decide (([e,f]:List Expr).length+([]:List Keyword).length+(if([]:List Keyword).isEmpty then 0 else 1)<30))=true
 line:(al.endLine==ak.line)=true
 trees:backTo ak (starEach [e,f] X.env)=[(false,eval e X.env),(false,eval f X.env)]
def IsD(H:Hp)(a:Addr):Prop:=(∃kvs,Rd H a (.dK kvs))\/∃kvs,Rd H a (.dT kvs)
theorem aGa{aa:List (Addr×Obj)}{σ:St}{H:Hp}{s:Shared}{a:Addr}(I:Inv X aa σ H s)(d:IsD H a):
 s.TypeIs (.ref a) "dict"/\(∀b,Value.ref a=.ref b->∃ob,s.heap.get? b=some ob/\ob.dict=none)/\(a==sysModules)=false:=by
 rcases d with⟨kvs,e⟩| ⟨kvs,e⟩
 ·obtain⟨_,hd,vs,_,dd⟩:=vU I.hok e
  refine⟨dd.typeIs,fun b q=>?_,hd⟩
  cases q;obtain⟨ob,_,_,h1,h2,_⟩:=dd
  exact⟨ob,h1,h2.2.1⟩
 ·obtain⟨_,hd,xs,_,dd⟩:=v6 I.hok e
  refine⟨dd.typeIs,fun b q=>?_,hd⟩
  cases q;obtain⟨ob,_,_,h1,h2,_⟩:=dd
  exact⟨ob,h1,h2.2.1⟩
section
variable {X:Cx}{aa:List (Addr×Obj)}{σ:St}{H:Hp}{s:Shared}{a:Addr}{y d:V}{u r:Value}{o:Option V}{A:Around}{E:Value->Shared->Prop}
theorem aMv{Q:Value->Shared->Prop}(hu:A.units+1<cLine)(I:Inv X aa σ H s)(g:qV H a y o)(ry:RelV y u)(rd:RelV d r)(h:∀w' s',Inv X aa σ H s'->RelV (o.getD d) w'->Q w' s'):
 wpAny (model X.prog X.w) A (call (.builtin "dict.get") [.ref a,u,r]) Q E s:=by
 rcases g with⟨kvs,k,e,ey,l⟩| ⟨kvs,k,b,e,ey,eb,l⟩
 ·subst ey;obtain⟨z,hd,vs,rel,dd⟩:=vU I.hok e
  refine call_meetsIn PySem.F.slot_dict_get dd.typeIs PySem.F.entry_dict_get (PySem.F.args_dict_get_3 _ _ _) (meets_dict_get_default (iN X.prog X.w) a (wA ry) hd r) ⟨_,dd.mapOf,h _ _ (I.tok _) ?_⟩
  rw[l]
  exact(rel.val k).getD rd
 ·subst ey;cases (show u=Value.ref b from ry);obtain⟨z,hd,xs,rel,dd⟩:=v6 I.hok e
  refine call_meetsIn PySem.F.slot_dict_get dd.typeIs PySem.F.entry_dict_get (PySem.F.args_dict_get_3 _ _ _) (meetsH_dict_get_default (tupleKind (iN X.prog X.w)) a b hd r) ⟨tupleKind_room_in1 hu,k,xs,tD I.hok eb,dd,h _ _ (I.tok _) ?_⟩
  rw[l]
  exact(rel.val k).getD rd
end
noncomputable def tDGet2(td ty tx:TE):TE:=fun σ H Q=>td σ H fun x H1=>∃a,x=.ref a/\IsD H1 a/\ty σ H1 fun y H2=>tx σ H2 fun z H3=>∃o,qV H3 a y o/\Q (o.getD z) H3
section
variable {X:Cx}{o e f:Expr}{al ak:Pos}{td ty tx:TE}
theorem aF2(hu:X.A.units+1<cLine)(ho:PE X o td)(he:PE X e ty)(hf:PE X f tx)(m:M2 X o "get" al e f ak):PE X (.Call (.Attribute o "get" al) [e,f] [] ak) (tDGet2 td ty tx):=by
 intro aa s σ H Q I h
 refine wpAny_Call_method m.base m.few m.line PySem.F.plainAttrs_dict PySem.F.slot_dict_get PySem.F.type_dict_get (thn (ho aa s σ H _ I h) fun u s1 zz=>?_)
 obtain⟨x,H1,I1,rx,a,ex,d,q1⟩:=zz;subst ex;obtain rfl:u=Value.ref a:=rx;obtain⟨t1,t2,_⟩:=aGa I1 d
 refine⟨t1,t2,?_⟩
 rw[m.trees]
 refine Calls.callWith_builtin rfl (Calls.evalArgs_plain (Calls.spliced_cons (thn (he aa s1 σ H1 _ I1 q1) fun iv s2 ⟨y,H2,I2,ry,q2⟩=>
  Calls.spliced_cons (thn (hf aa s2 σ H2 _ I2 q2) fun fv s3 ⟨z,H3,I3,rz,ov,g,q3⟩=>Calls.spliced_nil ?_))))
 exact aMv hu I3 g ry rz fun w' s4 I4 fg=>⟨_,H3,I4,fg,q3⟩
end
section
variable {X:Cx}{aa:List (Addr×Obj)}{σ:St}{H:Hp}{s:Shared}{a:Addr}{kvs:List (Key×V)}{A:Around}{E:Value->Shared->Prop}
end
section
variable {X:Cx}{aa:List (Addr×Obj)}{σ:St}{H:Hp}{s:Shared}{a:Addr}{y:V}{u:Value}{A:Around}{E:Value->Shared->Prop}
end
end L2
namespace TL
open PySem L2
section
variable {κ:Type}[DecidableEq κ]{α:Type}
variable{ks:List κ}
noncomputable def vl(l:List (κ×α))(k:κ):Option α:=(l.find? fun kv=>decide (kv.1=k)).map (·.2)
noncomputable def pkK(k:κ)(ks:List κ):List κ:=if k∈ks then ks else ks++[k]
noncomputable def pvK(k:κ)(v:α)(ks:List κ)(vs:List α):List α:=if k∈ks then(ks.zip vs).map fun kv=>if kv.1=k then v else kv.2 else vs++[v]
theorem aEd{k:κ}:∀{ks:List κ}{vs:List α},ks.length=vs.length->((ks.zip vs).any fun kv=>decide (kv.1=k))=decide (k∈ks)
 | [],_,_=>rfl
 |_::_,[],h=>by cases h
 |x::ks,v::vs,h=>by
  rw[cE,aOy,aEd (by simpa using h)];by_cases e:x=k
  ·simp[e]
  ·simp[e,Ne.symm e]
theorem uB{k:κ}{v:α}:∀{ks:List κ}{vs:List α},ks.length=vs.length->(ks.zip vs).map (fun kv=>if kv.1=k then(kv.1,v)else kv)=ks.zip ((ks.zip vs).map fun kv=>if kv.1=k then v else kv.2)
 | [],_,_=>rfl
 |_::_,[],h=>by cases h
 |x::ks,w::vs,h=>by
  rw[cE,aM,aM,cE,uB (by simpa using h)];dsimp only;split<;>rfl
theorem wG{k:κ}{v:V}{vs:List V}(h:ks.length=vs.length):putK (ks.zip vs) k v=(pkK k ks).zip (pvK k v ks vs):=by
 unfold putK pkK pvK;rw[aEd h];by_cases e:k∈ks
 ·rw[if_pos (decide_eq_true e),if_pos e,if_pos e,uB h]
 ·rw[if_neg (by simpa using e),if_neg e,if_neg e,List.zip_append h];rfl
theorem aC4{k:κ}{v:α}{vs:List α}(h:ks.length=vs.length):(pkK k ks).length=(pvK k v ks vs).length:=by
 unfold pkK pvK;split
 ·rw[aP,dG,<-h,Nat.min_self]
 ·simp[h]
end
section
variable {K:aO}{M:Hp}{ρ:Rho}{κ:Type}[DecidableEq κ]
theorem RTs.vl{k:κ}:∀{ks:List κ}{ts:List T}{vs:List V},RTs K M ρ ts vs->∀{t:T},TL.vl (ks.zip ts) k=some t->∃v,sV (ks.zip vs) k=some v/\RT K M ρ t v
 | [],_,_,_,_,e=>by cases e
 |_::_,[],_,_,_,e=>by cases e
 |x::ks,u::ts,vs,h,t,e=>by
  obtain⟨v,r,rfl,h1,h2⟩:=h.cons_inv;rw[cE];rw[cE]at e;unfold TL.vl at e;rw[dC]at e;by_cases q:x=k
  ·rw[show decide ((x,u).1=k)=true from decide_eq_true q]at e;cases e
   exact⟨v,rO q,h1⟩
  ·rw[show decide ((x,u).1=k)=false from decide_eq_false q]at e;rw[pD (p:=(x,v)) q]
   exact RTs.vl h2 e
theorem RTs.vlN{k:κ}:∀{ks:List κ}{ts:List T}{vs:List V},RTs K M ρ ts vs->TL.vl (ks.zip ts) k=none->sV (ks.zip vs) k=none
 | [],_,_,_,_=>rfl
 |_::_,[],vs,h,_=>by rw[h.nil_inv];rfl
 |x::ks,u::ts,vs,h,e=>by
  obtain⟨v,r,rfl,h1,h2⟩:=h.cons_inv;rw[cE]at e|-;unfold TL.vl at e;rw[dC]at e;by_cases q:x=k
  ·rw[show decide ((x,u).1=k)=true from decide_eq_true q]at e;cases e
  ·rw[show decide ((x,u).1=k)=false from decide_eq_false q]at e;rw[pD (p:=(x,v)) q]
   exact RTs.vlN h2 e
theorem RTs.pvK{k:κ}{t:T}{v:V}(h0:RT K M ρ t v){ks:List κ}{ts:List T}{vs:List V}(h:RTs K M ρ ts vs):RTs K M ρ (TL.pvK k t ks ts) (TL.pvK k v ks vs):=by
 unfold TL.pvK;split
 ·have:∀{ks:List κ}{ts:List T}{vs:List V},RTs K M ρ ts vs->RTs K M ρ ((ks.zip ts).map fun kv=>if kv.1=k then t else kv.2) ((ks.zip vs).map fun kv=>if kv.1=k then v else kv.2):=by
   intro ks;induction ks with
   |nil=>intro ts vs _;exact .nil
   |cons x ks ih=>
    intro ts vs h;cases ts with
    |nil=>rw[h.nil_inv];exact .nil
    |cons u ts=>
     obtain⟨w,r,rfl,h1,h2⟩:=h.cons_inv;rw[cE,cE,aM,aM]
     refine .cons ?_ (ih h2)
     dsimp only;split
     ·exact h0
     ·exact h1
  exact this h
 ·exact h.append (.cons h0 .nil)
end
variable{c:Nat}{ks:List (List Key)}
noncomputable def kyT:T->Option Key
 | .int i=>some (.inl i)
 |_=>none
def aIU:List T->Option (List Key)
 | []=>some []
 |t::ts=>(kyT t).bind fun k=>(aIU ts).map fun ks=>k::ks
def ktT:T->Option (List Key)
 | .tup ts=>aIU ts
 |_=>none
noncomputable def dkc(C:Sto):T->Option (Nat×List Key×List T)
 | .cell c=>(C[c]?).bind fun x=>match x.1 with
   | .dk ks=>some (c,ks,x.2)
   |_=>none
 |_=>none
noncomputable def dtc(C:Sto):T->Option (Nat×List (List Key)×List T)
 | .cell c=>(C[c]?).bind fun x=>match x.1 with
   | .dt ks=>some (c,ks,x.2)
   |_=>none
 |_=>none
noncomputable def dzc(C:Sto):T->Option (Nat×List (List Key)×List T)
 | .cell c=>(C[c]?).bind fun x=>match x.1 with
   | .dt ks=>some (c,ks,x.2)
   | .dz ks=>some (c,ks,x.2)
   |_=>none
 |_=>none
theorem aBe{C:Sto}{t:T}{ks:List Key}{ts:List T}(h:dkc C t=some (c,ks,ts)):t=.cell c/\C[c]?=some (.dk ks,ts):=by
 unfold dkc at h;split at h
 ·obtain⟨⟨k,us⟩,e,h⟩:=aK.mp h;dsimp only at h;split at h
  ·cases h;exact⟨rfl,e⟩
  ·cases h
 ·cases h
theorem aId{C:Sto}{t:T}{ts:List T}(h:dtc C t=some (c,ks,ts)):t=.cell c/\C[c]?=some (.dt ks,ts):=by
 unfold dtc at h;split at h
 ·obtain⟨⟨k,us⟩,e,h⟩:=aK.mp h;dsimp only at h;split at h
  ·cases h;exact⟨rfl,e⟩
  ·cases h
 ·cases h
theorem aGL{C:Sto}{t:T}{ts:List T}(h:dzc C t=some (c,ks,ts)):t=.cell c/\(C[c]?=some (.dt ks,ts)\/C[c]?=some (.dz ks,ts)):=by
 unfold dzc at h;split at h
 ·obtain⟨⟨k,us⟩,e,h⟩:=aK.mp h;dsimp only at h;split at h
  ·cases h;exact⟨rfl,.inl e⟩
  ·cases h;exact⟨rfl,.inr e⟩
  ·cases h
 ·cases h
section
variable {K:aO}{W:XW}{σ:St}{H:Hp}{Q:VK}{D:Ends}{M:Hp}{ρ:Rho}
variable{fk fv fd:FE}{td tk:T}
theorem aAI{t:T}{v:V}{k:Key}(h:RT K M ρ t v)(e:kyT t=some k):v=kV k:=by
 unfold kyT at e;split at e
 ·cases e;exact h.int_inv
 ·cases e
theorem aD3:∀{ts:List T}{vs:List V}{ks:List Key},RTs K M ρ ts vs->aIU ts=some ks->vs=ks.map kV
 | [],_,_,h,e=>by cases e;exact h.nil_inv
 |t::ts,vs,ks,h,e=>by
  obtain⟨v,r,rfl,h1,h2⟩:=h.cons_inv;unfold aIU at e;obtain⟨k,e1,e⟩:=aK.mp e;obtain⟨ks',e2,e⟩:=aL.mp e;cases e;rw[aAI h1 e1,aD3 h2 e2];rfl
theorem aHc{Z:Addr->Prop}{t:T}{v:V}{k:List Key}(h:RT K (mask H Z ρ) ρ t v)(e:ktT t=some k):∃b,v=.ref b/\H b=some (.tup (k.map kV)):=by
 unfold ktT at e;split at e
 ·unfold RT at h;obtain⟨a,vs,e1,q,r⟩:=h
  exact⟨a,e1,by rw[(lK.mp q).2.2,aD3 r e]⟩
 ·cases e
theorem Rel.dk{H₀:Hp}{Z:Addr->Prop}{τ:TSt}{C:Sto}{t:T}{v:V}{c:Nat}{ks:List Key}{ts:List T}(R:Rel K H₀ Z ρ τ C σ H)(h:RT K (mask H Z ρ) ρ t v)(e:dkc C t=some (c,ks,ts)):
 ∃a vs,v=.ref a/\ρ[c]?=some a/\ks.length=vs.length/\H a=some (.dK (ks.zip vs))/\RTs K (mask H Z ρ) ρ ts vs:=by
 obtain⟨rfl,e0⟩:=aBe e;unfold RT at h;obtain⟨a,ev,q⟩:=h;obtain⟨x,vs,ob,h1,h2,h3,h4⟩:=R.cel c a q;rw[e0]at h1;cases h1;obtain⟨hl,rfl⟩:=h3
 exact⟨a,vs,ev,q,hl,h2,h4⟩
theorem Rel.dt{H₀:Hp}{Z:Addr->Prop}{τ:TSt}{C:Sto}{t:T}{v:V}{c:Nat}{ks:List (List Key)}{ts:List T}(R:Rel K H₀ Z ρ τ C σ H)(h:RT K (mask H Z ρ) ρ t v)(e:dtc C t=some (c,ks,ts)):
 ∃a vs,v=.ref a/\ρ[c]?=some a/\ks.length=vs.length/\H a=some (.dT (ks.zip vs))/\RTs K (mask H Z ρ) ρ ts vs:=by
 obtain⟨rfl,e0⟩:=aId e;unfold RT at h;obtain⟨a,ev,q⟩:=h;obtain⟨x,vs,ob,h1,h2,h3,h4⟩:=R.cel c a q;rw[e0]at h1;cases h1;obtain⟨hl,rfl⟩:=h3
 exact⟨a,vs,ev,q,hl,h2,h4⟩
theorem Rel.dz{H₀:Hp}{Z:Addr->Prop}{τ:TSt}{C:Sto}{t:T}{v:V}{c:Nat}{ks:List (List Key)}{ts:List T}(R:Rel K H₀ Z ρ τ C σ H)(h:RT K (mask H Z ρ) ρ t v)(e:dzc C t=some (c,ks,ts)):
 ∃a vs,v=.ref a/\ρ[c]?=some a/\ks.length=vs.length/\Rd H a (.dT (ks.zip vs))/\RTs K (mask H Z ρ) ρ ts vs:=by
 obtain⟨rfl,e0⟩:=aGL e;unfold RT at h;obtain⟨a,ev,q⟩:=h;obtain⟨x,vs,ob,h1,h2,h3,h4⟩:=R.cel c a q;rcases e0 with e0|e0
 ·rw[e0]at h1;cases h1;obtain⟨hl,rfl⟩:=h3
  exact⟨a,vs,ev,q,hl,.inl h2,h4⟩
 ·rw[e0]at h1;cases h1;obtain⟨hl,o,rfl⟩:=h3
  exact⟨a,vs,ev,q,hl,.inr ⟨o,h2⟩,h4⟩
noncomputable def uE(kd:Kd):FE:=fun _ C=>some (.cell C.length,C++[(kd,[])])
theorem aJs(h:trE K (uE (.dk [])) σ H Q):tDNewK σ H Q:=by
 obtain⟨H₀,Z,ρ,τ,C,t,C',R,e,k⟩:=h;cases e;intro p hp;obtain⟨R1,s1,r1⟩:=R.alloc_cl (kd:=.dk []) (ts:=[]) (vs:=[]) (ob:=.dK []) hp ⟨rfl,rfl⟩ .nil
 exact k _ _ _ R1 r1 s1
theorem aKb(h:trE K (uE (.dt [])) σ H Q):tDNewT σ H Q:=by
 obtain⟨H₀,Z,ρ,τ,C,t,C',R,e,k⟩:=h;cases e;intro p hp;obtain⟨R1,s1,r1⟩:=R.alloc_cl (kd:=.dt []) (ts:=[]) (vs:=[]) (ob:=.dT []) hp ⟨rfl,rfl⟩ .nil
 exact k _ _ _ R1 r1 s1
def tP(fk fv:FE):FE:=fun τ C=>(fk τ (C++[(.dk [],[])])).bind fun p=>(fv τ p.2).bind fun q=>(kyT p.1).bind fun k=>match dkc q.2 (.cell C.length)with
 |some (_,[],[])=>some (.cell C.length,q.2.set C.length (.dk [k],[q.1]))
 |_=>none
theorem aIz(h:trE K (tP fk fv) σ H Q):tDisp [(trE K fk,trE K fv)] σ H Q:=by
 obtain⟨H₀,Z,ρ,τ,C,t,C',R,e,k⟩:=h;intro p hp;unfold tP at e;obtain⟨⟨t1,C1⟩,e1,e⟩:=aK.mp e;obtain⟨⟨t2,C2⟩,e2,e⟩:=aK.mp e;obtain⟨ky,e3,e⟩:=aK.mp e;dsimp only at e2 e;split at e
 ·rename_i e4;cases e;obtain⟨R1,s1,r1⟩:=R.alloc_cl (kd:=.dk []) (ts:=[]) (vs:=[]) (ob:=.dK []) hp ⟨rfl,rfl⟩ .nil
  refine⟨H₀,Z,_,τ,_,t1,C1,R1,e1,fun x H1 af um h1 s2=>?_⟩
  refine⟨H₀,Z,af,τ,C1,t2,C2,um,e2,fun y H2 ar R2 h2 s3=>?_⟩
  have r3:=(r1.step s2).step s3;obtain⟨a,vs,ev,q,hl,hH,hr⟩:=R2.dk r3 e4;have ec:=(aBe e4).1;cases ec;cases ev;rw[hr.nil_inv]at hH
  refine⟨hH,[(ky,y)],by rw[aAI h1 e3];rfl,by simp,?_⟩
  obtain⟨w1,w2⟩:=R2.put (kd:=.dk [ky]) (ts:=[t2]) (vs:=[y]) (ob:=.dK [(ky,y)]) q (by rw[hH];trivial) ⟨rfl,rfl⟩ (.cons h2 .nil)
  exact k _ _ ar w1 (r3.step w2) (((s1.trans s2).trans s3).trans w2)
 ·cases e
def dval(C:Sto)(td tk:T):Option (Option T):=match dkc C td with
 |some x=>(kyT tk).map fun k=>vl (x.2.1.zip x.2.2) k
 |none=>(dzc C td).bind fun x=>(ktT tk).map fun k=>vl (x.2.1.zip x.2.2) k
theorem Rel.dval{H₀:Hp}{Z:Addr->Prop}{τ:TSt}{C:Sto}{x y:V}{o:Option T}(R:Rel K H₀ Z ρ τ C σ H)(h1:RT K (mask H Z ρ) ρ td x)(h2:RT K (mask H Z ρ) ρ tk y)(e:TL.dval C td tk=some o):
 ∃a w,x=.ref a/\IsD H a/\qV H a y w/\match o with
  |some t=>∃v,w=some v/\RT K (mask H Z ρ) ρ t v
  |none=>w=none:=by
 unfold TL.dval at e;split at e
 ·rename_i z hz;obtain⟨c,ks,ts⟩:=z;obtain⟨k,e1,e⟩:=aL.mp e;obtain⟨a,vs,ev,q,hl,hH,hr⟩:=R.dk h1 hz
  refine⟨a,_,ev,.inl ⟨_,.inl hH⟩,by rw[aAI h2 e1];exact qV.k hH,?_⟩
  cases o with
  |some t=>exact hr.vl e
  |none=>exact hr.vlN e
 ·obtain⟨⟨c,ks,ts⟩,hz,e⟩:=aK.mp e;obtain⟨k,e1,e⟩:=aL.mp e;obtain⟨a,vs,ev,q,hl,hH,hr⟩:=R.dz h1 hz;obtain⟨b,eb,hb⟩:=aHc h2 e1
  refine⟨a,_,ev,.inr ⟨_,hH⟩,.inr ⟨_,k,b,hH,eb,hb,rfl⟩,?_⟩
  cases o with
  |some t=>exact hr.vl e
  |none=>exact hr.vlN e
def aDL(td tk:T)(C:Sto):Option (T×Sto):=match dval C td tk with
 |some (some t)=>some (t,C)
 |_=>none
abbrev yR(fd fk:FE):FE:=iO fd fk aDL
theorem aK2(h:trE K (yR fd fk) σ H Q):tDGet (trE K fd) (trE K fk) σ H Q:=by
 refine iD (aEC h) fun x H1 q=>iD q fun y H2 q=>?_
 obtain⟨t1,t2,H₀,Z,ρ,τ,C,t,C',R,r,e,k⟩:=q;obtain⟨_,_,z,r1,r⟩:=r.cons_inv;cases z;obtain⟨_,_,z,r2,r⟩:=r.cons_inv;cases z;unfold aDL at e;split at e
 ·rename_i u hu;cases e;obtain⟨a,w,ex,_,g,v,ew,rv⟩:=R.dval r1 r2 hu;subst ew
  exact⟨a,v,ex,g,k v H2 ρ R rv .refl⟩
 ·cases e
def vO(b:Bool)(tk td:T)(C:Sto):Option (T×Sto):=(dval C td tk).map fun o=>(.bl (o.isSome==b),C)
theorem aKS{x y:V}{H2:Hp}(b:Bool)(q:∃t1 t2,trV K σ [t1,t2] [y,x] (vO b t1 t2) H2 Q):∃a o,x=.ref a/\qV H2 a y o/\Q (.bl (o.isSome==b)) H2:=by
 obtain⟨t1,t2,H₀,Z,ρ,τ,C,t,C',R,r,e,k⟩:=q;obtain⟨_,_,z,r1,r⟩:=r.cons_inv;cases z;obtain⟨_,_,z,r2,r⟩:=r.cons_inv;cases z;unfold vO at e;obtain⟨o,e1,e⟩:=aL.mp e;cases e;obtain⟨a,w,ex,_,g,hw⟩:=R.dval r2 r1 e1
 refine⟨a,w,ex,g,?_⟩
 cases o with
 |some t=>obtain⟨v,ew,rv⟩:=hw;subst ew;exact k _ H2 ρ R .bl .refl
 |none=>subst hw;exact k _ H2 ρ R .bl .refl
theorem aNu(h:trE K (iO fk fd (vO true)) σ H Q):tDIn (trE K fk) (trE K fd) σ H Q:=by
 refine iD (aEC h) fun x H1 q=>iD q fun y H2 q=>?_
 obtain⟨a,o,ex,g,q⟩:=aKS true q
 exact⟨a,o,ex,g,by cases o<;>exact q⟩
theorem aM6(h:trE K (iO fk fd (vO false)) σ H Q):tDNotIn (trE K fk) (trE K fd) σ H Q:=by
 refine iD (aEC h) fun x H1 q=>iD q fun y H2 q=>?_
 obtain⟨a,o,ex,g,q⟩:=aKS false q
 exact⟨a,o,ex,g,by cases o<;>exact q⟩
def isDc(C:Sto)(t:T):Bool:=(dkc C t).isSome||(dzc C t).isSome
theorem Rel.isDc{H₀:Hp}{Z:Addr->Prop}{τ:TSt}{C:Sto}{t:T}{v:V}(R:Rel K H₀ Z ρ τ C σ H)(h:RT K (mask H Z ρ) ρ t v)(e:TL.isDc C t=true):∃a,v=.ref a/\IsD H a:=by
 unfold TL.isDc at e;rcases Bool.or_eq_true_iff.mp e with e|e
 ·obtain⟨⟨c,ks,ts⟩,e⟩:=cT.mp e;obtain⟨a,vs,ev,q,hl,hH,hr⟩:=R.dk h e
  exact⟨a,ev,.inl ⟨_,.inl hH⟩⟩
 ·obtain⟨⟨c,ks,ts⟩,e⟩:=cT.mp e;obtain⟨a,vs,ev,q,hl,hH,hr⟩:=R.dz h e
  exact⟨a,ev,.inr ⟨_,hH⟩⟩
def tJ(fd fk fx:FE):FE:=fun τ C=>(fd τ C).bind fun p=>if isDc p.2 p.1=true then(fk τ p.2).bind fun q=>(fx τ q.2).bind fun r=>(dval r.2 p.1 q.1).map fun o=>(o.getD r.1,r.2)else none
theorem aJQ{fx:FE}(h:trE K (tJ fd fk fx) σ H Q):tDGet2 (trE K fd) (trE K fk) (trE K fx) σ H Q:=by
 obtain⟨H₀,Z,ρ,τ,C,t,C',R,e,k⟩:=h;unfold tJ at e;obtain⟨⟨t1,C1⟩,e1,e⟩:=aK.mp e;dsimp only at e;split at e
 ·rename_i hd;obtain⟨⟨t2,C2⟩,e2,e⟩:=aK.mp e;obtain⟨⟨t3,C3⟩,e3,e⟩:=aK.mp e;obtain⟨o,e4,e⟩:=aL.mp e;cases e;dsimp only at e3 e4
  refine⟨H₀,Z,ρ,τ,C,t1,C1,R,e1,fun x H1 af R1 h1 s1=>?_⟩
  obtain⟨a,ea,hD⟩:=R1.isDc h1 hd
  refine⟨a,ea,hD,?_⟩
  refine⟨H₀,Z,af,τ,C1,t2,C2,R1,e2,fun y H2 ar R2 h2 s2=>?_⟩
  refine⟨H₀,Z,ar,τ,C2,t3,C3,R2,e3,fun z H3 az R3 h3 s3=>?_⟩
  obtain⟨a',w,ex,_,g,hw⟩:=R3.dval ((h1.step s2).step s3) (h2.step s3) e4;rw[ea]at ex;cases ex
  refine⟨w,g,?_⟩
  cases o with
  |some u=>obtain⟨v,ew,rv⟩:=hw;subst ew;exact k _ H3 az R3 rv ((s1.trans s2).trans s3)
  |none=>subst hw;exact k _ H3 az R3 h3 ((s1.trans s2).trans s3)
 ·cases e
def dput(C:Sto)(td tk tv:T):Option Sto:=match dkc C td with
 |some x=>(kyT tk).bind fun k=>if x.2.1.length<lim then some (C.set x.1 (.dk (pkK k x.2.1),pvK k tv x.2.1 x.2.2))else none
 |none=>(dtc C td).bind fun x=>(ktT tk).bind fun k=>if x.2.1.length<lim then some (C.set x.1 (.dt (pkK k x.2.1),pvK k tv x.2.1 x.2.2))else none
theorem Rel.dput(hz:lim<=sizeLine){H₀:Hp}{Z:Addr->Prop}{τ:TSt}{C C':Sto}{tv:T}{x y v:V}(R:Rel K H₀ Z ρ τ C σ H)(h1:RT K (mask H Z ρ) ρ td x)(h2:RT K (mask H Z ρ) ρ tk y)(h3:RT K (mask H Z ρ) ρ tv v)(e:TL.dput C td tk tv=some C'):
 ∃a H',x=.ref a/\yJ H a y v H'/\Rel K H₀ Z ρ τ C' σ H'/\Step H H' ρ ρ:=by
 unfold TL.dput at e;split at e
 ·rename_i z xm;obtain⟨c,ks,ts⟩:=z;obtain⟨k,e1,e⟩:=aK.mp e;dsimp only at e;split at e
  ·rename_i gd;cases e;obtain⟨a,vs,ev,q,hl,hH,hr⟩:=R.dk h1 xm;obtain⟨w1,w2⟩:=R.put (kd:=.dk (pkK k ks)) (ob:=.dK ((pkK k ks).zip (pvK k v ks vs))) q (by rw[hH];trivial) ⟨aC4 hl,rfl⟩ (hr.pvK (k:=k) (ks:=ks) h3)
   refine⟨a,_,ev,?_,w1,w2⟩
   rw[aAI h2 e1,<-wG hl]
   exact yJ.k hH (by rw[dG];lia)
  ·cases e
 ·obtain⟨⟨c,ks,ts⟩,xm,e⟩:=aK.mp e;obtain⟨k,e1,e⟩:=aK.mp e;dsimp only at e;split at e
  ·rename_i gd;cases e;obtain⟨a,vs,ev,q,hl,hH,hr⟩:=R.dt h1 xm;obtain⟨w1,w2⟩:=R.put (kd:=.dt (pkK k ks)) (ob:=.dT ((pkK k ks).zip (pvK k v ks vs))) q (by rw[hH];trivial) ⟨aC4 hl,rfl⟩ (hr.pvK (k:=k) (ks:=ks) h3);obtain⟨b,eb,hb⟩:=aHc h2 e1
   refine⟨a,_,ev,?_,w1,w2⟩
   rw[eb,<-wG hl]
   exact yJ.t hH hb (by rw[dG];lia)
  ·cases e
def vW(fd fk fv:FE):FS:=fun τ C=>(fv τ C).bind fun p=>(fd τ p.2).bind fun q=>(fk τ q.2).bind fun r=>(dput r.2 q.1 r.1 p.1).map fun C'=>(.nx,τ,C')
theorem aLT(hz:lim<=sizeLine)(h:trS K W (vW fd fk fv) D σ H):sDPut (trE K fd) (trE K fk) (trE K fv) D σ H:=by
 obtain⟨H₀,Z,ρ,τ,C,fl,ag,C',R,e,k⟩:=h;unfold vW at e;obtain⟨⟨t1,C1⟩,e1,e⟩:=aK.mp e;obtain⟨⟨t2,C2⟩,e2,e⟩:=aK.mp e;obtain⟨⟨t3,C3⟩,e3,e⟩:=aK.mp e;obtain⟨C4,e4,e⟩:=aL.mp e;cases e;dsimp only at e2 e3 e4
 refine⟨H₀,Z,ρ,τ,C,t1,C1,R,e1,fun v H1 af R1 h1 s1=>?_⟩
 refine⟨H₀,Z,af,τ,C1,t2,C2,R1,e2,fun x H2 ar R2 h2 s2=>?_⟩
 refine⟨H₀,Z,ar,τ,C2,t3,C3,R2,e3,fun y H3 az R3 h3 s3=>?_⟩
 obtain⟨a,H4,ex,g,R4,s4⟩:=R3.dput hz (h2.step s3) h3 ((h1.step s2).step s3) e4
 exact⟨a,H4,ex,g,k σ H4 az R4 (((s1.trans s2).trans s3).trans s4)⟩
def zJ(g:Int->Int->Int)(fd fk fv:FE):FS:=fun τ C=>(fd τ C).bind fun p=>(fk τ p.2).bind fun q=>match dval q.2 p.1 q.1 with
 |some (some (.int i))=>(fv τ q.2).bind fun r=>match r.1 with
  | .int j=>(dput r.2 p.1 q.1 (.int (g i j))).map fun C'=>(.nx,τ,C')
  |_=>none
 |_=>none
theorem aLk(hz:lim<=sizeLine){g:Int->Int->Int}{rd:V->V->Hp->VK->Prop}(rm:∀i j H Q,Q (.int (g i j)) H->rd (.int i) (.int j) H Q)(h:trS K W (zJ g fd fk fv) D σ H):sDAug (trE K fd) (trE K fk) (trE K fv) rd D σ H:=by
 obtain⟨H₀,Z,ρ,τ,C,fl,ag,C',R,e,k⟩:=h;unfold zJ at e;obtain⟨⟨t1,C1⟩,e1,e⟩:=aK.mp e;obtain⟨⟨t2,C2⟩,e2,e⟩:=aK.mp e;dsimp only at e2 e;split at e
 ·rename_i i hv;obtain⟨⟨t3,C3⟩,e3,e⟩:=aK.mp e;dsimp only at e;split at e
  ·rename_i j;obtain⟨C4,e4,e⟩:=aL.mp e;cases e
   refine⟨H₀,Z,ρ,τ,C,t1,C1,R,e1,fun x H1 af R1 h1 s1=>?_⟩
   refine⟨H₀,Z,af,τ,C1,t2,C2,R1,e2,fun y H2 ar R2 h2 s2=>?_⟩
   obtain⟨a,w,ex,_,gg,v,ew,rv⟩:=R2.dval (h1.step s2) h2 hv;subst ew
   refine⟨a,v,ex,gg,?_⟩
   refine⟨H₀,Z,ar,τ,C2,_,C3,R2,e3,fun z H3 az R3 h3 s3=>?_⟩
   rw[rv.int_inv,h3.int_inv]
   refine rm i j H3 _ ?_
   obtain⟨a',H4,zj,g4,R4,s4⟩:=R3.dput hz ((h1.step s2).step s3) (h2.step s3) (v:=.int (g i j)) (.int) e4;rw[ex]at zj;cases zj
   exact⟨H4,g4,k σ H4 az R4 (((s1.trans s2).trans s3).trans s4)⟩
  ·cases e
 ·cases e
end
noncomputable def od{α:Type}:List α->List α
 |_::y::r=>y::od r
 |_=>[]
def aEW(f:FE):FN:=fun τ C=>(f τ C).bind fun p=>(liT p.2 p.1).map fun ts=>(od ts,p.2)
section
variable {K:aO}{W:XW}{σ:St}{H:Hp}{Q:VK}{D:Ends}{M:Hp}{ρ:Rho}
variable{H1:Hp}{af:Rho}
theorem RTs.od:∀{ts:List T}{vs:List V},RTs K M ρ ts vs->RTs K M ρ (TL.od ts) (TL.od vs)
 | [],_,h=>by rw[h.nil_inv];exact .nil
 | [t],vs,h=>by
   obtain⟨v,r,rfl,_,h2⟩:=h.cons_inv;rw[h2.nil_inv];exact .nil
 |t::u::ts,vs,h=>by
  obtain⟨v,r,rfl,_,h2⟩:=h.cons_inv;obtain⟨w,r,rfl,h3,h4⟩:=h2.cons_inv;unfold TL.od
  exact .cons h3 (RTs.od h4)
theorem aNi{f:FE}(h:trN K (aEW f) σ H Q):trE K f σ H fun x H1=>∃a xs,x=.ref a/\SqL K H1 a xs/\∀p,H1 p=none->Q (.ref p) (upd H1 p (.lst (od xs))):=by
 obtain⟨H₀,Z,ρ,τ,C,ys,C',R,e,q⟩:=h;unfold aEW at e;obtain⟨⟨t,C1⟩,e1,e⟩:=aK.mp e;obtain⟨ts,e2,e⟩:=aL.mp e;cases e
 refine⟨H₀,Z,ρ,τ,C,t,_,R,e1,fun v H1 af R1 h1 s1=>?_⟩
 obtain⟨a,vs,ev,qa,r⟩:=R1.li h1 e2
 exact⟨a,vs,ev,qa,fun p hp=>q p H1 af _ R1 hp r.od s1⟩
def Ite(K:aO)(l:Addr):It:=
 ⟨fun i H=>∃xs x,SqL K H l xs/\xs[i]?=some x,fun i H v H'=>∃p x,H p=none/\v=.ref p/\H'=upd H p (.tup [.int i,x])/\∀xs,SqL K H l xs->xs[i]?=some x,fun i H=>∃xs,SqL K H l xs/\xs.length<=i⟩
def iEnum(K:aO)(t:TA):TI:=fun σ H R=>t σ H fun vs H1=>∃l,vs=[.ref l]/\(∃xs,SqL K H1 l xs)/\R (Ite K l) H1
noncomputable def z9(ts:List T):List T:=ts.zipIdx.map fun p=>.tup [.int p.2,p.1]
theorem aHl{ts:List T}{i:Nat}:(z9 ts)[i]?=(ts[i]?).map fun t=>.tup [.int i,t]:=by
 unfold z9;rw[bK,aOz];cases ts[i]?<;>simp
theorem aGe{ts:List T}:(z9 ts).length=ts.length:=by simp[z9]
theorem aHA{Z:Addr->Prop}{H₀:Hp}{τ:TSt}{C:Sto}{σ:L2.St}{t:T}{ts:List T}{a:Addr}(R1:Rel K H₀ Z af τ C σ H1)(h1:RT K (mask H1 Z af) af t (.ref a))(e1:liT C t=some ts):
 Wlk K (Ite K a) Z H1 af (z9 ts) (stays t ts):=by
 refine⟨fun i t' H₀ Z' ae ag C' σ H ht R' sm ix ax _=>?_,fun H₀ Z' ae ag C' σ H R' sm ix ax _=>?_⟩
 ·obtain⟨ws,q1,r1⟩:=lM R1 h1 e1 R' sm ix ax;rw[aHl]at ht;obtain⟨u,z1,rfl⟩:=aL.mp ht;obtain⟨v1,lq,wg⟩:=r1.get z1
  refine⟨⟨ws,v1,q1,lq⟩,fun x H' hy=>?_⟩
  obtain⟨p,y,hp,rfl,rfl,k1⟩:=hy;have w1:=k1 ws q1;rw[lq]at w1;cases w1
  exact⟨fun b u h=>by rw[fG (fun z=>by rw[z,hp]at h;cases h)];exact h,R'.alloc_tup hp (.cons .int (.cons wg .nil))⟩
 ·obtain⟨ws,q1,r1⟩:=lM R1 h1 e1 R' sm ix ax
  exact⟨ws,q1,by rw[r1.length,aGe];exact bG _⟩
def xY(f:FE)(g:FG)(F:FS):FS:=fun τ C=>(f τ C).bind fun p=>(liT p.2 p.1).bind fun ts=>j6 (stays p.1 ts) g F (z9 ts) τ p.2
theorem aK6{f:FE}{g:FG}{F:FS}(h:trS K W (xY f g F) D σ H):aGY (iEnum K (trA K (eV f fF))) (trG K g) (trS K W F) D σ H:=by
 obtain⟨H₀,Z,ρ,τ,C,fl,ag,C',R,e,k⟩:=h;unfold xY at e;obtain⟨⟨t,C1⟩,e1,e⟩:=aK.mp e;obtain⟨ts,e2,e⟩:=aK.mp e
 refine⟨H₀,Z,ρ,τ,C,[t],C1,R,by simp[eV,fF,e1],fun vs H1 af R1 h1 s1=>?_⟩
 obtain⟨v,r,rfl,q1,q2⟩:=h1.cons_inv;rw[q2.nil_inv];obtain⟨a,vs,ea,qa,ra⟩:=R1.li q1 e2;subst ea
 exact⟨a,rfl,⟨vs,qa⟩,vF R1 (o8 e2) e (aHA R1 q1 e2) fun ai H' ae R' s'=>k ai H' ae R' (s1.trans s')⟩
def mrgK{α:Type}:List Key->List α->List Key×List α->List Key×List α
 |k::ks,v::vs,x=>mrgK ks vs (pkK k x.1,pvK k v x.1 x.2)
 |_,_,x=>x
theorem aDy:∀{ks':List Key}{vs':List V}{ks:List Key}{vs:List V},ks.length=vs.length->ks'.length=vs'.length->
 o4 (ks.zip vs) (ks'.zip vs')=(mrgK ks' vs' (ks,vs)).1.zip (mrgK ks' vs' (ks,vs)).2/\(mrgK ks' vs' (ks,vs)).1.length=(mrgK ks' vs' (ks,vs)).2.length
 | [],_,ks,vs,h,_=>by unfold mrgK;exact⟨rfl,h⟩
 |_::_,[],ks,vs,h,h'=>by cases h'
 |k::ks',v::vs',ks,vs,h,h'=>by
  rw[cE];show o4 (putK (ks.zip vs) k v) (ks'.zip vs')=_/\_;rw[wG h];unfold mrgK
  exact aDy (aC4 h) (by simpa using h')
theorem RTs.mrgK:∀{ks':List Key}{cm:List T}{vs':List V}{ks:List Key}{ts:List T}{vs:List V},RTs K M ρ cm vs'->RTs K M ρ ts vs->(TL.mrgK ks' cm (ks,ts)).1=(TL.mrgK ks' vs' (ks,vs)).1/\RTs K M ρ (TL.mrgK ks' cm (ks,ts)).2 (TL.mrgK ks' vs' (ks,vs)).2
 | [],_,_,ks,ts,vs,_,h=>by unfold TL.mrgK;exact⟨rfl,h⟩
 |_::_,[],vs',ks,ts,vs,h',h=>by rw[h'.nil_inv];unfold TL.mrgK;exact⟨rfl,h⟩
 |k::ks',t::cm,vs',ks,ts,vs,h',h=>by
  obtain⟨v,r,rfl,h1,h2⟩:=h'.cons_inv;unfold TL.mrgK
  exact RTs.mrgK h2 (h.pvK (k:=k) (ks:=ks) h1)
def tDUpd(td te:TE):TE:=fun σ H Q=>td σ H fun x H1=>∃a,x=.ref a/\IsD H1 a/\te σ H1 fun y H2=>∃b kvs more,y=.ref b/\a≠b/\H2 a=some (.dK kvs)/\H2 b=some (.dK more)/\kvs.length+more.length<=sizeLine/\Q .non (upd H2 a (.dK (o4 kvs more)))
def v3(fd fe:FE):FE:=fun τ C=>(fd τ C).bind fun p=>if isDc p.2 p.1=true then(fe τ p.2).bind fun q=>(dkc q.2 p.1).bind fun x=>(dkc q.2 q.1).bind fun y=>if x.1≠y.1/\x.2.1.length+y.2.1.length<=lim then
 some (.non,q.2.set x.1 (.dk (mrgK y.2.1 y.2.2 (x.2.1,x.2.2)).1,(mrgK y.2.1 y.2.2 (x.2.1,x.2.2)).2))else none else none
theorem aMM(hz:lim<=sizeLine){fd fe:FE}(h:trE K (v3 fd fe) σ H Q):tDUpd (trE K fd) (trE K fe) σ H Q:=by
 obtain⟨H₀,Z,ρ,τ,C,t,C',R,e,k⟩:=h;unfold v3 at e;obtain⟨⟨t1,C1⟩,e1,e⟩:=aK.mp e;dsimp only at e;split at e
 ·rename_i hd;obtain⟨⟨t2,C2⟩,e2,e⟩:=aK.mp e;obtain⟨⟨c,ks,ts⟩,e3,e⟩:=aK.mp e;obtain⟨⟨c',ks',cm⟩,e4,e⟩:=aK.mp e;dsimp only at e3 e4 e;split at e
  ·rename_i hl;cases e
   refine⟨H₀,Z,ρ,τ,C,t1,C1,R,e1,fun x H1 af R1 h1 s1=>?_⟩
   obtain⟨a,ea,hD⟩:=R1.isDc h1 hd
   refine⟨a,ea,hD,?_⟩
   refine⟨H₀,Z,af,τ,C1,t2,C2,R1,e2,fun y H2 ar R2 h2 s2=>?_⟩
   obtain⟨a',vs,ev,q,kr,hH,hr⟩:=R2.dk (h1.step s2) e3;rw[ea]at ev;cases ev;obtain⟨b,vs',ij,q',ly,vo,rn⟩:=R2.dk h2 e4;have oy:a≠b:=fun z=>by
    subst z;obtain⟨i1,j1⟩:=aR.mp q;obtain⟨i2,j2⟩:=aR.mp q'
    exact hl.1 ((aOv R2.nd).mp (j1.trans j2.symm))
   refine⟨b,_,_,ij,oy,hH,vo,by rw[dG,dG];lia,?_⟩
   obtain⟨z1,z2⟩:=aDy (ks':=ks') (vs':=vs') kr ly;obtain⟨z3,z4⟩:=RTs.mrgK (ks':=ks') (ks:=ks) rn hr;rw[z1];obtain⟨w1,w2⟩:=R2.put (kd:=.dk (mrgK ks' cm (ks,ts)).1) (ob:=.dK ((mrgK ks' vs' (ks,vs)).1.zip (mrgK ks' vs' (ks,vs)).2)) q (by rw[hH];trivial) ⟨by rw[z3];exact z2,by rw[z3]⟩ z4
   exact k _ _ ar w1 .non ((s1.trans s2).trans w2)
  ·cases e
 ·cases e
def Itd(a:Addr)(ob:Obj)(kvs:List (List Key×V)):It:=
 ⟨fun i H=>H a=some (.frz ob (.dT kvs))/\i<kvs.length,fun i H x H'=>H'=H/\∃b k v,x=.ref b/\kvs[i]?=some (k,v)/\H b=some (.tup (k.map kV)),fun i H=>H a=some (.frz ob (.dT kvs))/\kvs.length<=i⟩
def iDict(B:Addr->Prop)(t:TE):TI:=fun σ H R=>t σ H fun x H1=>∃a kvs,x=.ref a/\H1 a=some (.dT kvs)/\(B a->∀ob,R (Itd a ob kvs) (upd H1 a (.frz ob (.dT kvs))))
def thaw(B:Addr->Prop)(t:(VK->Prop))(Q:VK):Prop:=t fun v H=>∃a ob u,B a/\H a=some (.frz ob u)/\Q v (upd H a u)
noncomputable def kT:Key->T
 | .inl i=>.int i
 | .inr x=>.str x
def aGg(k:List Key):T:=.tup (k.map kT)
theorem aNJ{k:Key}:RT K M ρ (kT k) (kV k):=by cases k<;>(unfold kT RT;rfl)
theorem aGM:∀{k:List Key},RTs K M ρ (k.map kT) (k.map kV)
 | []=>.nil
 |k::ks=>.cons aNJ aGM
theorem aIe{Z:Addr->Prop}{a:Addr}{ob:Obj}{ks:List (List Key)}{vs:List V}(hl:ks.length=vs.length)(h1:H1 a=some (.frz ob (.dT (ks.zip vs)))):Wlk K (Itd a ob (ks.zip vs)) Z H1 af (ks.map aGg) (fun _=>True):=by
 have hz:(ks.zip vs).length=ks.length:=by rw[dG];lia
 refine⟨fun i t' H₀ Z' ae ag C' σ H ht R' sm ix ax fz=>?_,fun H₀ Z' ae ag C' σ H R' sm ix ax fz=>?_⟩
 ·rw[bK]at ht;obtain⟨k,hk,rfl⟩:=aL.mp ht
  refine⟨⟨fz _ _ _ h1,by rw[hz];exact(aR.mp hk).1⟩,fun x H' hy=>?_⟩
  obtain⟨rfl,b,k',v,rfl,ym,hb⟩:=hy;obtain⟨z1,_⟩:=dU.mp ym;rw[hk]at z1;cases z1
  refine⟨.refl _,?_⟩
  unfold aGg RT
  refine⟨b,_,rfl,mG (fun z=>?_) (fun z=>?_) hb,aGM⟩
  ·have:=R'.zd b z;rw[hb]at this;exact this
  ·have:=R'.cel_some z;rw[hb]at this;exact this
 ·exact⟨fz _ _ _ h1,by rw[aP,hz];exact bG _⟩
def tR(f:FE)(k:Nat)(is:List Nat)(g:FG)(tc:FB)(fe:FE):FN:=fun τ C=>(f τ C).bind fun p=>(dtc p.2 p.1).bind fun x=>if x.2.1.length<lim/\x.2.1.length=x.2.2.length then
 (jT g tc fe (scT k is τ) (x.2.1.map aGg) (p.2.set x.1 (.dz x.2.1,x.2.2))).bind fun r=>match r.2[x.1]?with
  |some (.dz ks,ts)=>some (r.1,r.2.set x.1 (.dt ks,ts))
  |_=>none else none
theorem aJj{f:FE}{k:Nat}{is:List Nat}{g:FG}{tc:FB}{fe:FE}{B:Addr->Prop}(hg:Own k g)(h:trN K (tR f k is g tc fe) σ H Q):thaw B (y9 (iDict B (trE K f)) (scV k is) (trG K g) (trT K tc) (trE K fe) σ H) Q:=by
 obtain⟨H₀,Z,ρ,τ,C,ys,C',R,e,q⟩:=h;unfold tR at e;obtain⟨⟨t,C1⟩,e1,e⟩:=aK.mp e;obtain⟨⟨c,ks,ts⟩,e2,e⟩:=aK.mp e;dsimp only at e2 e;split at e
 ·rename_i hl;obtain⟨⟨zs,C2⟩,e3,e⟩:=aK.mp e;dsimp only at e;split at e
  ·rename_i ks' cm e4;cases e
   refine⟨H₀,Z,ρ,τ,C,t,C1,R,e1,fun v H1 af R1 h1 s1=>?_⟩
   obtain⟨a,vs,ev,qa,hlv,hH,hr⟩:=R1.dt h1 e2;subst ev
   refine⟨a,_,rfl,hH,fun hB ob D hD=>?_⟩
   obtain⟨Rf,sf⟩:=R1.put (kd:=.dz ks) (ob:=.frz ob (.dT (ks.zip vs))) qa (by rw[hH];trivial) ⟨hlv,ob,rfl⟩ hr
   refine sK (Q:=fun v H=>∃a ob u,B a/\H a=some (.frz ob u)/\Q v (upd H a u)) (P:=fun _=>True) Rf hg (aIe hlv iP) trivial (fun _ _ _ _=>trivial) (by simpa using hl.1) e3 hD fun p H' ae ws R' hp rv s'=>?_
   have nj:=s'.idx _ _ qa;have hf:=s'.fz a ob _ iP;obtain⟨x,us,o2,c1,c2,c4,c3⟩:=R'.cel c a nj;rw[e4]at c1;cases c1;rw[hf]at c2;cases c2;obtain⟨ly,ob2,z⟩:=c4;have z2:ks.zip vs=ks'.zip us:=by
    injection z with _ z
    injection z
   have xb:a≠p:=fun z=>by rw[z,hp]at hf;cases hf
   refine⟨a,ob,.dT (ks.zip vs),hB,by rw[fG xb];exact hf,?_⟩
   obtain⟨Rt,em⟩:=R'.put0 (kd:=.dt ks') (ob:=.dT (ks.zip vs)) nj ⟨ly,by rw[z2]⟩ c3;have tw:upd (upd H' p (.lst ws)) a (.dT (ks.zip vs))=upd (upd H' a (.dT (ks.zip vs))) p (.lst ws):=by
    funext b;unfold upd;by_cases h1:b=a
    ·subst h1;rw[if_pos rfl,if_neg xb,if_pos rfl]
    ·by_cases h2:b=p
     ·rw[if_neg h1,if_pos h2,if_pos h2]
     ·rw[if_neg h1,if_neg h2,if_neg h2,if_neg h1]
   rw[tw];have am:a∈af:=bD qa;have am':a∈ae:=bD nj
   refine q p _ ae ws Rt (by rw[fG (Ne.symm xb)];exact hp) (by rw[em];exact rv) (s1.trans ⟨fun b o z n=>?_,s'.pre,fun b o u z=>?_⟩)
   ·have ne:b≠a:=fun z=>n (by rw[z];exact am)
    have:=s'.kept b o (by rw[fG ne];exact z) n
    exact⟨this.1,by rw[fG ne];exact this.2⟩
   ·have ne:b≠a:=fun y=>by rw[y,hH]at z;cases z
    rw[fG ne]
    exact s'.fz b o u (by rw[fG ne];exact z)
  ·cases e
 ·cases e
end
end TL
namespace TL
open PySem PySem.Spec PyProof.Rows L2
structure uI(P:Program)(w:World)(K:aO)(mg:Str->Option Value)(base:Heap)(k:Nat)(x:Str)(n:Nat)(G:List T->Sto->Option (T×Sto)):Prop where
 ex:∃f fd ps,mX P w K mg base CX0 k f fd ps (spS K n G)/\mg x=some (.ref f)/\cN K (.ref f)=true/\Binds K fd ps []
structure sM(P:Program)(w:World)(K:aO)(mg:Str->Option Value)(base:Heap)(k:Nat)(cls:String)(m:Str)(n:Nat)(G:List T->Sto->Option (T×Sto)):Prop where
 ex:∃C f fd ps,bW K mainGlobals (Str.ofString cls)=some (some (.ref C))/\Cls K C/\Meth K C m f/\mX P w K mg base CX0 k f fd ps (spS K n G)/\Binds K fd ps []
structure aGE(P:Program)(w:World)(K:aO)(mg:Str->Option Value)(base:Heap)(k:Nat)(cls:String)(n:Nat)(G:List T->Sto->Option (T×Sto))(gp:List T)(bn:List V):Prop where
 ex:∃C f fd ps ds,bW K mainGlobals (Str.ofString cls)=some (some (.ref C))/\mg (Str.ofString cls)=some (.ref C)/\Mk K C f/\mX P w K mg base CX0 k f fd ps (spS K n G)/\Binds K fd ps ds/\Vals bn ds
 rt:∀M ρ,RTs K M ρ gp bn
section
variable {X:Cx}{e o:Expr}{es:List Expr}{fo fa:FE}{fr:FN}{p pos aq al:Pos}
variable{G:List T->Sto->Option (T×Sto)}{cls:String}{pl:Sem Bool}
theorem kO{k n:Nat}{x:Str}(D:uI X.prog X.w X.K X.mg X.base k x n G)(hr:Room k X.A)(ha:QA X (e::es) fr)(hg:Gl X x:=by rfl)(dj:(x==("__debug__":Str))=false:=by decide)
 (he:starEach (e::es) X.env=(false,eval e X.env)::starEach es X.env:=by rfl)(av:(backTo pos (starEach es X.env)).any (·.1)=false:=by rfl):QE X (.Call (.Name x p) (e::es) [] pos) (kP n G fr):=by
 obtain⟨f,fd,ps,F,hm,hk,hb⟩:=D.ex
 exact(aAi (E:=fun _ _ _=>False) F hr hg hm hk hb .nil (fun _ _ _ _ _ _ _ h=>h.elim) ha dj he av).imp fun _ _ _=>aJN
theorem aBL{k n:Nat}{m:Str}(D:sM X.prog X.w X.K X.mg X.base k cls m n G)(hr:Room k X.A)(ho:QE X o fo)(ha:QA X (e::es) fr)
 (bi:starEach (e::es) X.env=(false,eval e X.env)::starEach es X.env:=by rfl)(av:(backTo pos (starEach es X.env)).any (·.1)=false:=by rfl)
 (ht:eval (.Call (.Attribute o m al) (e::es) [] pos) X.env=(do
  let ov<-eval o X.env
  standAt al.atName
  let (f,first)<-holding [ov] (getMethod ov m pl)
  callWith pos f first (backTo pos (starEach (e::es) X.env)) (backToKw pos (keywordEach [] X.env))):=by rfl):QE X (.Call (.Attribute o m al) (e::es) [] pos) (k7 cls m n G fo fr):=by
 obtain⟨C,f,fd,ps,hc,c,hm,F,hb⟩:=D.ex
 exact(aJC (E:=fun _ _ _=>False) (pl:=pl) ho c hm F hr hb .nil (fun _ _ _ _ _ _ _ h=>h.elim) ha bi av ht).imp fun _ _ _=>aGH hc
theorem aHh{k n:Nat}{m:Str}(D:sM X.prog X.w X.K X.mg X.base k cls m n G)(hr:Room k X.A)(ho:QE X o fo)
 (ht:eval (.Call (.Attribute o m al) [] [] pos) X.env=(do
  let ov<-eval o X.env
  standAt al.atName
  let (f,first)<-holding [ov] (getMethod ov m pl)
  callWith pos f first (backTo pos (starEach [] X.env)) (backToKw pos (keywordEach [] X.env))):=by rfl):QE X (.Call (.Attribute o m al) [] [] pos) (k7 cls m n G fo fF):=by
 obtain⟨C,f,fd,ps,hc,c,hm,F,hb⟩:=D.ex
 refine(aGK (E:=fun _ _ _=>False) (pl:=pl) ho c hm F hr hb .nil (fun _ _ _ _ _ _ _ h=>h.elim) ht).imp fun _ _ _ h=>?_
 exact iD (aGH hc h) fun x H1 ⟨a,dx,fs,q1,q2,q3,q4⟩=>⟨a,dx,fs,q1,q2,q3,aKM q4⟩
theorem aCR{k n:Nat}{gp:List T}{bn:List V}(D:aGE X.prog X.w X.K X.mg X.base k cls n G gp bn)(hr:Room (k+1) X.A)(ha:QA X (e::es) fr)(hg:Gl X (Str.ofString cls):=by rfl)
 (dj:(Str.ofString cls==("__debug__":Str))=false:=by decide)(he:starEach (e::es) X.env=(false,eval e X.env)::starEach es X.env:=by rfl)(av:(backTo pos (starEach es X.env)).any (·.1)=false:=by rfl):
 QE X (.Call (.Name (Str.ofString cls) p) (e::es) [] pos) (uA cls n G gp fr):=by
 obtain⟨C,f,fd,ps,ds,hc,hm,M,F,hb,hd⟩:=D.ex
 exact(aKm (E:=fun _ _ _=>False) M F hr hg hm hb hd (fun _ _ _ _ _ _ _ h=>h.elim) ha dj he av).imp fun _ _ _=>aMs hc D.rt
end
section
variable {X:Cx}{o i e f value k v:Expr}{fo fi fe fx:FE}{p pos aq aw al ak:Pos}
theorem aJp:QE X (.Dict [] [] pos) (uE (.dk [])):=aGT.imp fun _ _ _=>aJs
theorem aIu:QE X (.Dict [] [] pos) (uE (.dt [])):=aHw.imp fun _ _ _=>aKb
theorem aKf(hk:QE X k fi)(hv:QE X v fe):QE X (.Dict [some k] [v] pos) (tP fi fe):=(aIK (aF4 hk hv aJM) rfl rfl (by simp) (by simp)).imp fun _ _ _=>aIz
theorem aAy(hu:X.A.units+20<cLine)(ho:QE X o fo)(hi:QE X i fi)(hs:aLM i:=by exact fun _ _=>rfl):QE X (.Subscript o i pos) (yR fo fi):=(aJT (by lia) ho hi hs).imp fun _ _ _=>aK2
theorem aKj(hu:X.A.units+20<cLine)(ho:QE X o fo)(he:QE X e fe)(hf:QE X f fx)(m:M2 X o "get" al e f ak:=by exact⟨rfl,rfl,rfl,rfl⟩):QE X (.Call (.Attribute o "get" al) [e,f] [] ak) (tJ fo fe fx):=
 (aF2 (by lia) ho he hf m).imp fun _ _ _=>aJQ
theorem aEo(hu:X.A.units+20<cLine)(ho:QE X o fo)(hi:QE X i fi)(hv:QE X value fe)(hs:swapsWith value (some (.Subscript o i aq)) pos.line X.env=pure false:=by rfl):QS X (.Assign [.Subscript o i aq] value pos) (vW fo fi fe):=(aKr (by lia) ho hi hv hs).imp fun _ _ _=>aLT lG
theorem aDt(hu:X.A.units+20<cLine)(ho:QE X o fo)(hi:QE X i fi)(hv:QE X value fe)(ha:∀ov iv new,augStore i ov iv new=(do holding [new,ov,iv] (setItem ov iv new);release [new,ov,iv] [];pure .next):=by intro _ _ _;rfl):
 QS X (.AugAssign (.Subscript o i aw) .Sub value pos) (zJ (fun i j=>i - j) fo fi fe):=(aKt (by lia) ho hi hv aHM ha).imp fun _ _ _=>aLk lG fun i j H Q q=>⟨i,j,rfl,rfl,q⟩
theorem aNZ(hu:X.A.units+20<cLine)(hi:QE X i fi)(ho:QE X o fo)(hm:behindInMarks .In o=false:=by rfl):QT X (.Compare i [.In] [o] pos) (i8 (iO fi fo (vO true))):=(aGA (aL3 (by lia) hi ho) hm).imp fun _ _ _=>aF5 fun _ _ _=>aNu
theorem aFX(hu:X.A.units+20<cLine)(hi:QE X i fi)(ho:QE X o fo)(hm:behindInMarks .NotIn o=false:=by rfl):QT X (.Compare i [.NotIn] [o] pos) (i8 (iO fi fo (vO false))):=(aGA (aFC (by lia) hi ho) hm).imp fun _ _ _=>aF5 fun _ _ _=>aM6
end
theorem aFb{P:Program}{w:World}{K:aO}{ts:List Expr}{k:Nat}{pos:Pos}(e it l:Addr)(D:e≠it):
 Turn P w K (.Tuple ts k pos) (Ite K l) [e,it] e (fun i h=>(∃old,IsEnum h e it i old)/\h.IsListIter it l i) where
 mem:=by simp
 obj:=fun i h st b hb=>by
  obtain⟨⟨old,he⟩,⟨o1,e1,c1,d1⟩⟩:=st;simp only[bE,cA,or_false]at hb;rcases hb with rfl|rfl
  ·exact⟨_,he,fun v z=>by simp at z⟩
  ·exact⟨o1,e1,fun v z=>by rw[d1]at z;cases z⟩
 keep:=fun i h h' st kk=>by
  obtain⟨⟨old,he⟩,h1⟩:=st
  exact⟨⟨old,kk e (by simp) _ he⟩,h1.at fun o e'=>kk it (by simp) o e'⟩
 item:=by
  intro X hP hw hK hc i aa s σ H E I hf st hg;subst hP hw hK;obtain⟨⟨old,he⟩,h1⟩:=st;obtain⟨xs,x,q1,g1⟩:=hg;obtain⟨its,rv,p1,z1⟩:=I.list q1;obtain⟨u,hu,ru⟩:=rv.get g1
  refine wpAny_pyNext_enum_item he h1 p1.isList (x:=u) (by simpa using hu) D fun h' a1 a2 a3 a4 hk=>?_
  refine⟨_,rfl,wpAny_letOwnedTupleGo_enum (s:={s with heap:=h',toks:=s.toks+1}) a1 fun jz yw ce=>?_⟩
  have bd:e≠s.heap.objs.size:=bV (Heap.lt_size he);have kk:∀b ob,b∉[e,it]->s.heap.get? b=some ob->jz.get? b=some ob:=fun b ob hb q=>by
   simp only[bE,cA,or_false,not_or]at hb
   exact(ce.2 b hb.1).trans (hk b ob hb.1 hb.2 q)
  have hT:jz.get? s.heap.objs.size=some {cls:=.type "tuple",data:=.seq #[.int i s.toks,u]}:=(ce.2 _ (Ne.symm bd)).trans a3;have I1:Inv X aa σ (upd H s.heap.objs.size (.tup [.int i,x])) {s with heap:=jz,toks:=s.toks+1}:=aBR I hf kk (bG _)
   (show jK X.prog X.w _ jz _ (.tup [.int i,x])from⟨by show 2<=sizeLine;decide,[.int i s.toks,u],.cons ⟨_,rfl⟩ (.cons ru .nil),⟨_,hT,rfl,_,rfl⟩⟩)
  refine⟨.ref s.heap.objs.size,_,I1,rfl,⟨_,x,I.fresh,rfl,rfl,fun zs hz=>by rw[I.list_inj hz q1];exact g1⟩,?_,fun b hb=>?_⟩
  ·exact⟨⟨u,by exact_mod_cast yw⟩,a2.at fun o q=>(ce.2 _ (Ne.symm D)).trans q⟩
  ·have ua:=(hf b hb).1;rw[fG]
   ·exact ua
   ·rintro rfl;have:∃o,s.heap.get? s.heap.objs.size=some o:=by
     simp only[bE,cA,or_false]at hb;obtain⟨o1,e1,_⟩:=h1;rcases hb with h|h
     ·rw[h];exact⟨_,he⟩
     ·rw[h];exact⟨_,e1⟩
    obtain⟨o,q⟩:=this
    exact absurd (Heap.lt_size q) (cU _)
 done:=by
  intro X hP hw hK hc i aa s σ H E I hf st hg;subst hP hw hK;obtain⟨⟨old,he⟩,h1⟩:=st;obtain⟨xs,q1,tu⟩:=hg;obtain⟨its,rv,p1,z1⟩:=I.list q1;have l1:=rv.length
  refine wpAny_pyNext_enum_end (I.ok.hd hc) he h1 p1.isList (by simp;lia) fun h' hk=>⟨rfl,zR (t':=s.toks) I hf fun b ob hb q=>?_⟩
  simp only[bE,cA,or_false,not_or]at hb
  exact hk b ob hb.2 q
 self:=fun _ _ _ _ _ st h=>wpAny_pyIter_enum st.1.choose_spec h
section
variable {X:Cx}{a b e:Expr}{es:List Expr}{fa fb:FE}{fr:FN}{pos p p2:Pos}
variable{aw:Pos}
theorem aKd{ts:List Expr}{k:Nat}{ta:TA}(hg:Gl X "enumerate")(hm:X.mg "enumerate"=none)(ha:PA X [a] ta)(hs:starEach [a] X.env=[(false,eval a X.env)]:=by rfl):
 PI X (.Tuple ts k aw) (.Call (.Name "enumerate" p) [a] [] pos) (iEnum X.K ta):=by
 intro aa s σ H R I h
 refine Call_ (oZ I hg hm boot_enumerate (dE (thn (ha pos aa s σ H _ I h) fun us s1 ⟨vs,H1,I1,r1,q1⟩=>?_) (by rw[hs];rfl) rfl))
 obtain⟨l,ev,⟨xs,qx⟩,q⟩:=q1;subst ev;obtain⟨u,rfl,ru⟩:=r1.one;cases ru;obtain⟨its,rv,p1,z1⟩:=I1.list qx
 refine call_enumerate_list p1.isList fun h' he hit hsz hk=>wpAny_pyIter_enum he ?_
 have I2:Inv X aa σ H1 {s1 with heap:=h'}:=I1.kept (t':=s1.toks) hk
 refine⟨s1.heap.objs.size+1,[s1.heap.objs.size+1,s1.heap.objs.size],_,_,H1,rfl,I2,aFb _ _ l (Nat.succ_ne_self _),⟨⟨_,he⟩,hit⟩,fun b hb=>?_,q⟩
 have hle:s1.heap.objs.size<=b:=by
  simp only[bE,cA,or_false]at hb;rcases hb with rfl|rfl
  ·exact aOg _ _
  ·exact bG _
 exact I1.fpOk hle (I1.hok.fresh hle)
theorem aDF{ts:List Expr}{k:Nat}{da:List Stmt}{g:FG}{F:FS}(hm:X.mg "enumerate"=none)(hc:X.calm=true)(hi:QE X a fa)(hg:QG X (.Tuple ts k aw) g)(hb:QSs X da F)(cg:Gl X "enumerate":=by rfl)
 (bi:starEach [a] X.env=[(false,eval a X.env)]:=by rfl)(hp:PassesOwn (model X.prog X.w) X.A X.env X.xe:=by first|exact PassesOwn.never|exact PassesOwn.leaving|exact PassesOwn.looking)
 (hs:∀x,foldedSetIterable (.Call (.Name "enumerate" p) [a] [] p2) X.env x=pure x:=by intro _;rfl):QS X (.For (.Tuple ts k aw) (.Call (.Name "enumerate" p) [a] [] p2) da [] pos) (xY fa g F):=
 (aA4 hp hc (aKd cg hm (eT hi eY (by rw[bi];rfl)) bi) hg hb hs).imp fun _ _ _=>aK6
section
variable {own frs:List Str}{is:List Nat}{scope:Scope}{cl:List (Str×Addr)}{ts:List Expr}{tk:Nat}{aw:Pos}{bd:Expr}{ifs:List Expr}{fe:FE}{g:FG}{gt:FB}
end
end
section
variable {X:Cx}{o e:Expr}{al ak:Pos}{td te:TE}{fo fe:FE}
theorem aJL(ho:PE X o td)(he:PE X e te)(m:M1 X o "update" al e ak):PE X (.Call (.Attribute o "update" al) [e] [] ak) (tDUpd td te):=by
 intro aa s σ H Q I h
 refine wpAny_Call_method m.base m.few m.line PySem.F.plainAttrs_dict PySem.F.slot_dict_update PySem.F.type_dict_update (thn (ho aa s σ H _ I h) fun u s1 zz=>?_)
 obtain⟨x,H1,I1,rx,a,ex,d,q1⟩:=zz;subst ex;obtain rfl:u=Value.ref a:=rx;obtain⟨t1,t2,_⟩:=aGa I1 d
 refine⟨t1,t2,?_⟩
 rw[m.trees]
 refine Calls.callWith_builtin rfl (Calls.evalArgs_plain (Calls.spliced_cons (thn (he aa s1 σ H1 _ I1 q1) fun iv s2 ⟨y,H2,I2,ry,b,kvs,more,ey,oy,ha,hb,hl,q2⟩=>Calls.spliced_nil ?_)))
 subst ey;obtain rfl:iv=Value.ref b:=ry;obtain⟨z,hd,vs,rel,dd⟩:=aEj I2.hok ha;obtain⟨z',jh,vs',qo,jl⟩:=aEj I2.hok hb
 refine call_meetsIn PySem.F.slot_dict_update dd.typeIs PySem.F.entry_dict_update (PySem.F.args_dict_update_2 _ _) (meets_dict_update (iN X.prog X.w) a b oy jh)
  ⟨vs,vs',dd,jl,by rw[<-rel.length,<-qo.length];exact hl,fun h' d1 d2 hs=>⟨.non,_,?_,rfl,q2⟩⟩
 have hq:∃q,h'.get? a=some q:=let ⟨q,_,_,hq,_⟩:=d1;⟨q,hq⟩
 exact uW (t':=s2.toks) I2 (by rw[ha];exact True.intro) hs hq (aDb (cB (nF _ _) hl) hd (qo.merge rel) d1)
theorem aMb(ho:QE X o fo)(he:QE X e fe)(m:M1 X o "update" al e ak:=by exact⟨rfl,rfl,rfl,rfl⟩):QE X (.Call (.Attribute o "update" al) [e] [] ak) (v3 fo fe):=(aJL ho he m).imp fun _ _ _=>aMM lG
end
theorem aGi{α:Type}:∀(l:List α),(bI (l.length/2)).filterMap (fun k=>l[1+2*k]?)=od l
 | []=>by simp[od]
 | [_]=>by simp[od]
 |a::b::r=>by
  have ih:=aGi r;have e:(a::b::r).length/2=r.length/2+1:=by simp only[aN];lia
  rw[e,aOr,c8];simp only[Nat.mul_zero,aPV,bS,bR];unfold od;rw[aPl,<-ih];congr 1
theorem aIo{α:Type}:∀(l:List α),(od l).length<=l.length
 | []=>bG _
 | [_]=>dQ _
 |a::b::r=>by
  have:=aIo r;unfold od;simp only[aN];lia
theorem aHo(items:Array Value):slicePick items (some 1) none (some 2)=(od items.toList).toArray:=by
 unfold slicePick;have hb:sliceBounds (some 1) none (some 2) items.size=(max 0 (min 1 (items.size:Int)),(items.size:Int),2):=rfl;rw[hb];show((sliceRange (max 0 (min 1 (items.size:Int))) (items.size:Int) 2).filterMap (items[·]?)).toArray=_;congr 1;have hr:sliceRange (max 0 (min 1 (items.size:Int))) (items.size:Int) 2=(bI (items.size/2)).map fun k=>1+2*k:=by
  unfold sliceRange;by_cases h:items.size<2
  ·have h0:items.size/2=0:=by lia
   have h1:¬(max 0 (min 1 (items.size:Int))<(items.size:Int)):=by lia
   simp only[show(2:Int)>0 by decide,if_true,h1,if_false,h0];rfl
  ·have h1:max 0 (min 1 (items.size:Int))=1:=by lia
   rw[h1];have h2:(1:Int)<(items.size:Int):=by lia
   have h3:(((items.size:Int) - 1+2 - 1)/2).toNat=items.size/2:=by lia
   simp only[show(2:Int)>0 by decide,if_true,h2,h3];apply cI;intro k _
   lia
 rw[hr,aPl];have:=aGi items.toList;rw[b6]at this;rw[<-this];congr 1;funext k;simp[d4]
section
variable {X:Cx}{a e:Expr}{te:TE}{fa:FE}{pos p2 p3 p4:Pos}
def aMd(K:aO)(x:V)(H:Hp)(Q:VK):Prop:=∃a xs,x=.ref a/\SqL K H a xs/\∀p,H p=none->Q (.ref p) (upd H p (.lst (od xs)))
theorem Vals.od:∀{xs:List V}{us:List Value},Vals xs us->Vals (TL.od xs) (TL.od us)
 | [],_,h=>by cases h;exact .nil
 | [x],_,h=>by cases h with|cons _ t=>cases t;exact .nil
 |x::y::r,_,h=>by
  cases h with
  |cons h1 t=>
   cases t with
   |cons h2 t=>unfold TL.od;exact .cons h2 (Vals.od t)
theorem aMV{j k}(he:PE X e te):PE X (.Subscript e (.Slice (some (.Constant (.int 1) j p3)) none (some (.Constant (.int 2) k p4)) p2) pos) (fun σ H Q=>te σ H fun x H1=>aMd X.K x H1 Q):=by
 intro aa s σ H Q I h
 refine Subscript_ (thn (he aa s σ H _ I h) fun v s1 zz=>?_)
 obtain⟨x,H1,I1,r1,q1⟩:=zz;have h1:PE X (.Constant (.int 1) j p3) (tC (.int 1)):=aAP;have h2:PE X (.Constant (.int 2) k p4) (tC (.int 2)):=aAP
 refine wpAny_Slice ?_
 refine thn ((vE h1) aa s1 σ H1 (fun o H2=>o=some 1/\aMd X.K x H2 Q) I1 ⟨1,rfl,rfl,q1⟩) fun vl s2 zz=>?_
 obtain⟨o,H2,I2,pk,eo,q2⟩:=zz;subst eo;rw[evalPart_none]
 refine wpAny_pure ?_
 refine thn ((vE h2) aa s2 σ H2 (fun o H3=>o=some 2/\aMd X.K x H3 Q) I2 ⟨2,rfl,rfl,q2⟩) fun vk s3 zz=>?_
 obtain⟨o,H3,I3,wl,eo,q3⟩:=zz;subst eo;obtain⟨l,xs,rfl,hx,q⟩:=q3;cases r1;have I4:Inv X aa σ H3 {s3 with heap:=s3.heap.push {cls:=.type "slice",data:=.fields #[vl,.none,vk]}}:=I3.kept (t':=s3.toks) fun b ob q=>Heap.get?_push_of_some _ q
 obtain⟨its,r,ht,hz⟩:=I4.list hx;have ah:=r.length;have hg:wpAny (model X.prog X.w) X.A (getItem (.ref l) (.ref s3.heap.objs.size)) (EP X aa σ Q) X.xe {s3 with heap:=s3.heap.push {cls:=.type "slice",data:=.fields #[vl,.none,vk]}}:=by
  refine wpAny_getItem_list_slice ht.isList (Heap.IsSliceOf.new ..) pk .none wl (by decide) ?_ (by rw[bF]<;>lia)
  rw[aHo]
  refine⟨.ref _,_,I4.laid (t':=s3.toks) (o:=.lst (od xs)) (fun b ob q=>Heap.get?_push_of_some _ q) (bG _) ?_,rfl,q _ (I4.hok.fresh (bG _))⟩
  exact⟨cB (aIo _) hz,_,0,Vals.od r,Heap.get?_push_size _ rfl⟩
 show wpAny (model X.prog X.w) X.A (subscriptTail e _ (.ref l) (.ref s3.heap.objs.size)) (EP X aa σ Q) X.xe _
 exact tail_any (ops:=[.ref l,.ref s3.heap.objs.size]) ht.isList.typeIs slot_list_getitem.lookup hg (by with_unfolding_all rfl)
theorem aNd{j k}(ha:QE X a fa):QN X (.Subscript a (.Slice (some (.Constant (.int 1) j p3)) none (some (.Constant (.int 2) k p4)) p2) pos) (aEW fa):=(aMV ha).imp fun _ _ _=>aNi
end
section
variable {X:Cx}{aa:List (Addr×Obj)}{σ:L2.St}{H:Hp}{s:Shared}{a:Addr}{ob:Obj}
theorem aHu{kvs:List (List Key×V)}(I:L2.Inv X aa σ H s)(h:H a=some (.dT kvs))(ho:s.heap.get? a=some ob):L2.Inv X aa σ (upd H a (.frz ob (.dT kvs))) s:=by
 have ne:∀b,H b=none->b≠a:=fun b n z=>by rw[z,h]at n;cases n
 refine⟨I.ok,I.os,I.bare,⟨I.base.keep,I.base.slot,fun b o q n hx=>by have e:=I.base.free b o q n hx;rw[fG (ne b e)];exact e,I.base.there,fun b xs q=>?_,fun b o u q=>?_,fun b ps q=>?_⟩,I.loc,I.cell,by rw[fG (ne _ I.free)];exact I.free,fun x c q=>by rw[fG (ne _ (I.freeC x c q))];exact I.freeC x c q,fun p hp=>?_,fun b o q=>?_,I.len⟩
 ·have e:=I.base.tups b xs q;rw[fG (mZ e h (fun z=>nomatch z))];exact e
 ·have e:=I.base.frzs b o u q;rw[fG (mZ e h (fun z=>nomatch z))];exact e
 ·obtain⟨m,e⟩:=I.base.tbls b ps q
  exact⟨m,by rw[fG (mZ e h (fun z=>nomatch z))];exact e⟩
 ·obtain⟨p1,p2,p3⟩:=I.pin p hp
  exact⟨p1,by rw[fG (ne _ p2)];exact p2,p3⟩
 ·by_cases hb:b=a
  ·subst hb;rw[iP]at q;cases q
   exact⟨ho,(I.hok b _ h).stay (fun c v _ q=>q) (fun c q=>by rw[fG (mZ q h (fun z=>nomatch z))];exact q) fun c xs q=>by rw[fG (mZ q h (fun z=>nomatch z))];exact q⟩
  ·rw[fG hb]at q
   exact(I.hok b o q).stay (fun c v _ q=>q) (fun c q=>by rw[fG (mZ q h (fun z=>nomatch z))];exact q) fun c xs q=>by rw[fG (mZ q h (fun z=>nomatch z))];exact q
theorem aHB{u:HO}(I:L2.Inv X aa σ H s)(h:H a=some (.frz ob u))(h0:∀o v,X.H₀ a≠some (.frz o v)):L2.Inv X aa σ (upd H a u) s:=by
 have ne:∀b,H b=none->b≠a:=fun b n z=>by rw[z,h]at n;cases n
 refine⟨I.ok,I.os,I.bare,⟨I.base.keep,I.base.slot,fun b o q n hx=>by have e:=I.base.free b o q n hx;rw[fG (ne b e)];exact e,I.base.there,fun b xs q=>?_,fun b o u q=>?_,fun b ps q=>?_⟩,I.loc,I.cell,by rw[fG (ne _ I.free)];exact I.free,fun x c q=>by rw[fG (ne _ (I.freeC x c q))];exact I.freeC x c q,fun p hp=>?_,fun b o q=>?_,I.len⟩
 ·have e:=I.base.tups b xs q;rw[fG (mZ e h (fun z=>nomatch z))];exact e
 ·have e:=I.base.frzs b o u q;rw[fG (by rintro rfl;exact h0 _ _ q)];exact e
 ·obtain⟨m,e⟩:=I.base.tbls b ps q
  exact⟨m,by rw[fG (mZ e h (fun z=>nomatch z))];exact e⟩
 ·obtain⟨p1,p2,p3⟩:=I.pin p hp
  exact⟨p1,by rw[fG (ne _ p2)];exact p2,p3⟩
 ·by_cases hb:b=a
  ·subst hb;rw[iP]at q;cases q
   exact((I.hok b _ h).2).stay (fun c v _ q=>q) (fun c q=>by rw[fG (mZ q h (fun z=>nomatch z))];exact q) fun c xs q=>by rw[fG (mZ q h (fun z=>nomatch z))];exact q
  ·rw[fG hb]at q
   exact(I.hok b o q).stay (fun c v _ q=>q) (fun c q=>by rw[fG (mZ q h (fun z=>nomatch z))];exact q) fun c xs q=>by rw[fG (mZ q h (fun z=>nomatch z))];exact q
end
section
variable {P:Program}{w:World}{A:Around}{E:Value->Shared->Prop}{s:Shared}{d it:Addr}{o:Obj}{es:Array DictEntry}{ep i:Nat}
variable{Q:Option Value->Shared->Prop}
theorem aHT{Q:Value->Shared->Prop}(hd:(d==sysModules)=false)(ho:s.heap.get? d=some o)(hx:o.ExactDict)(bx:o.data=.dict es ep)
 (hQ:Q (.ref s.heap.objs.size) {s with heap:=s.heap.push {cls:=.type "dict_keyiterator",data:=.fields #[.ref d,.int 0 0,.int es.size 0,.int ep 0]}}):wpAny (model P w) A (pyIter (.ref d)) Q E s:=by
 have hT:s.TypeIs (.ref d) "dict":=⟨o,ho,hx.1⟩
 refine wpAny_pyIter_slot hT F.slot_dict_iter (wpAny_call_entry F.slot_dict_iter hT F.entry_dict_iter ?_ (F.args_dict_iter_1 _));unfold Builtin.«dict.__iter__»;refine wpAny_bind ?_
 unfold Builtin.Dict.dictSlotNone;refine wpAny_bind (wpAny_notOrdered_dict hT ?_);show wpAny _ _ (pure (Value.ref d)) _ _ s;refine wpAny_pure ?_;show wpAny _ _ (Builtin.Dict.showsAll d>>=_) _ _ s;unfold Builtin.Dict.showsAll;rw[if_neg (by rw[hd];exact bY)];refine wpAny_bind (wpAny_pure ?_)
 refine wpAny_bind (wpAny_dictEntries ho bx (wpAny_bind (wpAny_dictEpoch ho bx ?_)))
 refine wpAny_bind (wpAny_newObj_type (wpAny_pure ⟨_,rfl,"dict_keyiterator",_,⟨_,Heap.get?_push_size _ rfl,rfl⟩,F.slot_dict_keyiterator_next.lookup,?_⟩));simpa[rawInt]using hQ
theorem aGd{e:DictEntry}(hit:s.heap.IsKeyIter it d i es.size ep)(ho:s.heap.get? d=some o)(bx:o.data=.dict es ep)(he:es[i]?=some e)
 (hQ:∀h',h'.IsKeyIter it d (i+1) es.size ep->Heap.SameBut it s.heap h'->Q (some e.key) {s with heap:=h'}):wpAny (model P w) A (pyNext (.ref it)) Q E s:=by
 obtain⟨oi,hi,hc,hd⟩:=id hit;unfold pyNext;refine wpAny_bind (wpAny_attempt (wpAny_callSpecial?_slot (name:=Str.ofString "__next__") hit.typeIs F.slot_dict_keyiterator_next (wpAny_call_entry F.slot_dict_keyiterator_next hit.typeIs F.entry_dict_keyiterator_next ?_ (F.args_dict_keyiterator_next_1 _))))
 refine wpAny_bind (wpAny_pure (wpAny_bind (wpAny_bind ?_)))
 first|refine wpAny_bind (wpAny_typeNameOfWhole_keyiter hit.typeIs (wpAny_pure (wpAny_bind (wpAny_fieldsOf hi hd ?_))))|refine wpAny_bind (wpAny_typeNameOf_keyiter hit.typeIs (wpAny_pure (wpAny_bind (wpAny_fieldsOf hi hd ?_))))
 simp only[show Builtin.Dict_items.ownsTuple "dict_keyiterator"=false by decide,b9,if_false];show wpAny _ _ (if(Value.ref d==Value.none)=true then _ else _) _ _ s;rw[if_neg (show¬((Value.ref d==Value.none)=true)from bY)]
 refine wpAny_bind (wpAny_pure (wpAny_bind (wpAny_dictEntries ho bx ?_)));rw[if_neg (by simp)];refine wpAny_bind (wpAny_pure (wpAny_bind (wpAny_dictEpoch ho bx ?_)));rw[if_neg (by simp)];refine wpAny_pure ?_
 simp only[show¬((i:Int)<0)from by lia,if_false,cF,he];refine wpAny_bind ?_;first|refine wpAny_bind (wpAny_typeNameOfWhole_keyiter hit.typeIs (wpAny_pure (wpAny_bind (wpAny_isOneOf_keyiter hit.typeIs ?_))))|refine wpAny_bind (wpAny_typeNameOf_keyiter hit.typeIs (wpAny_pure (wpAny_bind (wpAny_isOneOf_keyiter hit.typeIs ?_))))
 show wpAny _ _ (setField (.ref it) 1 (rawInt ((i:Int)+1))>>=_) _ _ s;refine wpAny_bind (wpAny_setField hi hd (by simp) ?_);have tj:(s.heap.update it (Obj.mapFields (·.setIfInBounds 1 (rawInt ((i:Int)+1))))).IsKeyIter it d (i+1) es.size ep:=⟨_,Heap.get?_update_self _ hi (Obj.isFreed_of_fields (Obj.data_mapFields hd _)),(Obj.cls_mapFields ..).trans hc,by rw[Obj.data_mapFields hd];simp[rawInt]⟩
 refine wpAny_bind (wpAny_holding (wpAny_bind (wpAny_isOneOf_keyiter (s:={s with heap:=s.heap.update it (Obj.mapFields (·.setIfInBounds 1 (rawInt ((i:Int)+1))))}) tj.typeIs ?_)))
 show wpAny _ _ (pure e.key) _ _ _;exact wpAny_pure (wpAny_pure ⟨_,rfl,wpAny_pure (hQ _ tj (Heap.SameBut.update ..))⟩)
theorem aHU(hh:A.handled=none)(hit:s.heap.IsKeyIter it d i es.size ep)(ho:s.heap.get? d=some o)(bx:o.data=.dict es ep)(he:es[i]?=none)
 (hQ:∀h',Heap.ExtBut it s.heap h'->Q none {s with heap:=h'}):wpAny (model P w) A (pyNext (.ref it)) Q E s:=by
 obtain⟨oi,hi,hc,hd⟩:=id hit;unfold pyNext;refine wpAny_bind (wpAny_attempt (wpAny_callSpecial?_slot (name:=Str.ofString "__next__") hit.typeIs F.slot_dict_keyiterator_next (wpAny_call_entry F.slot_dict_keyiterator_next hit.typeIs F.entry_dict_keyiterator_next ?_ (F.args_dict_keyiterator_next_1 _))))
 refine wpAny_bind (wpAny_pure (wpAny_bind (wpAny_bind ?_)))
 first|refine wpAny_bind (wpAny_typeNameOfWhole_keyiter hit.typeIs (wpAny_pure (wpAny_bind (wpAny_fieldsOf hi hd ?_))))|refine wpAny_bind (wpAny_typeNameOf_keyiter hit.typeIs (wpAny_pure (wpAny_bind (wpAny_fieldsOf hi hd ?_))))
 simp only[show Builtin.Dict_items.ownsTuple "dict_keyiterator"=false by decide,b9,if_false];show wpAny _ _ (if(Value.ref d==Value.none)=true then _ else _) _ _ s;rw[if_neg (show¬((Value.ref d==Value.none)=true)from bY)]
 refine wpAny_bind (wpAny_pure (wpAny_bind (wpAny_dictEntries ho bx ?_)));rw[if_neg (by simp)];refine wpAny_bind (wpAny_pure (wpAny_bind (wpAny_dictEpoch ho bx ?_)));rw[if_neg (by simp)];refine wpAny_pure ?_
 simp only[show¬((i:Int)<0)from by lia,if_false,cF,he];refine wpAny_bind ?_;first|refine wpAny_bind (wpAny_typeNameOfWhole_keyiter hit.typeIs (wpAny_pure ?_))|refine wpAny_bind (wpAny_typeNameOf_keyiter hit.typeIs (wpAny_pure ?_))
 show wpAny _ _ (setField (.ref it) 0 .none>>=_) _ _ s;refine wpAny_bind (wpAny_setField hi hd (by simp) ?_);show wpAny _ _ (newExc (.type "StopIteration") []>>=_) _ _ _;refine wpAny_bind ?_;simp only[newExc,newTuple]
 refine wpAny_bind (wpAny_newObj_type (wpAny_bind (m:=firstArgMember _ _) (wpAny_of_eq (a:=Value.none) (by first|rfl| (simp only[firstArgMember];rfl)) ?_)) (by size_fits))
 refine wpAny_newObj_type ?_ (by size_fits);simp only[raiseNew];refine wpAny_bind (wpAny_handled ?_)
 rw[show A.in1.handled=none from hh];refine wpAny_bind (wpAny_pure (wpAny_throw ?_));refine wpAny_bind (wpAny_isInstance (T:="StopIteration") (b:=true) ⟨_,Heap.get?_push_size _ rfl,rfl⟩ isSubtype_stop ?_)
 exact wpAny_pure (hQ _ (((Heap.SameBut.update ..).extBut.push _).push _))
end
theorem zN{α β:Type}{F:α->β->Prop}:∀{gu:List α}{gr:List β},Paired F gu gr->∀(i:Nat)(h1:i<gu.length)(h2:i<gr.length),F gu[i] gr[i]
 |_,_,.cons h _,0,_,_=>h
 |_,_,.cons _ t,i+1,h1,h2=>zN t i (by simpa using h1) (by simpa using h2)
theorem aFp{P:Program}{w:World}{K:aO}{tg:Expr}{a it:Addr}{ob:Obj}{es:Array DictEntry}{ep:Nat}{kvs:List (List Key×V)}(hx:ob.ExactDict)(bx:ob.data=.dict es ep)(hl:es.size=kvs.length):
 Turn P w K tg (Itd a ob kvs) [it] it (fun i h=>h.IsKeyIter it a i es.size ep) where
 mem:=by simp
 obj:=fun i h st b hb=>by
  have e:b=it:=by simpa using hb
  subst e;obtain⟨o,e,c,d⟩:=st
  exact⟨o,e,fun v z=>by rw[d]at z;cases z⟩
 keep:=fun i h h' st k=>st.at fun o e=>k it (by simp) o e
 item:=by
  intro X hP hw hK hc i aa s σ H E I hf st hg;subst hP hw hK;obtain⟨hH,hi⟩:=hg;obtain⟨ho,_,_,xs,rel,o2,es2,ep2,e1,e2,e3,e4,e5⟩:=(show jK X.prog X.w H s.heap a (.frz ob (.dT kvs))from I.hok a _ hH);rw[ho]at e1;cases e1;rw[bx]at e3;cases e3;obtain⟨f0,f1,f2,f3,f4,f5⟩:=hf it (by simp);have hlx:xs.length=kvs.length:=(Paired.length rel).symm;have hix:i<xs.length:=by rw[hlx];exact hi
  have me:es[i]?=some (entryOfKey (tupleKind (iN X.prog X.w)) xs[i]):=by
   rw[<-Array.getElem?_toList,e4,bK,bB hix];rfl
  refine aGd st ho bx me fun h' ax sb=>?_
  have I1:L2.Inv X aa σ H {s with heap:=h'}:=I.turned (t':=s.toks) (fun b o hb e=>(sb.2 b hb).trans e) f0 f1 f3 f4 f5;obtain⟨o,e,c,d⟩:=id ax;obtain⟨r1,r2,r3⟩:=zN rel i hi hix
  refine⟨_,rfl,aIj (s:={s with heap:=h'}) e c d (by decide) ⟨.ref xs[i].2.1,H,I1,rfl,⟨rfl,xs[i].2.1,kvs[i].1,kvs[i].2,rfl,bB hi,r2⟩,ax,fun b hb=>(hf b hb).1⟩⟩
 done:=by
  intro X hP hw hK hc i aa s σ H E I hf st hg;subst hP hw hK;obtain⟨hH,hi⟩:=hg;have ho:=(show jK X.prog X.w H s.heap a (.frz ob (.dT kvs))from I.hok a _ hH).1;obtain⟨f0,f1,f2,f3,f4,f5⟩:=hf it (by simp)
  exact aHU (I.ok.hd hc) st ho bx (by simp;lia) fun h' eb=>⟨rfl,I.turned (t':=s.toks) (fun b o hb e=>eb b o hb e) f0 f1 f3 f4 f5⟩
 self:=fun _ _ _ _ _ st h=>wpAny_pyIter_keyiter st h
section
variable {X:Cx}{iter:Expr}{fa:FE}{p pos p2:Pos}
abbrev Bare(X:Cx)(a:Addr):Prop:=∀o v,X.H₀ a≠some (.frz o v)
theorem aI8{tg l:Expr}{tl:TE}(hl:PE X l tl):PI X tg l (iDict (Bare X) tl):=by
 intro aa s σ H R I h
 refine thn (hl aa s σ H _ I h) fun v s1 zz=>?_
 obtain⟨x,H1,I1,r1,q1⟩:=zz;obtain⟨a,kvs,e,ha,q⟩:=q1;subst e;cases r1;obtain⟨_,hd,xs,rel,o,es,ep,e1,e2,e3,e4,e5⟩:=(show jK X.prog X.w H1 s1.heap a (.dT kvs)from I1.hok a _ ha);have hB:Bare X a:=fun o v z=>by
  have:=I1.base.frzs a o v z;rw[ha]at this;cases this
 have hsz:es.size=kvs.length:=by rw[<-b6,e4,aP];exact(Paired.length rel).symm
 have I2:L2.Inv X aa σ H1 {s1 with heap:=s1.heap.push {cls:=.type "dict_keyiterator",data:=.fields #[.ref a,.int 0 0,.int es.size 0,.int ep 0]}}:=I1.kept (t':=s1.toks) fun b o e=>Heap.get?_push_of_some _ e
 refine aHT hd e1 e2 e3 ⟨s1.heap.objs.size,[s1.heap.objs.size],_,_,_,rfl,aHu I2 ha (Heap.get?_push_of_some _ e1),aFp (a:=a) (kvs:=kvs) e2 e3 hsz,⟨_,Heap.get?_push_size _ rfl,rfl,rfl⟩,fun b hb=>?_,q hB o⟩
 have e:b=s1.heap.objs.size:=by simpa using hb
 subst e
 refine I1.fpOk (bG _) ?_
 rw[fG (Ne.symm (bV (Heap.lt_size e1)))]
 exact I1.hok.fresh (bG _)
section
variable {own frs:List Str}{is:List Nat}{scope:Scope}{cl:List (Str×Addr)}{tg bd:Expr}{ifs:List Expr}{fe:FE}{g:FG}{gt:FB}
theorem aIW(hc:X.calm=true)(k:lJ X own frs is scope cl)(h1:QE X iter fa)(ho:Own own.length g)(hg:∀C s3 H3 fp,QG (gD X (own++frs) scope cl C s3 H3 fp) tg g)(ht:∀C s3 H3 fp,QTs (gD X (own++frs) scope cl C s3 H3 fp) ifs gt)
 (he:∀C s3 H3 fp,QE (gD X (own++frs) scope cl C s3 H3 fp) bd fe)(hs:∀x,foldedSetIterable iter X.env x=pure x:=by intro _;rfl):
 QN X (.ListComp bd [⟨tg,iter,ifs,0⟩] scope pos) (tR fa own.length is g gt fe):=by
 intro aa s σ H Q I h
 refine thn (uV hc k (aI8 h1) hg ht he hs aa s σ H _ I (aJj (B:=Bare X) ho h)) fun u s' zz=>?_
 obtain⟨v,H',I',r,a,ob,w,hB,hf,q⟩:=zz
 exact⟨v,_,aHB I' hf hB,r,q⟩
end
end
theorem aE6:∀{ns:List Int},ns≠[]->tM ns∈ns/\∀a∈ns,tM ns<=a:=by
 have key:∀(ns:List Int)(n:Int),(ns.foldl (fun a b=>if b<a then b else a) n=n\/ns.foldl (fun a b=>if b<a then b else a) n∈ns)/\ns.foldl (fun a b=>if b<a then b else a) n<=n/\∀a∈ns,ns.foldl (fun a b=>if b<a then b else a) n<=a:=by
  intro ns;induction ns with
  |nil=>intro n;exact⟨.inl rfl,bZ _,fun a h=>nomatch h⟩
  |cons m ns ih=>
   intro n;rw[aOC];obtain⟨h1,h2,h3⟩:=ih (if m<n then m else n);by_cases hm:m<n
   ·rw[if_pos hm]at h1 h2 h3|-
    refine⟨?_,by lia,fun a ha=>?_⟩
    ·rcases h1 with h1|h1
     ·rw[h1];simp
     ·exact .inr (bA _ h1)
    ·rcases bE.mp ha with rfl|ha
     ·exact h2
     ·exact h3 a ha
   ·rw[if_neg hm]at h1 h2 h3|-
    refine⟨?_,h2,fun a ha=>?_⟩
    ·rcases h1 with h1|h1
     ·exact .inl h1
     ·exact .inr (bA _ h1)
    ·rcases bE.mp ha with rfl|ha
     ·lia
     ·exact h3 a ha
 intro ns ay;cases ns with
 |nil=>exact absurd rfl ay
 |cons n ns=>
  obtain⟨h1,h2,h3⟩:=key ns n
  refine⟨?_,fun a ha=>?_⟩
  ·rcases h1 with h1|h1
   ·show aPk (fun a b=>if b<a then b else a) n ns∈n::ns;rw[h1];simp
   ·exact bA _ h1
  ·rcases bE.mp ha with rfl|ha
   ·exact h2
   ·exact h3 a ha
section
variable {X:Cx}{e:Expr}{es:List Expr}{fr:FN}{p pos:Pos}
theorem aFe(hc:X.calm=true):m9 X (.builtin "min") (aCv X.K (fun ns=> !ns.isEmpty) tM):=by
 intro aa s σ H xs us Q I r h;obtain⟨p,ns,rfl,hq,ay,q⟩:=h;obtain⟨u,rfl,ru⟩:=vals1 r;cases ru;obtain⟨its,rv,pl,hz⟩:=I.list hq;have hi:=oJ rv;have iu:ns≠[]:=by rintro rfl;simp at ay
 obtain⟨ys,hx⟩:=hi.allInts.items;have dw:s.heap.IsList p (intItems ys):=hx ▸ pl.isList;have gc:ns=ys.toList.map (·.1):=by
  rw[<-nums_intItems,<-hx]
  exact(show numsOf its.toArray.toList=ns from hi.numsOf).symm
 have hsz:0<ys.size:=by
  have h3:0<ns.length:=aOl.mpr iu;rw[gc,aP,b6]at h3;exact h3
 refine min_intList (I.ok.hd hc) dw hsz fun v h' tk hv hk=>?_
 obtain⟨t,rfl⟩:=intItems_at hv;obtain⟨h1,h2⟩:=argBest_lt (numAt ys) (ys.size - 1);obtain⟨m1,m2⟩:=aE6 iu;obtain⟨M,hM⟩:∃M,M=tM ns:=⟨_,rfl⟩;rw[<-hM]at m1 m2 q;have e:numAt ys (argBest (fun i j=>decide (numAt ys i<numAt ys j)) (ys.size - 1))=M:=by
  apply dW
  ·have qu:=m1;rw[gc]at qu;obtain⟨j,hj,ej⟩:=mem_getD qu;rw[aP,b6]at hj;rw[<-ej,<-numAt_eq];exact h2 j (by lia)
  ·refine m2 _ ?_
   rw[gc,numAt_eq];exact getD_mem (by rw[aP,b6];lia)
 exact⟨.int M,H,I.kept hk,⟨_,by rw[e]⟩,q⟩
theorem aIi(hm:X.mg "min"=none)(hc:X.calm=true)(ha:QA X (e::es) fr)(hg:Gl X "min":=by rfl)(he:starEach (e::es) X.env=(false,eval e X.env)::starEach es X.env:=by rfl)(av:(backTo pos (starEach es X.env)).any (·.1)=false:=by rfl):
 QE X (.Call (.Name "min" p) (e::es) [] pos) (aGv fr):=aDq (aFe hc) (fun _ _ _ _=>aC2) boot_min hm hg ha (by decide) (by decide) he av
end
theorem mY{X:Cx}{pos:Pos}{x:Str}{i:Int}(hm:∃t,X.mg x=some (.int i t))(hg:Gl X x:=by rfl)(hd:(x==("__debug__":Str))=false:=by decide):QE X (.Name x pos) (fC (.int i)):=by
 obtain⟨t,hm⟩:=hm
 exact(aJr hg hm (v:=.int i) ⟨t,rfl⟩ hd).imp fun _ _ _=>i_C fun _ _=>.int
structure aGX(K:aO)(x qual:Str)(st:Stmt)(f:Addr)(fd:FuncData)(dV:Value):Prop where
 ex:∃(oc:Value)(od:Option Addr)(kV doc pm:Value)(an:Option Addr)(bc ct:Value)(fm:Array (Option Value)),
  fd=cL x qual (jM st) (iU st) (gC st) dV kV doc pm an bc ct/\K.lookup f=some ⟨oc,od,.func fd,fm⟩/\dL K bc qual=true
section
variable {P:Program}{w:World}{K:aO}{mg:Str->Option Value}{base:Heap}
variable{qual:Str}{st:Stmt}{fd:FuncData}{dV oc:Value}{ps:List Str}{od:Option Addr}{fm:Array (Option Value)}
theorem aGX.ok{x:Str}{f:Addr}{N:List Str}{k:Nat}{sp:Sp}(F:aGX K x qual st f fd dV)(S:pN N ps (gC st))(len:∀vs H Q E,sp vs H Q E->vs.length=ps.length)
 (dm:∀(bc:Value)(A:Around)(outer:List Env)(s:Shared)(H:Hp)(vs:List V)(Q:VK)(E:XK),Room k (A.deeper (envOfC qual (gC st) s.heap.objs.size f bc))->sp vs H Q E->
  ∃t,PSs (aAV CX0 P w K mg base N qual (gC st) f bc A outer s H E).nox (iU st) t/\t {nx:=fun _ H'=>Q .non H',rt:=Q} (start N vs) H):mX P w K mg base CX0 (k+1) f fd ps sp:=by
 obtain⟨oc,od,kV,doc,pm,an,bc,ct,fm,e,lk,iz⟩:=F.ex;subst e
 refine aKD lk iz S len fun A outer s H vs Q E hr ii=>?_
 obtain⟨t,h,q⟩:=dm bc A outer s H vs Q E hr ii
 exact⟨t,h.nox,q⟩
theorem aKq{x:Str}{f:Addr}{an:Option Addr}{kV doc pm bc ct:Value}(l:K.lookup f=some ⟨oc,od,.func (cL x qual (jM st) (iU st) (gC st) dV kV doc pm an bc ct),fm⟩)
 (c:dL K bc qual=true):aGX K x qual st f (cL x qual (jM st) (iU st) (gC st) dV kV doc pm an bc ct) dV:=⟨⟨oc,od,kV,doc,pm,an,bc,ct,fm,rfl,l,c⟩⟩
theorem aDg(m:Nat){T:Addr}{its:Array Value}{n:Nat}{ds:List Value}(hd:fd.defaults=.ref T)(lk:K.lookup T=some ⟨oc,od,.seq its n,fm⟩)
 (hm:m+ds.length=ps.length)(h:∀us:List Value,us.length=m->∃k:Option (Array Value)->Sem (List (Str×Value)),bindArgs fd ⟨us,[]⟩=seqItems? fd.defaults>>=k/\k (some its)=pure (ps.zip (us++ds))):Binds K fd ps ds:=fun s us hk hl=>by
 obtain⟨k,h1,h2⟩:=h us (by rw[aU]at hl;lia)
 exact .of_defaults hd (hk T _ lk) rfl h1 h2
end
theorem iM.of{K:aO}{cls:String}{f:Str}{C:Addr}(e:bW K mainGlobals (Str.ofString cls)=some (some (.ref C)))(c:Cls K C)(n:n5 K C f):iM K cls f:=fun C' h=>by
 rw[e]at h;cases h;exact⟨c,n⟩
section
variable {P:Program}{w:World}{K:aO}{mg:Str->Option Value}{base h:Heap}{f:Addr}{fd:FuncData}{x ql:Str}{t:Stmt}{N ps:List Str}{k n:Nat}{sp:Sp}{B:FS}{cls:String}{C:Addr}
variable{oc kV dc pm cd ct:Value}{od an:Option Addr}{sl:Array (Option Value)}{Q:List Value->Prop}
abbrev hB(K:aO)(N:List Str)(sp:Sp)(B:FS):Prop:=∀{W:XW}{vs:List V}{H:Hp}{Q:VK}{E:XK},sp vs H Q E->trS K W B {nx:=fun _ H'=>Q .non H',rt:=Q} (vs.map some++aT (N.length - vs.length) none) H
abbrev hY(P:Program)(w:World)(K:aO)(mg:Str->Option Value)(base:Heap)(N:List Str)(ql:Str)(t:Stmt)(f:Addr)(k:Nat)(B:FS):Prop:=∀{bc:Value}{A:Around}{outer:List Env}{s:Shared}{H:Hp}{E:XK},N.Nodup->Room k (A.deeper (envOfC ql (gC t) s.heap.objs.size f bc))->
 PSs (aAV CX0 P w K mg base N ql (gC t) f bc A outer s H E).nox (iU t) (trS K (wish (Cx.nox (aAV CX0 P w K mg base N ql (gC t) f bc A outer s H E))) B)
theorem okB(F:Fun K x ql t f fd)(len:∀vs H Q E,sp vs H Q E->vs.length=ps.length)(b:hB K N sp B)(y:hY P w K mg base N ql t f k B)(S:pN N ps (gC t):=by exact⟨rfl,rfl,rfl,by decide+kernel,rfl,by decide+kernel,by decide+kernel⟩):mX P w K mg base CX0 (k+1) f fd ps sp:=
 F.ok S len fun bc A outer s H vs Q E hr z=>⟨_,y S.nd hr,b z⟩
theorem okD{dV:Value}(F:aGX K x ql t f fd dV)(len:∀vs H Q E,sp vs H Q E->vs.length=ps.length)(b:hB K N sp B)(y:hY P w K mg base N ql t f k B)(S:pN N ps (gC t):=by exact⟨rfl,rfl,rfl,by decide+kernel,rfl,by decide+kernel,by decide+kernel⟩):mX P w K mg base CX0 (k+1) f fd ps sp:=
 F.ok S len fun bc A outer s H vs Q E hr z=>⟨_,y S.nd hr,b z⟩
theorem rdn{A:Around}{j:Nat}(hr:Room k A)(h:j<=k:=by decide):Room j A:=hr.mono h
structure Nm(K:aO)(x:Str)(t:Stmt):Prop where
 ex:∃f fd,bW K mainGlobals x=some (some (.ref f))/\Fun K x x t f fd
theorem Nm.of(a:bW K mainGlobals x=some (some (.ref f)))(l:K.lookup f=some ⟨oc,od,.func (cL x x (jM t) (iU t) (gC t) .none kV dc pm an cd ct),sl⟩)
 (c:dL K cd x=true)(k:cN K (.ref f)=true):Nm K x t:=⟨_,_,a,aCB l c k⟩
structure Cm(K:aO)(cls:String)(C:Addr):Prop where
 e:bW K mainGlobals (Str.ofString cls)=some (some (.ref C))
 c:Cls K C
 mi:aO4 K C=true
 kp:cN K (.ref C)=true
structure Mm(K:aO)(C:Addr)(x ql:Str)(t:Stmt):Prop where
 ex:∃f fd,b5 K (.ref C) x=some (some (.ref f))/\aOq K (.ref f)=true/\Fun K x ql t f fd
theorem Mm.of(a:b5 K (.ref C) x=some (some (.ref f)))(l:K.lookup f=some ⟨oc,od,.func (cL x ql (jM t) (iU t) (gC t) .none kV dc pm an cd ct),sl⟩)
 (c:dL K cd ql=true)(k:cN K (.ref f)=true)(n:aOq K (.ref f)=true):Mm K C x ql t:=⟨_,_,a,n,aCB l c k⟩
theorem len1(h:∀a,Q [a]):∀us:List Value,us.length=1->Q us
 | [a],_=>h a
theorem yH{n:Nat}(h:∀a us,us.length=n->Q (a::us)):∀us:List Value,us.length=n+1->Q us
 |a::us,e=>h a us (Nat.succ.inj e)
abbrev Bd(x ql:Str)(t:Stmt)(ps:List Str):Prop:=∀(kV doc pm:Value)(an:Option Addr)(bc ct:Value)(us:List Value),us.length=ps.length->bindArgs (cL x ql (jM t) (iU t) (gC t) .none kV doc pm an bc ct) ⟨us,[]⟩=pure (ps.zip us)
abbrev Ky(P:Program)(w:World)(K:aO)(mg:Str->Option Value)(base:Heap)(x ql:Str)(t:Stmt)(ps:List Str)(k:Nat)(sp:Sp):Prop:=∀{f:Addr}{fd:FuncData},Fun K x ql t f fd->mX P w K mg base CX0 k f fd ps sp
section
variable (X:K.In h)(G:h.Ns mainGlobals mg)
include X G
variable{R:List T->Sto->Option (T×Sto)}
theorem Nm.df(a:Nm K x t)(o:Ky P w K mg base x x t ps k sp)(b:Bd x x t ps):∃f fd ps,mX P w K mg base CX0 k f fd ps sp/\mg x=some (.ref f)/\cN K (.ref f)=true/\Binds K fd ps []:=
 let ⟨f,fd,a,F⟩:=a.ex
 ⟨f,fd,ps,o F,aOm X G a,F.kp,F.binds b⟩
theorem mkT{R:List T->Option T}(a:Nm K x t)(o:Ky P w K mg base x x t ps k (spT K n R))(b:Bd x x t ps:=by walk_at "bq"):i9 P w K mg base k x n R:=⟨a.df X G o b⟩
theorem mkRc{R:List T->Option (T×Sto)}(a:Nm K x t)(o:Ky P w K mg base x x t ps k (aCC K n R))(b:Bd x x t ps:=by walk_at "bq"):aFY P w K mg base k x n R:=⟨a.df X G o b⟩
theorem mkS(a:Nm K x t)(o:Ky P w K mg base x x t ps k (spS K n R))(b:Bd x x t ps:=by walk_at "bq"):uI P w K mg base k x n R:=⟨a.df X G o b⟩
theorem mkI(c:Cm K cls C)(a:Mm K C "__init__" ql t)(o:Ky P w K mg base "__init__" ql t ps k (spS K n R))(b:Bd "__init__" ql t ps:=by walk_at "bq"):aGE P w K mg base k cls n R [] []:=
 let ⟨f,fd,a,i,F⟩:=a.ex
 ⟨⟨C,f,fd,ps,[],c.e,aOm X G c.e,⟨c.mi,a,i,c.kp⟩,o F,F.binds b,.nil⟩,fun _ _=>.nil⟩
end
theorem mkMe{R:List T->Sto->Option (T×Sto)}(c:Cm K cls C)(a:Mm K C x ql t)(o:Ky P w K mg base x ql t ps k (spS K n R))(b:Bd x ql t ps:=by walk_at "bq"):sM P w K mg base k cls x n R:=
 let ⟨f,fd,a,i,F⟩:=a.ex
 ⟨C,f,fd,ps,c.e,c.c,⟨a,i,F.kp⟩,o F,F.binds b⟩
end
section
variable {X:Cx}{e:Expr}{fe:FE}{pos:Pos}
end
end TL
namespace TL
open PySem L2
end TL
namespace TL
open PySem PySem.Spec PyProof.Rows L2
section
variable {X:Cx}{a b:Expr}{fr:FN}{pos:Pos}
end
end TL
namespace TL
open PySem L2
section
variable {K:aO}{W:XW}{H:Hp}{σ:L2.St}{D:Ends}
end
end TL
namespace TL
open PySem PySem.Spec PyProof.Rows L2
section
variable {X:Cx}{a b:Expr}{fa fb:FE}{pos p p2:Pos}
end
end TL
namespace TL
open PySem L2
noncomputable def o6{α:Type}(xs:List α)(lo hi:Option Int):List α:=(sliceRange (sliceBounds lo hi (some 2) xs.length).1 (sliceBounds lo hi (some 2) xs.length).2.1 (sliceBounds lo hi (some 2) xs.length).2.2).filterMap (xs[·]?)
theorem aHP{α β:Type}{f:α->β}{xs:List α}{lo hi:Option Int}:o6 (xs.map f) lo hi=(o6 xs lo hi).map f:=by
 unfold o6;rw[aP,List.map_filterMap];congr 1;funext k;rw[bK]
def aFO(f:FE)(lo hi:FO):FN:=fun τ C=>(f τ C).bind fun p=>(lo τ p.2).bind fun l=>(hi τ l.2).bind fun u=>(liT u.2 p.1).map fun ts=>(o6 ts l.1 u.1,u.2)
section
variable {K:aO}{M:Hp}{ρ:Rho}{H:Hp}{σ:L2.St}{Q:VK}
theorem RTs.pick{ts:List T}{vs:List V}(h:RTs K M ρ ts vs):∀ks:List Nat,RTs K M ρ (ks.filterMap (ts[·]?)) (ks.filterMap (vs[·]?))
 | []=>RTs.nil
 |k::ks=>by
  rw[c8,c8];cases e:ts[k]?with
  |none=>
   have:vs[k]?=none:=cK (by rw[h.length];exact aOP.mp e);rw[this];exact h.pick ks
  |some t=>
   obtain⟨v,e2,r⟩:=h.get e;rw[e2];exact .cons r (h.pick ks)
def aMj(K:aO):V->Option Int->Option Int->Hp->VK->Prop:=fun x lo hi H Q=>∃a xs,x=.ref a/\SqL K H a xs/\∀p,H p=none->Q (.ref p) (upd H p (.lst (o6 xs lo hi)))
theorem aN1{f:FE}{lo hi:FO}(h:trN K (aFO f lo hi) σ H Q):tSl (aMj K) (trE K f) (trO K lo) (trO K hi) σ H Q:=by
 obtain⟨H₀,Z,ρ,τ,C,ts,C',R,e,k⟩:=h;unfold aFO at e;obtain⟨⟨t,C1⟩,e1,e⟩:=aK.mp e;obtain⟨⟨l,C2⟩,e2,e⟩:=aK.mp e;obtain⟨⟨u,C3⟩,e3,e⟩:=aK.mp e;obtain⟨us,e4,e⟩:=aL.mp e;cases e
 refine⟨H₀,Z,ρ,τ,C,t,C1,R,e1,fun v H1 af R1 h1 s1=>?_⟩
 refine⟨H₀,Z,af,τ,C1,l,C2,R1,e2,fun H2 ar R2 s2=>?_⟩
 refine⟨H₀,Z,ar,τ,C2,u,_,R2,e3,fun H3 az R3 s3=>?_⟩
 obtain⟨a,vs,ev,q,r⟩:=R3.li ((h1.step s2).step s3) e4
 refine⟨a,vs,ev,q,fun p hp=>k p H3 az _ R3 hp ?_ ((s1.trans s2).trans s3)⟩
 unfold o6;rw[r.length]
 exact r.pick _
end
end TL
namespace TL
open PySem PySem.Spec PyProof.Rows L2
theorem Vals.pick{xs:List V}{us:List Value}(h:Vals xs us):∀ks:List Nat,Vals (ks.filterMap (xs[·]?)) (ks.filterMap (us[·]?))
 | []=>.nil
 |k::ks=>by
  rw[c8,c8];cases e:xs[k]?with
  |none=>
   have:us[k]?=none:=cK (by rw[<-h.length];exact aOP.mp e);rw[this];exact Vals.pick h ks
  |some t=>
   obtain⟨v,e2,r⟩:=h.get e;rw[e2];exact .cons r (Vals.pick h ks)
section
variable {X:Cx}{a e:Expr}{te:TE}{tl th:TO}{fa:FE}{fl fh:FO}{lo hi:Option Expr}{pos p2 p4:Pos}
theorem aLV{k}(he:PE X e te)(hl:PO X lo tl)(hu:PO X hi th):PE X (.Subscript e (.Slice lo hi (some (.Constant (.int 2) k p4)) p2) pos) (tSl (aMj X.K) te tl th):=by
 intro aa s σ H Q I h
 refine Subscript_ (thn (he aa s σ H _ I h) fun v s1 zz=>?_)
 obtain⟨x,H1,I1,r1,q1⟩:=zz;have h2:PE X (.Constant (.int 2) k p4) (tC (.int 2)):=aAP
 refine wpAny_Slice (thn (hl aa s1 σ H1 _ I1 q1) fun vl s2 ⟨l,H2,I2,pl,q2⟩=>thn (hu aa s2 σ H2 _ I2 q2) fun vu s3 zz=>?_)
 obtain⟨u,H3,I3,pu,q3⟩:=zz
 refine thn ((vE h2) aa s3 σ H3 (fun o H4=>o=some 2/\aMj X.K x l u H4 Q) I3 ⟨2,rfl,rfl,q3⟩) fun vk s4 zz=>?_
 obtain⟨o,H4,I4,wl,eo,q4⟩:=zz;subst eo;obtain⟨a,xs,rfl,hx,q⟩:=q4;cases r1;have I5:Inv X aa σ H4 {s4 with heap:=s4.heap.push {cls:=.type "slice",data:=.fields #[vl,vu,vk]}}:=I4.kept (t':=s4.toks) fun b ob q=>Heap.get?_push_of_some _ q
 obtain⟨its,r,ht,hz⟩:=I5.list hx;have ah:=r.length;have hg:wpAny (model X.prog X.w) X.A (getItem (.ref a) (.ref s4.heap.objs.size)) (EP X aa σ Q) X.xe {s4 with heap:=s4.heap.push {cls:=.type "slice",data:=.fields #[vl,vu,vk]}}:=by
  refine wpAny_getItem_list_slice ht.isList (Heap.IsSliceOf.new ..) pl pu wl (by decide) ?_ (by rw[bF]<;>lia)
  have e5:slicePick its.toArray l u (some 2)=(o6 its l u).toArray:=by
   unfold slicePick o6;simp
  rw[e5]
  refine⟨.ref _,_,I5.laid (t':=s4.toks) (o:=.lst (o6 xs l u)) (fun b ob q=>Heap.get?_push_of_some _ q) (bG _) ?_,rfl,q _ (I5.hok.fresh (bG _))⟩
  have yj:(o6 xs l u).length<=xs.length:=by
   have h1:=slicePick_size_le its.toArray l u (some 2);rw[e5,bF,bF]at h1;have h2:Vals (o6 xs l u) (o6 its l u):=by unfold o6;rw[ah];exact Vals.pick r _
   rw[ah,h2.length];exact h1
  exact⟨cB yj hz,_,0,by unfold o6;rw[ah];exact Vals.pick r _,Heap.get?_push_size _ rfl⟩
 show wpAny (model X.prog X.w) X.A (subscriptTail e _ (.ref a) (.ref s4.heap.objs.size)) (EP X aa σ Q) X.xe _
 exact tail_any (ops:=[.ref a,.ref s4.heap.objs.size]) ht.isList.typeIs slot_list_getitem.lookup hg (by with_unfolding_all rfl)
theorem aNg{k}(ha:QE X a fa)(hl:QO X lo fl)(hh:QO X hi fh):QN X (.Subscript a (.Slice lo hi (some (.Constant (.int 2) k p4)) p2) pos) (aFO fa fl fh):=(aLV ha hl hh).imp fun _ _ _=>aN1
end
end TL
namespace Lib
open PySem L2 TL
def yP:FS:=
 (fJ (fIf (i8 (fLt Y1 (lZ (eV Y0 fF)))) (hV (fIx Y0 Y1)) jJ)
  (hV (fI 0)))
def gQ:List T->Option T:=jA yP 2
def yZ:FS:=
 (hV (fLeLt (fI 0) Y1 Y0))
def kU:List T->Option T:=jA yZ 2
def aD6:FS:=
 (hV (zB (aCk "int" Y0) (y3 (aCk "bool" Y0))))
def rS:List T->Option T:=jA aD6 1
def nN:FS:=
 (fJ (fIf (aAq (qM (qA (fT 2 kU (eV Y0 (eV Y3 fF))))) (qM (qA (fT 2 kU (eV Y0 (eV Y4 fF)))))) aAK jJ)
  (fIf (i8 (aIO Y3 (fIx Y2 Y4))) (uR (fIx Y2 Y4) (eV Y3 fF)) jJ))
def o3:FS:=
 (fJ (fU (iG (jL Y0 1 [] (gN 0) gP (iG (gO fF)))) (gN 2))
  (fJ (mU Y1 (gU [3,4])
   nN)
  (hV Y2)))
def gM:List T->Option T:=jA o3 5
def oP:FS:=
 (fIf (qH (i8 (aIO Y2 Y1)) (qA (aJf (eV (fS (jE (fIx Y0 Y2) 1 [1] (gN 0) gP (fIn Y0 Y1))) fF)))) (hV Y2) jJ)
def qK:FS:=
 (fJ (kR (lZ (eV Y0 fF)) (gN 2)
  oP)
  aAK)
def lT:List T->Option T:=jA qK 3
def qX:FS:=
 (uR Y3 (eV (fT 2 lT (eV Y2 (eV Y3 fF))) fF))
def xV:FS:=
 (fJ (fU (fT 2 gM (eV Y0 (eV Y1 fF))) (gN 2))
  (fJ (fU (iG (gO fF)) (gN 3))
  (fJ (lH (i8 (fLt (lZ (eV Y3 fF)) Y0)) qX 10)
  (hV Y3))))
def mK:List T->Option T:=jA xV 4
def pC:FS:=
 (hV (fS (qP Y0 Y1 2 [] (gU [0,1]) gP (iS Y0 Y1))))
def j7:List T->Option T:=jA pC 2
def rR:FS:=
 (pH (aGC (fS (jE (fIx Y3 Y5) 1 [4,0] (gN 0) gP (iS (fIx Y1 Y0) (fIx Y2 Y0)))) (fI 0)) Y4 Y5)
def v5:FS:=
 (fJ (fU (fT 2 mK (eV (lZ (eV Y0 fF)) (eV Y1 fF))) (gN 2))
  (fJ (fU (fT 2 gM (eV (lZ (eV Y0 fF)) (eV Y1 fF))) (gN 3))
  (fJ (fU (iG (jE Y2 1 [] (gN 0) gP (fI 0))) (gN 4))
  (fJ (mU Y2 (gN 5)
   rR)
  (hV Y4)))))
def lP:List T->Option T:=jA v5 6
def aB4:FS:=
 (hV (aGC (fT 2 j7 (eV (fT 2 lP (eV Y0 (eV Y1 fF))) (eV Y0 fF))) (fI 0)))
def j8:List T->Option T:=jA aB4 2
def q8:FS:=
 (fJ (fIf (aAq (qM (qA (fT 2 kU (eV Y0 (eV Y3 fF))))) (qM (qA (fT 2 kU (eV Y0 (eV Y4 fF)))))) (fRaise "NoOrder" (eV (fC (.str "a need names a number that is no work")) fF)) jJ)
  (fIf (i8 (aIO Y3 (fIx Y2 Y4))) (uR (fIx Y2 Y4) (eV Y3 fF)) jJ))
def oS:FS:=
 (fJ (fU (iG (jL Y0 1 [] (gN 0) gP (iG (gO fF)))) (gN 2))
  (fJ (mU Y1 (gU [3,4])
   q8)
  (hV Y2)))
def uH:List T->Option T:=jA oS 5
def tN:List T->Option String:=aMi oS 5
def sS:FS:=
 (fIf (qH (i8 (aIO Y2 Y1)) (qA (aJf (eV (fS (jE (fIx Y0 Y2) 1 [1] (gN 0) gP (fIn Y0 Y1))) fF)))) (hV Y2) jJ)
def oX:FS:=
 (fJ (kR (lZ (eV Y0 fF)) (gN 2)
  sS)
  (fRaise "NoOrder" (eV (fC (.str "a work would have to be done ahead of itself")) fF)))
def wQ:List T->Option T:=jA oX 3
def uJ:List T->Option String:=aMi oX 3
def x8:FS:=
 (fX (xApp Y3 (xCall 2 uJ (eV Y2 (eV Y3 fF)))) (uR Y3 (eV (fT 2 wQ (eV Y2 (eV Y3 fF))) fF)))
def aBu:FS:=
 (fJ (fX (xCall 2 tN (eV Y0 (eV Y1 fF))) (fU (fT 2 uH (eV Y0 (eV Y1 fF))) (gN 2)))
  (fJ (fU (iG (gO fF)) (gN 3))
  (fJ (lH (i8 (fLt (lZ (eV Y3 fF)) Y0)) x8 10)
  (hV Y3))))
def aAW:List T->Option String:=aMi aBu 4
def tW:FS:=
 (zD Y2 Y4 (fIx Y3 (fI 0)))
def uF:FS:=
 (mU (fS (fSl Y3 (nA (fI 1)) lF)) (gN 4)
  tW)
def y7:FS:=
 (fJ (fU (iG (jL Y0 1 [] (gN 0) gP (fI 0))) (gN 2))
  (fJ (mU Y1 (gN 3)
   uF)
  (hV Y2)))
def mH:List T->Option T:=jA y7 5
def sH:FS:=
 (fJ (fIf (i8 (fLe Y1 (fIx Y0 (fI 2)))) (hV (nP Y1 (fIx Y0 (fI 0)))) jJ)
  (hV (iS (nP (fIx Y0 (fI 2)) (aAJ (fIx Y0 (fI 0)) (fIx Y0 (fI 1)))) (nP Y1 (fIx Y0 (fI 1))))))
def lC:List T->Option T:=jA sH 2
def aD1:FS:=
 (fJ (fU (fT 2 mH (eV (lZ (eV Y0 fF)) (eV Y1 fF))) (gN 3))
  (fJ (fU (aHb (eV (fS (qP Y0 Y3 2 [] (gU [0,1]) gP (fT 2 lC (eV Y0 (eV Y1 fF))))) fF)) (gN 4))
  (hV (aAJ Y4 (nP Y2 (aHb (eV (fS (jE Y1 1 [] (gN 0) gP (fIx Y0 (fI 0)))) fF)))))))
def u6:List T->Option T:=jA aD1 5
def aB2:FS:=
 (fJ (fU (jS (iS (iS (nP Y0 (fI 48271)) (nP (nP Y1 Y1) (fI 69621))) (fI 3)) (fI 2147483647)) (gN 2))
  (fJ (fU (jS (nP Y2 Y2) (fI 2147483629)) (gN 2))
  (hV (jS (nP Y2 Y2) (fI 2147483587)))))
def jG:List T->Option T:=jA aB2 3
def rC:FS:=
 (fJ (fU (jS Y2 (fI 40)) (gN 3))
  (pH (fT 2 jG (eV (iS (fIx Y1 Y3) (fIx Y0 Y2)) (eV Y2 fF))) Y1 Y3))
def vP:FS:=
 (fJ (fU (iG (jL (fI 40) 1 [0] (gN 0) gP (fT 2 jG (eV (fT 2 gQ (eV Y1 (eV (fI 0) fF))) (eV (iS (fI 90) Y0) fF))))) (gN 1))
  (fJ (qS (fI 2) (xL (eV (fI 63) (eV (lZ (eV Y0 fF)) fF))) (gN 2)
   rC)
  (hV Y1)))
def mS:List T->Option T:=jA vP 4
def xO:FS:=
 (aIk Y2 (eV (jS (fT 2 jG (eV Y0 (eV Y3 fF))) (iS Y3 (fI 1))) (eV Y3 fF)))
def aBm:FS:=
 (fJ (fU (iG (gO fF)) (gN 2))
  (fJ (kR Y1 (gN 3)
   xO)
  (hV Y2)))
def lA:List T->Option T:=jA aBm 4
def sA:FS:=
 (fJ (fU (fT 2 gQ (eV Y0 (eV (iS (fI 3) Y5) fF))) (gN 6))
  (fJ (fU (jS Y6 (fIx (fS (gO (eV (fI 5) (eV Y3 fF)))) (rP (eV (fGt Y3 (fI 1)) fF)))) (gN 7))
  (fJ (fU (aEq Y6 (fIx (fS (gO (eV (fI 5) (eV Y3 fF)))) (rP (eV (fGt Y3 (fI 1)) fF)))) (gN 6))
  (fJ (fU (jS Y6 (fIx (fS (gO (eV (fI 6) (eV Y3 fF)))) (rP (eV (fGt Y3 (fI 1)) fF)))) (gN 8))
  (fJ (fU (aEq Y6 (fIx (fS (gO (eV (fI 6) (eV Y3 fF)))) (rP (eV (fGt Y3 (fI 1)) fF)))) (gN 6))
  (uR Y4 (eV (fS (gO (eV (iS Y7 Y8) (eV Y7 (eV (jS Y6 (fIx (fS (gO (eV (fI 5) (eV Y3 fF)))) (rP (eV (fGt Y3 (fI 1)) fF)))) fF))))) fF)))))))
def rV:FS:=
 (fJ (aIk Y9 (eV (jS Y6 (iS Y5 (fI 1))) (eV Y5 fF)))
  (fU (aEq Y6 (iS Y5 (fI 1))) (gN 6)))
def rK:FS:=
 (fJ (fIf (i8 (fEq (jS Y6 (fI 2)) (fI 1))) (uR Y10 (eV (fS (gO (eV Y11 (eV (fIx Y9 Y5) fF)))) fF)) jJ)
  (fU (qQ Y6 (fI 2)) (gN 6)))
def rN:FS:=
 (mU (fS (fSl Y9 lF (nA Y5))) (gN 11)
  rK)
def vQ:FS:=
 (fJ (fU (fIx (fS (gO (eV (fI 1) (eV (nP Y2 (aLe (fI 10) (fI 9))) fF)))) (jS (qQ (fT 2 gQ (eV Y0 (eV (fI 1) fF))) (fI 576)) (fI 2))) (gN 3))
  (fJ (fU (iG (gO fF)) (gN 4))
  (fJ (kR Y1 (gN 5)
   sA)
  (fJ (fU (fT 2 gQ (eV Y0 (eV (fI 2) fF))) (gN 6))
  (fJ (fU (iG (gO fF)) (gN 9))
  (fJ (kR Y1 (gN 5)
   rV)
  (fJ (fU (iG (gO fF)) (gN 10))
  (fJ (kR Y1 (gN 5)
   rN)
  (hV (sD (eV Y4 (eV Y10 fF))))))))))))
def oN:List T->Option T:=jA vQ 12
def aDP:FS:=
 (fJ (fU (jS Y0 (fI 5)) (gN 5))
  (fJ (fU (jS Y1 (fI 6)) (gN 6))
  (fJ (fU (jS Y2 (fI 5)) (gN 7))
  (fJ (fIf (i8 (fEq Y3 (fI 1))) (fJ (fU (iS (nP Y0 Y4) (jS Y1 (fI 97))) (gN 5))
  (fJ (fU (nP (nP Y1 Y4) (rP (eV (fGt (jS Y1 (fI 4)) (fI 0)) fF))) (gN 6))
  (fU (iS (nP Y2 Y4) (jS Y0 (fI 89))) (gN 7)))) jJ)
  (fJ (fIf (i8 (fEq Y3 (fI 2))) (fJ (fU (nP (jS Y1 (fI 3)) (jS (qQ Y1 (fI 3)) (fI 50))) (gN 6))
  (fU (fIx (fS (gO (eV (fI 0) (eV (fI 3) (eV (fI 3) (eV (iS (fI 1) (jS Y2 (fI 40))) fF)))))) (jS (qQ Y2 (fI 64)) (fI 4))) (gN 7))) jJ)
  (fJ (fIf (qH (i8 (fEq Y3 (fI 3))) (i8 (fEq (jS Y0 (fI 3)) (fI 0)))) (fU (fI 0) (gN 5)) jJ)
  (hV (fS (gO (eV (iS Y5 Y6) (eV Y5 (eV Y7 fF))))))))))))
def qY:List T->Option T:=jA aDP 8
def aD5:FS:=
 (fIf (i8 (fGt Y6 (fI 1))) (fJ (fU (iS (fI 1) (jS (fIx Y3 Y11) (aAJ Y6 (fI 1)))) (gN 12))
  (fJ (fU (jS (qQ (fIx Y3 Y11) (fI 16)) (xL (eV Y12 (eV (fIx (fS (gO (eV (fI 1) (eV (fI 2) (eV (fI 8) fF))))) (jS (qQ Y7 (fI 16)) (fI 3))) fF)))) (gN 13))
  (fJ (fU (fIx (fS (gO (eV (aAJ (aAJ Y12 (fI 1)) Y13) (eV Y13 fF)))) (jS (qQ Y7 (fI 48)) (fI 2))) (gN 14))
  (aIk Y10 (eV (jS (qQ (fIx Y3 Y11) (fI 256)) (iS (lZ (eV Y10 fF)) (fI 1))) (eV (fS (gO (eV (fIx Y9 Y14) (eV (fIx Y9 Y12) fF)))) fF)))))) jJ)
def aKG:FS:=
 (fJ (fU (fT 1 mS (eV Y0 fF)) (gN 3))
  (fJ (fU (fT 2 gQ (eV Y0 (eV (fI 0) fF))) (gN 4))
  (fJ (fU (jS (qQ Y4 (fI 4)) (xL (eV (fI 6) (eV (iS Y1 (fI 1)) fF)))) (gN 5))
  (fJ (fU (fIx (fS (gO (eV Y5 (eV (aAJ Y1 (fIx (fS (gO (eV (fI 0) (eV (fI 0) (eV (fI 1) (eV (fI 2) fF)))))) (jS (qQ Y4 (fI 4)) (fI 4)))) (eV Y5 (eV (xL (eV Y1 (eV (iS (fI 3) (jS (qQ Y4 (fI 4)) (fI 3))) fF))) fF)))))) (jS Y4 (fI 4))) (gN 6))
  (fJ (fU (fT 2 gQ (eV Y0 (eV (fI 1) fF))) (gN 7))
  (fJ (fIf (i8 (fEq (jS (qQ Y7 (fI 288)) (fI 2)) (fI 1))) (hV (fT 3 oN (eV Y0 (eV (xL (eV Y6 (eV (fIx (fS (gO (eV (fI 5) (eV (fI 3) fF)))) (rP (eV (fLt Y1 (fI 5)) fF))) fF))) (eV Y2 fF))))) jJ)
  (fJ (fU (fS (jL Y6 1 [3,7,2] (gN 0) gP (fT 5 qY (eV (fIx Y1 Y0) (eV (fIx Y1 (iS (fI 8) Y0)) (eV (fIx Y1 (iS (fI 16) Y0)) (eV (jS Y2 (fI 4)) (eV Y3 fF)))))))) (gN 8))
  (fJ (fU (fT 2 lA (eV (fIx Y3 (fI 39)) (eV Y6 fF))) (gN 9))
  (fJ (fU (iG (gO fF)) (gN 10))
  (fJ (qS (fI 24) (iS (fI 24) (xL (eV (fI 14) (eV (iS Y6 (jS (qQ Y7 (fI 4)) (fI 4))) fF)))) (gN 11)
   aD5)
  (hV (sD (eV Y8 (eV (fS (fSl Y10 (nA (jS (qQ Y7 (fI 96)) (fI 3))) lF)) fF))))))))))))))
def rY:List T->Option T:=jA aKG 15
def qO:FS:=
 (hV (fS (jE Y0 1 [] (gN 0) gP (fIx Y0 (fI 1)))))
def kI:List T->Option T:=jA qO 1
def rQ:FS:=
 (hV (aFv (i8 (fEq (fIx Y0 (fI 2)) (fI 0))) (fIx Y0 (fI 1)) (fIx Y0 (fI 0))))
def k8:List T->Option T:=jA rQ 1
def t8:FS:=
 (hV (fT 2 j8 (eV (fT 1 kI (eV Y0 fF)) (eV Y1 fF))))
def hJ:List T->Option T:=jA t8 2
def vS:FS:=
 (hV (fT 2 j8 (eV (fS (jE Y0 1 [] (gN 0) gP (fT 1 k8 (eV Y0 fF)))) (eV Y1 fF))))
def lO:List T->Option T:=jA vS 2
def uC:FS:=
 (pH (aDC (eV (fIx Y2 Y5) (eV (iS (fIx Y2 Y4) (fIx Y0 Y4)) fF))) Y2 Y5)
def t7:FS:=
 (mU Y1 (gU [4,5])
  uC)
def zG:FS:=
 (fJ (fU (iG (jE Y0 1 [] (gN 0) gP (fI 0))) (gN 2))
  (fJ (kR (lZ (eV Y0 fF)) (gN 3)
   t7)
  (hV (fMaxL (eV (fS (aDs (fS (jL (lZ (eV Y0 fF)) 1 [2,0] (gN 0) gP (iS (fIx Y1 Y0) (fIx Y2 Y0)))) (fS (gO (eV (fI 0) fF))))) fF)))))
def kB:List T->Option T:=jA zG 6
def aEm:FS:=
 (fJ (fU (fT 2 kB (eV (fS (jE Y0 1 [] (gN 0) gP (fIx Y0 (fI 1)))) (eV Y1 fF))) (gN 2))
  (hV (sD (eV Y2 (eV (fT 2 kB (eV (fS (jE Y0 1 [] (gN 0) gP (fIx Y0 (rP (eV (fEq (fIx Y0 (fI 2)) (fI 0)) fF))))) (eV Y1 fF))) fF)))))
def pV:List T->Option T:=jA aEm 3
def qJ:FS:=
 (hV (iS (nP (fI 2) Y0) (fI 2)))
def iI:List T->Option T:=jA qJ 1
def q9:FS:=
 (hV (iS (nP (fI 2) Y0) (fI 3)))
def iW:List T->Option T:=jA q9 1
def zW:FS:=
 (hV (aAJ (qQ Y0 (fI 2)) (fI 1)))
def pX:List T->Option T:=jA zW 1
def wE:FS:=
 (fJ (m8 "Pipe" "tail" Y0 Y1)
  (fJ (m8 "Pipe" "head" Y0 Y2)
  (fJ (m8 "Pipe" "hours" Y0 Y3)
  (fJ (m8 "Pipe" "room" Y0 Y4)
  (m8 "Pipe" "back" Y0 (fC .non))))))
def lL:List T->Sto->Option (T×Sto):=mW wE 5
def zL:FS:=
 (fJ (fU (uA "Pipe" 5 lL [] (eV Y1 (eV Y2 (eV Y3 (eV Y4 fF))))) (gN 5))
  (fJ (fU (uA "Pipe" 5 lL [] (eV Y2 (eV Y1 (eV (fNeg Y3) (eV (fI 0) fF))))) (gN 6))
  (fJ (m8 "Pipe" "back" Y5 Y6)
  (fJ (m8 "Pipe" "back" Y6 Y5)
  (uR (kW "Net" "pipes" Y0) (eV Y5 fF))))))
def jC:List T->Sto->Option (T×Sto):=mW zL 7
def m6:FS:=
 (fJ (mT (k7 "Net" "lay" 5 jC Y0 (eV (fI 0) (eV (fT 1 iI (eV Y5 fF)) (eV (fI 0) (eV Y4 fF))))))
  (fJ (mT (k7 "Net" "lay" 5 jC Y0 (eV (fT 1 iI (eV Y5 fF)) (eV (fT 1 iW (eV Y5 fF)) (eV (fIx Y6 (fI 0)) (eV (fIx Y6 (fI 2)) fF))))))
  (fJ (mT (k7 "Net" "lay" 5 jC Y0 (eV (fT 1 iI (eV Y5 fF)) (eV (fT 1 iW (eV Y5 fF)) (eV (fIx Y6 (fI 1)) (eV Y4 fF))))))
  (mT (k7 "Net" "lay" 5 jC Y0 (eV (fT 1 iW (eV Y5 fF)) (eV (fI 1) (eV (fI 0) (eV Y4 fF)))))))))
def t9:FS:=
 (mT (k7 "Net" "lay" 5 jC Y0 (eV (fT 1 iW (eV Y9 fF)) (eV (fT 1 iI (eV Y7 fF)) (eV (fI 0) (eV Y4 fF))))))
def m4:FS:=
 (mU Y8 (gN 9)
  t9)
def zT:FS:=
 (fJ (m8 "Net" "pipes" Y0 (iG (gO fF)))
  (fJ (m8 "Net" "places" Y0 (iS (nP (fI 2) (lZ (eV Y1 fF))) (fI 2)))
  (fJ (fU (iS (iS (aHb (eV (fS (jE Y1 1 [] (gN 0) gP (fIx Y0 (fI 2)))) fF)) Y3) (fI 1)) (gN 4))
  (fJ (xY Y1 (gU [5,6])
   m6)
  (xY (fT 2 gM (eV (lZ (eV Y1 fF)) (eV Y2 fF))) (gU [7,8])
   m4)))))
def nG:List T->Sto->Option (T×Sto):=mW zT 10
def nL:FS:=
 (fJ (fU (fS (aDs (kW "Net" "pipes" Y0) (fS (jE (kW "Net" "pipes" Y0) 1 [] (gN 0) gP (kW "Pipe" "back" Y0))))) (gN 1))
  (hV (fS (jE Y1 1 [] (gN 0) (i8 (fGt (kW "Pipe" "room" Y0) (fI 0))) Y0))))
def i0:List T->Sto->Option (T×Sto):=mW nL 2
def m7:FS:=
 (fJ (fU (iS (fIx Y0 (kW "Pipe" "tail" Y3)) (kW "Pipe" "hours" Y3)) (gN 4))
  (fIf (i8 (fGt Y4 (fIx Y0 (kW "Pipe" "head" Y3)))) (fJ (pH Y4 Y0 (kW "Pipe" "head" Y3))
  (fU (fC (.bl true)) (gN 2))) jJ))
def oO:FS:=
 (fJ (fU (fC (.bl false)) (gN 2))
  (fJ (mU Y1 (gN 3)
   m7)
  (hV Y2)))
def kK:List T->Sto->Option (T×Sto):=mW oO 5
def uK:FS:=
 jJ
def qC:FS:=
 (fJ (fU (iG (jL (kW "Net" "places" Y0) 1 [] (gN 0) gP (fI 0))) (gN 2))
  (fJ (pH Y1 Y2 (fI 1))
  (fJ (fU (k7 "Net" "open_pipes" 1 i0 Y0 fF) (gN 3))
  (fJ (lH (qA (kP 2 kK (eV Y2 (eV Y3 fF)))) uK (10^200))
  (hV Y2)))))
def jX:List T->Sto->Option (T×Sto):=mW qC 4
def oT:FS:=
 (fIf (qH (i8 (iO (kW "Pipe" "tail" Y3) Y0 (vO true))) (i8 (iO (kW "Pipe" "head" Y3) Y0 (vO false)))) (vW Y2 (kW "Pipe" "head" Y3) (fS (aDs (yR Y0 (kW "Pipe" "tail" Y3)) (fS (gO (eV Y3 fF)))))) jJ)
def qN:FS:=
 (fJ (fU (uE (.dk [])) (gN 2))
  (fJ (mU Y1 (gN 3)
   oT)
  (hV Y2)))
def lU:List T->Sto->Option (T×Sto):=mW qN 4
def oR:FS:=
 (mT (v3 Y3 (kP 2 lU (eV Y3 (eV Y2 fF)))))
def qL:FS:=
 (fJ (fU (fS (jE Y0 1 [1] (gN 0) (i8 (fEq (iS (fIx Y1 (kW "Pipe" "tail" Y0)) (kW "Pipe" "hours" Y0)) (fIx Y1 (kW "Pipe" "head" Y0)))) Y0)) (gN 2))
  (fJ (fU (tP (fI 0) (fS (gO fF))) (gN 3))
  (fJ (lH (i8 (iO (fI 1) Y3 (vO false))) oR 40)
  (hV (yR Y3 (fI 1))))))
def lS:List T->Sto->Option (T×Sto):=mW qL 4
def zY:FS:=
 (hV (aGv (eV (fS (jE Y0 1 [] (gN 0) gP (kW "Pipe" "room" Y0))) fF)))
def pY:List T->Sto->Option (T×Sto):=mW zY 1
def aCm:FS:=
 (fJ (uG "Pipe" "room" (fun i j=>i - j) Y2 Y1)
  (uG "Pipe" "room" (fun i j=>i+j) (kW "Pipe" "back" Y2) Y1))
def aHR:FS:=
 (mU Y0 (gN 2)
  aCm)
def aA2:List T->Sto->Option (T×Sto):=mW aHR 3
def rM:FS:=
 (fJ (fU (kP 2 lS (eV (k7 "Net" "open_pipes" 1 i0 Y0 fF) (eV Y2 fF))) (gN 3))
  (fJ (mT (kP 2 aA2 (eV Y3 (eV (kP 1 pY (eV Y3 fF)) fF))))
  (fU (k7 "Net" "moments" 2 jX Y0 (eV (fI 0) fF)) (gN 2))))
def wY:FS:=
 (fJ (fU (k7 "Net" "moments" 2 jX Y0 (eV (fI 0) fF)) (gN 2))
  (lH (i8 (fGt (fIx Y2 (fI 1)) Y1)) rM (10^200)))
def oB:List T->Sto->Option (T×Sto):=mW wY 4
def sB:FS:=
 (hV (fS (tR Y1 1 [0,1] (gN 0) (qH (i8 (fEq (fIx Y0 (fI 0)) Y1)) (i8 (fGt (yR Y2 Y0) (fI 0)))) Y0)))
def lE:List T->Sto->Option (T×Sto):=mW sB 2
def nC:FS:=
 (fJ (uR Y1 (eV (fIx Y2 (fI 0)) fF))
  (fU (kP 2 lE (eV (fIx (fIx Y2 (fI 0)) (fI 1)) (eV Y0 fF))) (gN 2)))
def oQ:FS:=
 (fJ (fU (iG (gO fF)) (gN 1))
  (fJ (fU (kP 2 lE (eV (fI 0) (eV Y0 fF))) (gN 2))
  (fJ (lH (qA Y2) nC 40)
  (hV Y1))))
def jV:List T->Sto->Option (T×Sto):=mW oQ 3
def vH:FS:=
 (hV (fS (jE (fS (aEW Y0)) 2 [] (gU [0,1]) gP (fT 1 pX (eV Y0 fF)))))
def oA:List T->Sto->Option (T×Sto):=mW vH 1
def sI:FS:=
 (zJ (fun i j=>i - j) Y0 Y3 Y2)
def wT:FS:=
 (fJ (fU (aGv (eV (fS (jE Y1 1 [0] (gN 0) gP (yR Y1 Y0))) fF)) (gN 2))
  (fJ (mU Y1 (gN 3)
   sI)
  (hV Y2)))
def nZ:List T->Sto->Option (T×Sto):=mW wT 4
def pI:FS:=
 (fJ (fU (sD (eV (kW "Pipe" "tail" Y2) (eV (kW "Pipe" "head" Y2) fF))) (gN 3))
  (vW Y1 Y3 (iS (tJ Y1 Y3 (fI 0)) (kW "Pipe" "room" (kW "Pipe" "back" Y2)))))
def pG:FS:=
 (fJ (uR Y4 (eV (iG (aDs (fS (gO (eV (kP 2 nZ (eV Y1 (eV Y5 fF))) fF))) (kP 1 oA (eV Y5 fF)))) fF))
  (fU (kP 1 jV (eV Y1 fF)) (gN 5)))
def rJ:FS:=
 (fJ (fU (uE (.dt [])) (gN 1))
  (fJ (mU (kW "Net" "pipes" Y0) (gN 2)
   pI)
  (fJ (fU (iG (gO fF)) (gN 4))
  (fJ (fU (kP 1 jV (eV Y1 fF)) (gN 5))
  (fJ (lH (qA Y5) pG (10^200))
  (hV Y4))))))
def l9:List T->Sto->Option (T×Sto):=mW rJ 6
def rL:FS:=
 (fJ (fU (uA "Net" 4 nG [.int 0] (eV Y0 (eV Y1 fF))) (gN 3))
  (fJ (mT (k7 "Net" "fill" 2 oB Y3 (eV Y2 fF)))
  (hV Y3)))
def l6:List T->Sto->Option (T×Sto):=mW rL 4
def o5:FS:=
 (fJ (fIf (i8 (fLt Y2 (fT 2 hJ (eV Y0 (eV Y1 fF))))) (hV (fC .non)) jJ)
  (hV (k7 "Net" "stream" 1 l9 (kP 3 l6 (eV Y0 (eV Y1 (eV Y2 fF)))) fF)))
def j9:List T->Option (T×Sto):=aB6 o5 3
def qU:FS:=
 (fJ (fIf (i8 (fLt Y2 (fT 2 hJ (eV Y0 (eV Y1 fF))))) (hV (fC .non)) jJ)
  (hV (fT 3 u6 (eV Y0 (eV (fCallR 3 j9 (eV Y0 (eV Y1 (eV Y2 fF)))) (eV Y2 fF))))))
def jI:List T->Option T:=jA qU 3
end Lib
namespace TL
open PySem L2
section
variable {τ:TSt}{C:Sto}{a b c f fe fo fi:FE}{fa fr fn:FN}{fb ga gb:FB}{F G:FS}
def wpE(f:FE)(τ:TSt)(C:Sto)(Q:T->Sto->Prop):Prop:=∃t C',f τ C=some (t,C')/\Q t C'
def wpA(f:FN)(τ:TSt)(C:Sto)(Q:List T->Sto->Prop):Prop:=∃t C',f τ C=some (t,C')/\Q t C'
def wpB(f:FB)(τ:TSt)(C:Sto)(Q:Bool->Sto->Prop):Prop:=∃t C',f τ C=some (t,C')/\Q t C'
def wpS(F:FS)(τ:TSt)(C:Sto)(Q:Fl->TSt->Sto->Prop):Prop:=∃l t C',F τ C=some (l,t,C')/\Q l t C'
def wpO(o:Option (T×Sto))(Q:T->Sto->Prop):Prop:=∃t C',o=some (t,C')/\Q t C'
def wpL(o:Option (List T))(Q:List T->Prop):Prop:=∃t,o=some t/\Q t
def wpC(o:Option (List T×Sto))(Q:List T->Sto->Prop):Prop:=∃t C',o=some (t,C')/\Q t C'
def wpG(g:FG)(t:T)(C:Sto)(τ:TSt)(Q:TSt->Prop):Prop:=∃ag,g t C τ=some ag/\Q ag
def wpR(o:Option T)(Q:T->Prop):Prop:=∃t,o=some t/\Q t
variable {Q:T->Sto->Prop}{QL:List T->Sto->Prop}{QB:Bool->Sto->Prop}{QS:Fl->TSt->Sto->Prop}{QG:TSt->Prop}{Ql:List T->Prop}
variable{i j lo:Int}{u:T}{R:List T->Option T}{P:Sto->Prop}
theorem eZ{i:Nat}:wpE (jQ i) τ C Q↔∃t,τ[i]?=some (some t)/\Q t C:=by
 unfold wpE jQ;constructor
 ·rintro⟨t,C',e,q⟩;split at e
  ·rename_i t' h;cases e;exact⟨_,h,q⟩
  ·cases e
 ·rintro⟨t,e,q⟩
  exact⟨t,C,by rw[e],q⟩
theorem jW{t:T}:wpE (fC t) τ C Q↔Q t C:=by
 unfold wpE fC;constructor
 ·rintro⟨_,_,e,q⟩;cases e;exact q
 ·exact fun q=>⟨_,_,rfl,q⟩
theorem gA{g:T->T->Sto->Option (T×Sto)}:wpE (iO a b g) τ C Q↔wpE a τ C fun x C1=>wpE b τ C1 fun y C2=>wpO (g x y C2) Q:=by
 unfold wpE iO wpO;constructor
 ·rintro⟨t,C',e,q⟩;obtain⟨⟨x,C1⟩,e1,e⟩:=aK.mp e;obtain⟨⟨y,C2⟩,e2,e⟩:=aK.mp e
  exact⟨x,C1,e1,y,C2,e2,t,C',e,q⟩
 ·rintro⟨x,C1,e1,y,C2,e2,t,C',e,q⟩
  exact⟨t,C',by simp[e1,e2,e],q⟩
theorem aDc{g:T->Sto->Option (T×Sto)}:wpE (fUn a g) τ C Q↔wpE a τ C fun x C1=>wpO (g x C1) Q:=by
 unfold wpE fUn wpO;constructor
 ·rintro⟨t,C',e,q⟩;obtain⟨⟨x,C1⟩,e1,e⟩:=aK.mp e
  exact⟨x,C1,e1,t,C',e,q⟩
 ·rintro⟨x,C1,e1,t,C',e,q⟩
  exact⟨t,C',by simp[e1,e],q⟩
theorem nQ{g:T->T->Sto->Option (List T)}:wpA (wB a b g) τ C QL↔wpE a τ C fun x C1=>wpE b τ C1 fun y C2=>wpL (g x y C2) fun us=>QL us C2:=by
 unfold wpA wpE wB wpL;constructor
 ·rintro⟨t,C',e,q⟩;obtain⟨⟨x,C1⟩,e1,e⟩:=aK.mp e;obtain⟨⟨y,C2⟩,e2,e⟩:=aK.mp e;obtain⟨us,e3,e⟩:=aL.mp e;cases e
  exact⟨x,C1,e1,y,_,e2,_,e3,q⟩
 ·rintro⟨x,C1,e1,y,C2,e2,t,e,q⟩
  exact⟨t,C2,by simp[e1,e2,e],q⟩
theorem fM:wpA fF τ C QL↔QL [] C:=by
 unfold wpA fF;constructor
 ·rintro⟨_,_,e,q⟩;cases e;exact q
 ·exact fun q=>⟨_,_,rfl,q⟩
theorem fE:wpA (eV a fr) τ C QL↔wpE a τ C fun x C1=>wpA fr τ C1 fun xs C2=>QL (x::xs) C2:=by
 unfold wpA wpE eV;constructor
 ·rintro⟨t,C',e,q⟩;obtain⟨⟨x,C1⟩,e1,e⟩:=aK.mp e;obtain⟨⟨y,C2⟩,e2,e⟩:=aL.mp e;cases e
  exact⟨x,C1,e1,y,_,e2,q⟩
 ·rintro⟨x,C1,e1,y,C2,e2,q⟩
  exact⟨_,C2,by simp[e1,e2],q⟩
theorem hX{g:List T->Sto->Option (T×Sto)}:wpE (mV fa g) τ C Q↔wpA fa τ C fun xs C1=>wpO (g xs C1) Q:=by
 unfold wpE wpA mV wpO;constructor
 ·rintro⟨t,C',e,q⟩;obtain⟨⟨x,C1⟩,e1,e⟩:=aK.mp e
  exact⟨x,C1,e1,t,C',e,q⟩
 ·rintro⟨x,C1,e1,t,C',e,q⟩
  exact⟨t,C',by simp[e1,e],q⟩
theorem vV{g:List T->Sto->Option (List T)}:wpA (tY fa g) τ C QL↔wpA fa τ C fun xs C1=>wpL (g xs C1) fun us=>QL us C1:=by
 unfold wpA tY wpL;constructor
 ·rintro⟨t,C',e,q⟩;obtain⟨⟨x,C1⟩,e1,e⟩:=aK.mp e;obtain⟨us,e3,e⟩:=aL.mp e;cases e
  exact⟨x,_,e1,_,e3,q⟩
 ·rintro⟨x,C1,e1,t,e,q⟩
  exact⟨t,C1,by simp[e1,e],q⟩
theorem jO:wpA (gO fa) τ C QL↔wpA fa τ C fun xs C1=>xs.length<=lim/\QL xs C1:=by
 unfold gO;rw[vV];unfold wpA wpL;constructor
 ·rintro⟨x,C1,e,t,e2,q⟩;split at e2
  ·cases e2;exact⟨_,_,e,‹_›,q⟩
  ·cases e2
 ·rintro⟨x,C1,e,h,q⟩
  exact⟨x,C1,e,x,by rw[if_pos h],q⟩
theorem gF:wpE (fS fn) τ C Q↔wpA fn τ C fun us C1=>Q (.lst us) C1:=by
 unfold wpE wpA fS;constructor
 ·rintro⟨t,C',e,q⟩;obtain⟨⟨x,C1⟩,e1,e⟩:=aL.mp e;cases e
  exact⟨x,_,e1,q⟩
 ·rintro⟨x,C1,e1,q⟩
  exact⟨_,C1,by simp[e1],q⟩
theorem j5:wpE (iG fn) τ C Q↔wpA fn τ C fun us C1=>Q (.cell C1.length) (C1++[(.l,us)]):=by
 unfold wpE wpA iG;constructor
 ·rintro⟨t,C',e,q⟩;obtain⟨⟨x,C1⟩,e1,e⟩:=aL.mp e;cases e
  exact⟨x,_,e1,q⟩
 ·rintro⟨x,C1,e1,q⟩
  exact⟨_,_,by simp[e1],q⟩
theorem nT{g:Int->Int->T}:wpO (gI g (.int i) (.int j) C) Q↔Q (g i j) C:=by
 unfold wpO gI;constructor
 ·rintro⟨_,_,e,q⟩;cases e;exact q
 ·exact fun q=>⟨_,_,rfl,q⟩
theorem aLq{p:Prop}[Decidable p]{o:Option (T×Sto)}:wpO (if p then o else none) Q↔p/\wpO o Q:=by
 by_cases h:p<;>simp[h,wpO]
theorem nW{t:T}:wpO (some (t,C)) Q↔Q t C:=by
 unfold wpO;constructor
 ·rintro⟨_,_,e,q⟩;cases e;exact q
 ·exact fun q=>⟨_,_,rfl,q⟩
theorem aLi{k:Int->Int->Bool}{g:Int->Int->T}:wpO (gIc k g (.int i) (.int j) C) Q↔k i j=true/\Q (g i j) C:=by
 show wpO (if k i j=true then some (g i j,C)else none) Q↔_;rw[aLq,nW]
theorem lY{t:T}:wpO (gIx t (.int i) C) Q↔∃ts,sqT C t=some ts/\∃x,atI ts i=some x/\Q x C:=by
 unfold wpO gIx;constructor
 ·rintro⟨t,C',e,q⟩;obtain⟨ts,e1,e⟩:=aK.mp e;obtain⟨x,e2,e⟩:=aL.mp e;cases e
  exact⟨ts,e1,_,e2,q⟩
 ·rintro⟨ts,e1,x,e2,q⟩
  exact⟨_,C,by simp[e1,e2],q⟩
theorem aAU{t:T}:wpO (aFz [t] C) Q↔∃ts,sqT C t=some ts/\Q (.int ts.length) C:=by
 unfold wpO aFz;constructor
 ·rintro⟨t,C',e,q⟩;obtain⟨ts,e1,e⟩:=aL.mp e;cases e
  exact⟨ts,e1,q⟩
 ·rintro⟨ts,e1,q⟩
  exact⟨_,C,by simp[e1],q⟩
theorem aCe{t:T}:wpL (aDQ [t] C) Ql↔∃ts,sqT C t=some ts/\Ql ts:=aOV
theorem p6{t:T}:wpL (aFy t u C) Ql↔∃ts,liT C t=some ts/\∃us,liT C u=some us/\ts.length+us.length<=lim/\Ql (ts++us):=by
 unfold wpL aFy;constructor
 ·rintro⟨t,e,q⟩;obtain⟨ts,e1,e⟩:=aK.mp e;obtain⟨us,e2,e⟩:=aK.mp e;split at e
  ·cases e;exact⟨ts,e1,us,e2,‹_›,q⟩
  ·cases e
 ·rintro⟨ts,e1,us,e2,h,q⟩
  exact⟨_,by simp[e1,e2,h],q⟩
theorem r9{k:List Int->Bool}{g:List Int->Int}{t:T}:wpO (vY k g [t] C) Q↔∃us,liT C t=some us/\∃ns,ints? us=some ns/\k ns=true/\Q (.int (g ns)) C:=by
 unfold wpO vY;constructor
 ·rintro⟨t,C',e,q⟩;obtain⟨ts,e1,e⟩:=aK.mp e;obtain⟨ns,e2,e⟩:=aK.mp e;split at e
  ·cases e;exact⟨ts,e1,ns,e2,‹_›,q⟩
  ·cases e
 ·rintro⟨ts,e1,us,e2,h,q⟩
  exact⟨_,_,by simp[e1,e2,h],q⟩
theorem aD8{g:List Bool->Bool}{t:T}:wpO (aHJ g [t] C) Q↔∃us,liT C t=some us/\∃ns,bls? us=some ns/\Q (.bl (g ns)) C:=by
 unfold wpO aHJ;constructor
 ·rintro⟨t,C',e,q⟩;obtain⟨ts,e1,e⟩:=aK.mp e;obtain⟨ns,e2,e⟩:=aL.mp e;cases e;exact⟨ts,e1,ns,e2,q⟩
 ·rintro⟨ts,e1,us,e2,q⟩
  exact⟨_,_,by simp[e1,e2],q⟩
theorem aGc{g:Int->Int->Int}:wpO (gI2 g [.int i,.int j] C) Q↔Q (.int (g i j)) C:=nW
theorem aHx:wpO (gI2 (fun i j=>if j<i then j else i) [.int i,.int j] C) Q↔Q (.int (min i j)) C:=by
 rw[aGc,show(if j<i then j else i)=min i j by lia]
theorem xQ:wpO (gI2 (fun i j=>if j>i then j else i) [.int i,.int j] C) Q↔Q (.int (max i j)) C:=by
 rw[aGc,show(if j>i then j else i)=max i j by lia]
theorem aFi{i:Bool}:wpO (aDH [.bl i] C) Q↔Q (.int (if i then 1 else 0)) C:=nW
theorem aIv:wpO (aHF (.int i) C) Q↔Q (.int (-i)) C:=nW
theorem aJx{k:String}:wpE (aCk k a) τ C Q↔wpE a τ C fun t C1=>∃x,aML k t=some x/\Q (.bl x) C1:=by
 unfold aCk;rw[aDc];unfold wpE wpO;constructor
 ·rintro⟨t,C',e,t2,C2,e2,q⟩;obtain⟨x,e3,e2⟩:=aL.mp e2;cases e2
  exact⟨t,_,e,x,e3,q⟩
 ·rintro⟨t,C',e,x,e2,q⟩
  exact⟨t,C',e,_,_,by simp[e2],q⟩
theorem aK3{n:Bool}{t:T}:wpO (gEq n t u C) Q↔∃x,dr 3 C t=some x/\∃y,dr 3 C u=some y/\∃k,eqT 5 x y=some k/\Q (.bl (if n then !k else k)) C:=by
 unfold wpO gEq;constructor
 ·rintro⟨t,C',e,q⟩;obtain⟨x,e1,e⟩:=aK.mp e;obtain⟨y,e2,e⟩:=aK.mp e;obtain⟨k,e3,e⟩:=aL.mp e;cases e
  exact⟨x,e1,y,e2,k,e3,q⟩
 ·rintro⟨x,e1,y,e2,k,e3,q⟩
  exact⟨_,_,by simp[e1,e2,e3],q⟩
theorem aL8{n:Bool}{t:T}:wpO (gIn n t u C) Q↔∃x,dr 3 C t=some x/\∃ts,liT C u=some ts/\∃us,mapO (dr 3 C) ts=some us/\∃k,inL (fun w=>eqT 5 w x) us=some k/\Q (.bl (if n then !k else k)) C:=by
 unfold wpO gIn;constructor
 ·rintro⟨t,C',e,q⟩;obtain⟨x,e1,e⟩:=aK.mp e;obtain⟨y,e2,e⟩:=aK.mp e;obtain⟨z,e4,e⟩:=aK.mp e;obtain⟨k,e3,e⟩:=aL.mp e;cases e
  exact⟨x,e1,y,e2,z,e4,k,e3,q⟩
 ·rintro⟨x,e1,y,e2,z,e4,k,e3,q⟩
  exact⟨_,_,by simp[e1,e2,e3,e4],q⟩
theorem aH0{n:Nat}{ts:List T}(hl:ts.length=n)(hc:CFs ts=true):wpO (iF n R ts C) Q↔wpR (R ts) fun t=>Q t C:=by
 unfold wpO iF wpR;rw[if_pos hl,if_pos hc];constructor
 ·rintro⟨t,C',e,q⟩;obtain⟨x,e1,e⟩:=aL.mp e;cases e;exact⟨_,e1,q⟩
 ·rintro⟨t,e,q⟩
  exact⟨_,_,by simp[e],q⟩
theorem fO{n:Nat}{ts:List T}{t:T}(e:R ts=some t)(hl:ts.length=n)(hc:CFs ts=true):wpO (iF n R ts C) Q↔Q t C:=by
 rw[aH0 hl hc,e];unfold wpR;constructor
 ·rintro⟨_,e,q⟩;cases e;exact q
 ·exact fun q=>⟨_,rfl,q⟩
theorem y8{n:Nat}{ts us:List T}(hl:ts.length=n)(hu:mapO (dr 3 C) ts=some us)(h:wpR (R us) fun t=>sca t=true/\Q t C):wpO (iF n R ts C) Q:=by
 unfold wpO iF;obtain⟨t,e,hs,q⟩:=h;rw[if_pos hl];split
 ·rename_i hc;have:us=ts:=by
   have hi:=aAS.mp hc;clear hl hc e;induction ts generalizing us with
   |nil=>cases hu;rfl
   |cons t ts ih=>
    obtain⟨u,e1,hu⟩:=aK.mp hu;obtain⟨r,e2,hu⟩:=aL.mp hu;cases hu;have h1:=hi t bJ;rw[ih e2 fun t h=>hi t (bA _ h)];have:u=t:=by
     cases t<;>simp_all [dr,CF]
    rw[this]
  rw[<-this,e]
  exact⟨_,_,rfl,q⟩
 ·rw[hu]
  exact⟨t,C,by simp[e,hs],q⟩
theorem jZ:wpB (i8 a) τ C QB↔wpE a τ C fun t C1=>∃x,t=.bl x/\QB x C1:=by
 unfold wpB wpE i8;constructor
 ·rintro⟨t,C',e,q⟩;obtain⟨⟨x,C1⟩,e1,e⟩:=aK.mp e;dsimp only at e;split at e
  ·cases e;exact⟨_,_,e1,_,rfl,q⟩
  ·cases e
 ·rintro⟨x,C1,e1,y,rfl,q⟩
  exact⟨y,C1,by simp[e1],q⟩
theorem p5:wpB (qA a) τ C QB↔wpE a τ C fun t C1=>∃x,aMl C1 t=some x/\QB x C1:=by
 unfold wpB wpE qA;constructor
 ·rintro⟨t,C',e,q⟩;obtain⟨⟨x,C1⟩,e1,e⟩:=aK.mp e;obtain⟨y,e2,e⟩:=aL.mp e;cases e
  exact⟨_,_,e1,_,e2,q⟩
 ·rintro⟨x,C1,e1,y,e2,q⟩
  exact⟨y,C1,by simp[e1,e2],q⟩
theorem aAo:wpB (qH ga gb) τ C QB↔wpB ga τ C fun x C1=>if x=true then wpB gb τ C1 QB else QB false C1:=by
 unfold wpB qH;constructor
 ·rintro⟨t,C',e,q⟩;obtain⟨⟨x,C1⟩,e1,e⟩:=aK.mp e
  refine⟨x,C1,e1,?_⟩
  dsimp only at e;split at e
  ·rw[if_pos ‹_›];exact⟨t,C',e,q⟩
  ·cases e;rw[if_neg ‹_›];exact q
 ·rintro⟨x,C1,e1,q⟩;split at q
  ·obtain⟨t,C',e,q⟩:=q
   exact⟨t,C',by simp_all,q⟩
  ·exact⟨false,C1,by simp_all,q⟩
theorem aGJ:wpB (aAq ga gb) τ C QB↔wpB ga τ C fun x C1=>if x=true then QB true C1 else wpB gb τ C1 QB:=by
 unfold wpB aAq;constructor
 ·rintro⟨t,C',e,q⟩;obtain⟨⟨x,C1⟩,e1,e⟩:=aK.mp e
  refine⟨x,C1,e1,?_⟩
  dsimp only at e;split at e
  ·cases e;rw[if_pos ‹_›];exact q
  ·rw[if_neg ‹_›];exact⟨t,C',e,q⟩
 ·rintro⟨x,C1,e1,q⟩;split at q
  ·exact⟨true,C1,by simp_all,q⟩
  ·obtain⟨t,C',e,q⟩:=q
   exact⟨t,C',by simp_all,q⟩
theorem aDv:wpB (qM ga) τ C QB↔wpB ga τ C fun x C1=>QB (!x) C1:=by
 unfold wpB qM;constructor
 ·rintro⟨t,C',e,q⟩;obtain⟨⟨x,C1⟩,e1,e⟩:=aL.mp e;cases e
  exact⟨x,_,e1,q⟩
 ·rintro⟨x,C1,e1,q⟩
  exact⟨_,C1,by simp[e1],q⟩
theorem aJR:wpE (zB a b) τ C Q↔wpE a τ C fun t C1=>∃x,t=.bl x/\if x=true then wpE b τ C1 Q else Q (.bl false) C1:=by
 unfold wpE zB;constructor
 ·rintro⟨t,C',e,q⟩;obtain⟨⟨x,C1⟩,e1,e⟩:=aK.mp e
  refine⟨x,C1,e1,?_⟩
  dsimp only at e;split at e
  ·exact⟨true,rfl,by rw[if_pos rfl];exact⟨t,C',e,q⟩⟩
  ·cases e;exact⟨false,rfl,by rw[if_neg (by simp)];exact q⟩
  ·cases e
 ·rintro⟨x,C1,e1,y,rfl,q⟩;split at q
  ·obtain⟨t,C',e,q⟩:=q
   exact⟨t,C',by simp_all,q⟩
  ·exact⟨.bl false,C1,by simp_all,q⟩
theorem aKg:wpE (y3 a) τ C Q↔wpE a τ C fun t C1=>∃x,t=.bl x/\Q (.bl (!x)) C1:=by
 unfold wpE y3;constructor
 ·rintro⟨t,C',e,q⟩;obtain⟨⟨x,C1⟩,e1,e⟩:=aK.mp e;dsimp only at e;split at e
  ·cases e;exact⟨_,_,e1,_,rfl,q⟩
  ·cases e
 ·rintro⟨x,C1,e1,y,rfl,q⟩
  exact⟨_,C1,by simp[e1],q⟩
theorem aI1:wpE (aFv ga a b) τ C Q↔wpB ga τ C fun x C1=>if x=true then wpE a τ C1 Q else wpE b τ C1 Q:=by
 unfold wpB wpE aFv;constructor
 ·rintro⟨t,C',e,q⟩;obtain⟨⟨x,C1⟩,e1,e⟩:=aK.mp e
  refine⟨x,C1,e1,?_⟩
  dsimp only at e;split at e
  ·rw[if_pos ‹_›];exact⟨t,C',e,q⟩
  ·rw[if_neg ‹_›];exact⟨t,C',e,q⟩
 ·rintro⟨x,C1,e1,q⟩;split at q
  ·obtain⟨t,C',e,q⟩:=q
   exact⟨t,C',by simp_all,q⟩
  ·obtain⟨t,C',e,q⟩:=q
   exact⟨t,C',by simp_all,q⟩
theorem aFa{p q:Int->Int->Bool}:wpE (tF a b c p q) τ C Q↔wpE a τ C fun x C1=>wpE b τ C1 fun y C2=>∃i j,x=.int i/\y=.int j/\if p i j=true then wpE c τ C2 (fun z C3=>∃l,z=.int l/\Q (.bl (q j l)) C3)else Q (.bl false) C2:=by
 unfold wpE tF;constructor
 ·rintro⟨t,C',e,q⟩;obtain⟨⟨x,C1⟩,e1,e⟩:=aK.mp e;obtain⟨⟨y,C2⟩,e2,e⟩:=aK.mp e
  refine⟨x,C1,e1,y,C2,e2,?_⟩
  dsimp only at e;split at e
  ·refine⟨_,_,rfl,rfl,?_⟩
   split at e
   ·rw[if_pos ‹_›];obtain⟨⟨z,C3⟩,e3,e⟩:=aK.mp e;dsimp only at e;split at e
    ·cases e;exact⟨_,_,e3,_,rfl,q⟩
    ·cases e
   ·rw[if_neg ‹_›];cases e;exact q
  ·cases e
 ·rintro⟨x,C1,e1,y,C2,e2,i,j,rfl,rfl,h⟩;split at h
  ·obtain⟨z,C3,e3,l,rfl,q⟩:=h
   exact⟨_,C3,by simp_all,q⟩
  ·exact⟨_,C2,by simp_all,h⟩
theorem i6:wpS jJ τ C QS↔QS .nx τ C:=by
 unfold wpS jJ;constructor
 ·rintro⟨_,_,_,e,q⟩;cases e;exact q
 ·exact fun q=>⟨_,_,_,rfl,q⟩
def sq(G:FS)(Q:Fl->TSt->Sto->Prop)(l:Fl)(τ:TSt)(C:Sto):Prop:=match l with
 | .nx=>wpS G τ C Q
 |l=>Q l τ C
theorem fN:wpS (fJ F G) τ C QS↔wpS F τ C (sq G QS):=by
 unfold wpS fJ;constructor
 ·rintro⟨l,t,C',e,q⟩;obtain⟨⟨l1,t1,C1⟩,e1,e⟩:=aK.mp e
  refine⟨l1,t1,C1,e1,?_⟩
  cases l1<;>first| (cases e;exact q)|exact⟨l,t,C',e,q⟩
 ·rintro⟨l1,t1,C1,e1,h⟩;cases l1 with
  |nx=>obtain⟨l,t,C',e,q⟩:=h;exact⟨l,t,C',by rw[e1];exact e,q⟩
  |_=>exact⟨_,t1,C1,by rw[e1];rfl,h⟩
theorem gW:sq G QS .nx τ C↔wpS G τ C QS:=aOV
theorem aNv{t:T}:sq G QS (.rt t) τ C↔QS (.rt t) τ C:=aOV
theorem aNT{c:String}:sq G QS (.ex c) τ C↔QS (.ex c) τ C:=aOV
theorem aNK:sq G QS .bk τ C↔QS .bk τ C:=aOV
theorem aNI:sq G QS .ct τ C↔QS .ct τ C:=aOV
theorem mN:wpS (fIf ga F G) τ C QS↔wpB ga τ C fun x C1=>if x=true then wpS F τ C1 QS else wpS G τ C1 QS:=by
 unfold wpB wpS fIf;constructor
 ·rintro⟨l,t,C',e,q⟩;obtain⟨⟨x,C1⟩,e1,e⟩:=aK.mp e
  refine⟨x,C1,e1,?_⟩
  dsimp only at e;split at e
  ·rw[if_pos ‹_›];exact⟨l,t,C',e,q⟩
  ·rw[if_neg ‹_›];exact⟨l,t,C',e,q⟩
 ·rintro⟨x,C1,e1,q⟩;split at q
  ·obtain⟨l,t,C',e,q⟩:=q
   exact⟨l,t,C',by simp_all,q⟩
  ·obtain⟨l,t,C',e,q⟩:=q
   exact⟨l,t,C',by simp_all,q⟩
theorem iV:wpS (hV a) τ C QS↔wpE a τ C fun t C1=>QS (.rt t) τ C1:=by
 unfold wpE wpS hV;constructor
 ·rintro⟨l,t,C',e,q⟩;obtain⟨⟨x,C1⟩,e1,e⟩:=aL.mp e;cases e
  exact⟨x,_,e1,q⟩
 ·rintro⟨x,C1,e1,q⟩
  exact⟨_,_,C1,by simp[e1],q⟩
theorem oY:wpS (mT a) τ C QS↔wpE a τ C fun t C1=>QS .nx τ C1:=by
 unfold wpE wpS mT;constructor
 ·rintro⟨l,t,C',e,q⟩;obtain⟨⟨x,C1⟩,e1,e⟩:=aL.mp e;cases e
  exact⟨x,_,e1,q⟩
 ·rintro⟨x,C1,e1,q⟩
  exact⟨_,_,C1,by simp[e1],q⟩
theorem f6{g:FG}:wpS (fU a g) τ C QS↔wpE a τ C fun t C1=>wpG g t C1 τ fun ap=>QS .nx ap C1:=by
 unfold wpE wpS wpG fU;constructor
 ·rintro⟨l,t,C',e,q⟩;obtain⟨⟨x,C1⟩,e1,e⟩:=aK.mp e;obtain⟨ap,e2,e⟩:=aL.mp e;cases e
  exact⟨x,_,e1,_,e2,q⟩
 ·rintro⟨x,C1,e1,ap,e2,q⟩
  exact⟨_,_,C1,by simp[e1,e2],q⟩
theorem f8{i:Nat}{t:T}:wpG (gN i) t C τ QG↔QG (τ.set i (some t)):=by
 unfold wpG gN;constructor
 ·rintro⟨_,e,q⟩;cases e;exact q
 ·exact fun q=>⟨_,rfl,q⟩
theorem yO{is:List Nat}{t:T}:wpG (gU is) t C τ QG↔∃ts,sqT C t=some ts/\ts.length=is.length/\QG (setAll is ts τ):=by
 unfold wpG gU;constructor
 ·rintro⟨_,e,q⟩;obtain⟨ts,e1,e⟩:=aK.mp e;split at e
  ·cases e;exact⟨ts,e1,‹_›,q⟩
  ·cases e
 ·rintro⟨ts,e1,h,q⟩
  exact⟨_,by simp[e1,h],q⟩
theorem qZ:wpS (pH fe fo fi) τ C QS↔wpE fe τ C fun x C1=>wpE fo τ C1 fun y C2=>wpE fi τ C2 fun z C3=>∃k i,y=.cell k/\z=.int i/\∃ts,lc C3 k=some ts/\∃j,ixN ts.length i=some j/\QS .nx τ (C3.set k (.l,ts.set j x)):=by
 unfold wpE wpS pH;constructor
 ·rintro⟨l,t,C',e,q⟩;obtain⟨⟨x,C1⟩,e1,e⟩:=aK.mp e;obtain⟨⟨y,C2⟩,e2,e⟩:=aK.mp e;obtain⟨⟨z,C3⟩,e3,e⟩:=aK.mp e
  refine⟨x,C1,e1,y,C2,e2,z,C3,e3,?_⟩
  dsimp only at e;split at e
  ·obtain⟨ts,e4,e⟩:=aK.mp e;obtain⟨j,e5,e⟩:=aL.mp e;cases e
   exact⟨_,_,rfl,rfl,ts,e4,j,e5,q⟩
  ·cases e
 ·rintro⟨x,C1,e1,y,C2,e2,z,C3,e3,k,i,rfl,rfl,ts,e4,j,e5,q⟩
  exact⟨_,_,_,by simp[e1,e2,e3,e4,e5],q⟩
theorem vC{g:List T->List T->Option (List T)}:wpS (aFg a fa g) τ C QS↔wpE a τ C fun x C1=>wpA fa τ C1 fun xs C2=>∃k,x=.cell k/\(lc C1 k).isSome=true/\∃ts,lc C2 k=some ts/\wpL (g ts xs) fun us=>QS .nx τ (C2.set k (.l,us)):=by
 unfold wpE wpA wpS aFg wpL;constructor
 ·rintro⟨l,t,C',e,q⟩;obtain⟨⟨x,C1⟩,e1,e⟩:=aK.mp e;obtain⟨⟨y,C2⟩,e2,e⟩:=aK.mp e
  refine⟨x,C1,e1,y,C2,e2,?_⟩
  dsimp only at e;split at e
  ·obtain⟨t0,e3,e⟩:=aK.mp e;obtain⟨ts,e4,e⟩:=aK.mp e;obtain⟨j,e5,e⟩:=aL.mp e;cases e
   exact⟨_,rfl,cT.mpr ⟨_,e3⟩,ts,e4,j,e5,q⟩
  ·cases e
 ·rintro⟨x,C1,e1,y,C2,e2,k,rfl,e3,ts,e4,j,e5,q⟩;obtain⟨t0,e3⟩:=cT.mp e3
  exact⟨_,_,_,by simp[e1,e2,e3,e4,e5],q⟩
theorem u9{ts:List T}{y:T}:wpL (aB3 ts [y]) Ql↔ts.length<lim/\Ql (ts++[y]):=by
 unfold wpL aB3;by_cases h:ts.length<lim<;>simp[h]
theorem aKv{ts:List T}{y:T}:wpL (aBB ts [.int i,y]) Ql↔(ts.length<lim/\ -(2^63)<=i/\i<2^63)/\Ql (insAt ts i y):=by
 unfold wpL aBB;by_cases h:ts.length<lim/\ -(2^63)<=i/\i<2^63
 ·simp only[if_pos h,cH.injEq,exists_eq_left',and_iff_right h]
 ·simp only[if_neg h,reduceCtorEq,false_and,exists_false]
  exact⟨False.elim,fun(z:_/\_)=>h z.1⟩
theorem aLK{g:FG}(I:Nat->TSt->Sto->Prop){ts:List T}(h0:I 0 τ C)
 (hs:∀i t τ C,ts[i]?=some t->I i τ C->wpG g t C τ fun ap=>wpS F ap C fun l ao C2=>match l with
  | .nx=>P C2/\I (i+1) ao C2
  | .ct=>P C2/\I (i+1) ao C2
  | .bk=>QS .nx ao C2
  | .rt v=>QS (.rt v) ao C2
  | .ex v=>QS (.ex v) ao C2)
 (hq:∀τ C,I ts.length τ C->QS .nx τ C):wpS (j6 P g F ts) τ C QS:=by
 induction ts generalizing τ C I with
 |nil=>exact⟨.nx,τ,C,by simp[j6],hq _ _ h0⟩
 |cons t ts ih=>
  obtain⟨ap,e1,l,ao,C2,e2,h2⟩:=hs 0 t τ C rfl h0;have go:P C2/\I 1 ao C2->wpS (j6 P g F ts) ao C2 QS:=fun h=>ih (fun i=>I (i+1)) h.2 (fun i t τ C e h=>hs (i+1) t τ C e h) (fun τ C h=>hq τ C h)
  cases l with
  |nx=>
   obtain⟨l,t',C',e,q⟩:=go h2
   exact⟨l,t',C',by simp[j6,e1,e2,h2.1,e],q⟩
  |ct=>
   obtain⟨l,t',C',e,q⟩:=go h2
   exact⟨l,t',C',by simp[j6,e1,e2,h2.1,e],q⟩
  |bk=>exact⟨.nx,ao,C2,by simp[j6,e1,e2],h2⟩
  |rt v=>exact⟨.rt v,ao,C2,by simp[j6,e1,e2],h2⟩
  |ex v=>exact⟨.ex v,ao,C2,by simp[j6,e1,e2],h2⟩
theorem lQ{g:FG}:wpS (mU a g F) τ C QS↔wpE a τ C fun t C1=>∃ts,liT C1 t=some ts/\wpS (j6 (stays t ts) g F ts) τ C1 QS:=by
 unfold wpE wpS mU;constructor
 ·rintro⟨l,t,C',e,q⟩;obtain⟨⟨x,C1⟩,e1,e⟩:=aK.mp e;obtain⟨ts,e2,e⟩:=aK.mp e
  exact⟨x,C1,e1,ts,e2,l,t,C',e,q⟩
 ·rintro⟨x,C1,e1,ts,e2,l,t,C',e,q⟩
  exact⟨l,t,C',by simp[e1,e2,e],q⟩
theorem mJ{g:FG}:wpS (kR a g F) τ C QS↔wpE a τ C fun t C1=>∃j,t=.int j/\(-(2^62)<=j/\j<2^62)/\wpS (j6 (fun _=>True) g F (uL 0 j.toNat)) τ C1 QS:=by
 unfold wpE wpS kR;constructor
 ·rintro⟨l,t,C',e,q⟩;obtain⟨⟨x,C1⟩,e1,e⟩:=aK.mp e;dsimp only at e;split at e
  ·split at e
   ·exact⟨_,C1,e1,_,rfl,‹_›,l,t,C',e,q⟩
   ·cases e
  ·cases e
 ·rintro⟨x,C1,e1,j,rfl,h,l,t,C',e,q⟩
  exact⟨l,t,C',by rw[e1];exact(if_pos h).trans e,q⟩
theorem aFr{g:FG}:wpS (qS a b g F) τ C QS↔wpE a τ C fun t C1=>wpE b τ C1 fun u C2=>∃i j,t=.int i/\u=.int j/\(-(2^62)<=i/\i<2^62/\ -(2^62)<=j/\j<2^62)/\wpS (j6 (fun _=>True) g F (uL i (j - i).toNat)) τ C2 QS:=by
 unfold wpE wpS qS;constructor
 ·rintro⟨l,t,C',e,q⟩;obtain⟨⟨x,C1⟩,e1,e⟩:=aK.mp e;obtain⟨⟨y,C2⟩,e2,e⟩:=aK.mp e;dsimp only at e;split at e
  ·split at e
   ·exact⟨_,C1,e1,_,C2,e2,_,_,rfl,rfl,‹_›,l,t,C',e,q⟩
   ·cases e
  ·cases e
 ·rintro⟨x,C1,e1,y,C2,e2,i,j,rfl,rfl,h,l,t,C',e,q⟩
  exact⟨l,t,C',by rw[e1];show((b τ C1).bind _)=_;rw[e2];exact(if_pos h).trans e,q⟩
theorem iR{α:Type}{g:FG}{en:α->T}{xs:List α}(I:Nat->TSt->Sto->Prop)(h0:I 0 τ C)
 (hs:∀i x τ C,xs[i]?=some x->I i τ C->wpG g (en x) C τ fun ap=>wpS F ap C fun l ao C2=>match l with
  | .nx=>P C2/\I (i+1) ao C2
  | .ct=>P C2/\I (i+1) ao C2
  | .bk=>QS .nx ao C2
  | .rt v=>QS (.rt v) ao C2
  | .ex v=>QS (.ex v) ao C2)
 (hq:∀τ C,I xs.length τ C->QS .nx τ C):wpS (j6 P g F (xs.map en)) τ C QS:=by
 refine aLK I h0 (fun i t τ C e h=>?_) (fun τ C h=>hq τ C (by simpa using h))
 rw[bK]at e;obtain⟨x,ex,rfl⟩:=aL.mp e
 exact hs i x τ C ex h
theorem lR{g:FG}{n:Nat}(I:Nat->TSt->Sto->Prop)(h0:I 0 τ C)
 (hs:∀i τ C,i<n->I i τ C->wpG g (.int (lo+(i:Int))) C τ fun ap=>wpS F ap C fun l ao C2=>match l with
  | .nx=>P C2/\I (i+1) ao C2
  | .ct=>P C2/\I (i+1) ao C2
  | .bk=>QS .nx ao C2
  | .rt v=>QS (.rt v) ao C2
  | .ex v=>QS (.ex v) ao C2)
 (hq:∀τ C,I n τ C->QS .nx τ C):wpS (j6 P g F (uL lo n)) τ C QS:=by
 refine iR I h0 (fun i x τ C e h=>?_) (fun τ C h=>hq τ C (by simpa using h))
 obtain⟨hi,hx⟩:=aR.mp e;rw[eA]at hx;subst hx
 exact hs _ τ C (by simpa using hi) h
theorem j4{k:Nat}{is:List Nat}{g:FG}:wpA (jE a k is g fb fe) τ C QL↔wpE a τ C fun t C1=>∃ts,liT C1 t=some ts/\ts.length<lim/\wpC (jT g fb fe (scT k is τ) ts C1) QL:=by
 unfold wpE wpA jE wpC;constructor
 ·rintro⟨t,C',e,q⟩;obtain⟨⟨x,C1⟩,e1,e⟩:=aK.mp e;obtain⟨ts,e2,e⟩:=aK.mp e;split at e
  ·exact⟨x,C1,e1,ts,e2,‹_›,t,C',e,q⟩
  ·cases e
 ·rintro⟨x,C1,e1,ts,e2,h,t,C',e,q⟩
  exact⟨t,C',by simp[e1,e2,h,e],q⟩
theorem oG{k:Nat}{is:List Nat}{g:FG}:wpA (jL a k is g fb fe) τ C QL↔wpE a τ C fun t C1=>∃j,t=.int j/\(j<400000/\ -(2^62)<=j)/\wpC (jT g fb fe (scT k is τ) (uL 0 j.toNat) C1) QL:=by
 unfold wpE wpA jL wpC;constructor
 ·rintro⟨t,C',e,q⟩;obtain⟨⟨x,C1⟩,e1,e⟩:=aK.mp e;dsimp only at e;split at e
  ·split at e
   ·exact⟨_,C1,e1,_,rfl,‹_›,t,C',e,q⟩
   ·cases e
  ·cases e
 ·rintro⟨x,C1,e1,j,rfl,h,t,C',e,q⟩
  exact⟨t,C',by rw[e1];exact(if_pos h).trans e,q⟩
theorem aEH{k:Nat}{is:List Nat}{g:FG}:wpA (qP a b k is g fb fe) τ C QL↔wpE a τ C fun t C1=>wpE b τ C1 fun u C2=>∃ts,liT C2 t=some ts/\∃us,liT C2 u=some us/\(yG ts us).length<lim/\wpC (jT g fb fe (scT k is τ) (yG ts us) C2) QL:=by
 unfold wpE wpA qP wpC;constructor
 ·rintro⟨t,C',e,q⟩;obtain⟨⟨x,C1⟩,e1,e⟩:=aK.mp e;obtain⟨⟨y,C2⟩,e2,e⟩:=aK.mp e;obtain⟨ts,e3,e⟩:=aK.mp e;obtain⟨us,e4,e⟩:=aK.mp e;split at e
  ·exact⟨x,C1,e1,y,C2,e2,ts,e3,us,e4,‹_›,t,C',e,q⟩
  ·cases e
 ·rintro⟨x,C1,e1,y,C2,e2,ts,e3,us,e4,h,t,C',e,q⟩
  exact⟨t,C',by simp[e1,e2,e3,e4,h,e],q⟩
theorem u3{α:Type}{g:FG}{en:α->T}{xs:List α}(p:α->Bool)(u:α->T)
 (h:∀x∈xs,wpG g (en x) C τ fun ap=>wpB fb ap C fun y C1=>C1=C/\y=p x/\(p x=true->wpE fe ap C fun t C2=>C2=C/\t=u x))
 (hq:QL ((xs.filter p).map u) C):wpC (jT g fb fe τ (xs.map en) C) QL:=by
 refine⟨_,C,?_,hq⟩
 clear hq;induction xs with
 |nil=>rfl
 |cons x xs ih=>
  obtain⟨ap,e1,y,C1,e2,rfl,rfl,h3⟩:=h x bJ;have ih:=ih fun y hy=>h y (bA _ hy)
  rw[aM];unfold jT;rw[e1,aX,e2,aX];by_cases hp:p x=true
  ·obtain⟨t,C2,e3,rfl,rfl⟩:=h3 hp;rw[if_pos hp,e3,aX,ih,List.filter_cons_of_pos hp,aDY];rfl
  ·rw[if_neg hp,aDY,ih,List.filter_cons_of_neg hp]
theorem gG{α:Type}{g:FG}{en:α->T}{xs:List α}(u:α->T)
 (h:∀x∈xs,wpG g (en x) C τ fun ap=>wpE fe ap C fun t C2=>C2=C/\t=u x)
 (hq:QL (xs.map u) C):wpC (jT g gP fe τ (xs.map en) C) QL:=
 u3 (fun _=>true) u (fun x hx=>let ⟨ap,e,q⟩:=h x hx;⟨ap,e,true,C,rfl,rfl,rfl,fun _=>q⟩) (by rw[List.filter_eq_self.mpr (fun _ _=>rfl)];exact hq)
theorem nX{n:Nat}:uL lo n=(bI n).map fun(i:Nat)=>T.int (lo+(i:Int)):=rfl
theorem aBw{α β:Type}{f:α->T}{g:β->T}{xs:List α}{ys:List β}:yG (xs.map f) (ys.map g)=(xs.zip ys).map fun p=>.tup [f p.1,g p.2]:=by
 unfold yG;rw[List.zip_map,b7];rfl
theorem hW{B:FS}{m:Nat}{ts:List T}{t:T}(h:wpS B (st0 m ts) [] fun l τ C=>match l with
 | .rt r=>dr 3 C r=some t
 | .nx=>t=.non
 |_=>False):jA B m ts=some t:=by
 obtain⟨l,τ,C,e,q⟩:=h;unfold jA;rw[e];cases l with
 |nx=>cases q;rfl
 |rt r=>exact q
 |_=>exact q.elim
end
variable{i j:Int}{c:Nat}
theorem fH{α:Type}{o:Option α}{y:α}{p:α->Prop}(e:o=some y):(∃x,o=some x/\p x)↔p y:=by
 constructor
 ·rintro⟨x,e',h⟩;rw[e]at e';cases e'
  exact h
 ·exact fun h=>⟨y,e,h⟩
def Bt(k:Nat)(n:Int):Prop:=n.natAbs<2^k
theorem Bt.bits{n:Int}{k:Nat}(h:Bt k n):Builtin.Int.intBits n<=k:=by
 unfold Builtin.Int.intBits;unfold Bt at h;by_cases z:n=0
 ·subst z;exact dQ _
 ·have:(n==0)=false:=by simpa using z
  rw[this];have:=(aP5 (by lia)).mpr h;simp
  lia
theorem Bt.mono{n:Int}{k m:Nat}(h:Bt k n)(hm:k<=m):Bt m n:=bP h (aOA (by decide) hm)
theorem Bt.mul{x y:Int}{k m:Nat}(h:Bt k x)(h':Bt m y):Bt (k+m) (x*y):=by
 unfold Bt at*;rw[Int.natAbs_mul,Nat.pow_add]
 exact Nat.mul_lt_mul'' h h'
theorem Bt.sub{x y:Int}{k:Nat}(h:Bt k x)(h':Bt k y):Bt (k+1) (x - y):=by
 show(x - y).natAbs<2^(k+1);rw[Nat.pow_succ,Nat.mul_two]
 exact eB (Int.natAbs_sub_le x y) (Nat.add_lt_add h h')
theorem Bt.of_lt{x:Int}{k:Nat}(h1:0<=x)(h2:x<2^k):Bt k x:=by
 unfold Bt;have:((x.natAbs:Nat):Int)<((2^k:Nat):Int):=by
  rw[aPd h1];simpa using h2
 exact aPU.mp this
theorem xX{m n:Nat}(h1:Bt m i)(h2:Bt n j)(h:m+n<=134217728):jY i j=true:=by
 have h1:=h1.bits;have h2:=h2.bits;have h':Builtin.Int.intTooBig (Builtin.Int.intBits i+Builtin.Int.intBits j)=false:=by
  unfold Builtin.Int.intTooBig bitsLine
  exact decide_eq_false (by lia)
 unfold jY;rw[h'];simp
theorem fZ(h1:Bt 64 i):jY i j=true:=by
 have:=h1.bits;unfold jY shortFactorBits;rw[show decide (Builtin.Int.intBits i>64)=false from decide_eq_false (by lia)];simp
theorem gE(h1:Bt 64 j):jY i j=true:=by
 have:=h1.bits;unfold jY shortFactorBits;rw[show decide (Builtin.Int.intBits j>64)=false from decide_eq_false (by lia)];simp
theorem Bt.mod{x m:Int}{k:Nat}(h1:0<m)(h2:m<=2^k):Bt k (x%m):=
 .of_lt (aO6 _ (by lia)) (aOK (aOL _ h1) h2)
theorem xH{n:Nat}(h0:0<=i)(h:i<n):ixN n i=some i.toNat:=by
 unfold ixN;rw[if_pos h0,if_pos h]
theorem aJ0{n j:Nat}(h:j<n):ixN n (j:Int)=some j:=by
 rw[xH (by lia) (by lia)];rfl
theorem oV{α:Type}{xs:List α}(h0:0<=i):atI xs i=xs[i.toNat]?:=by
 unfold atI ixN;rw[if_pos h0];by_cases h:i<xs.length
 ·rw[if_pos h];rfl
 ·rw[if_neg h,cK (by lia)];rfl
theorem rB{α:Type}{xs:List α}{j:Nat}:atI xs (j:Int)=xs[j]?:=oV (by lia)
theorem aCo{α:Type}{x:α}{xs:List α}:atI (x::xs) 0=some x:=by rw[oV (by decide)];rfl
theorem aBM{α:Type}{x y:α}{xs:List α}:atI (x::y::xs) 1=some y:=by rw[oV (by decide)];rfl
theorem aHd{α:Type}{x y z:α}{xs:List α}:atI (x::y::z::xs) 2=some z:=by rw[oV (by decide)];rfl
theorem zX{x y:Int}:atI [T.int x,T.int y] (i%2)=some (.int (if i%2=0 then x else y)):=by
 rcases(by lia:i%2=0\/i%2=1)with h|h<;>rw[h]<;>rfl
theorem gB:CFs []=true:=by unfold CFs;rfl
theorem fL{t:T}{ts:List T}:CFs (t::ts)=(CF t&&CFs ts):=by rw[CFs]
theorem f7:CF (.int i)=true:=by unfold CF;rfl
theorem lI{i:Bool}:CF (.bl i)=true:=by unfold CF;rfl
theorem f9{ts:List T}:CF (.lst ts)=CFs ts:=by rw[CF]
theorem jU{ts:List T}:CF (.tup ts)=CFs ts:=by rw[CF]
theorem aJn:CF (.cell c)=false:=by unfold CF;rfl
theorem p7{α:Type}{f:α->T}{xs:List α}(h:∀x∈xs,CF (f x)=true):CFs (xs.map f)=true:=aAS.mpr fun t ht=>by
 obtain⟨x,hx,rfl⟩:=bL.mp ht
 exact h x hx
theorem gZ{ns:List Int}:CFs (ns.map T.int)=true:=p7 fun _ _=>f7
theorem iZ{t:T}{n:Nat}{C:Sto}(h:CF t=true):dr n C t=some t:=by
 cases n with
 |zero=>unfold dr;rw[if_pos h]
 |succ n=>
  cases t with
  |cell c=>rw[aJn]at h;cases h
  |lst ts=>unfold dr;rw[f9]at h;rw[if_pos h]
  |tup ts=>unfold dr;rw[jU]at h;rw[if_pos h]
  |_=>unfold dr;rw[if_pos h]
theorem aJU{f:T->Option T}{ts:List T}(h:∀t∈ts,f t=some t):mapO f ts=some ts:=by
 induction ts with
 |nil=>rfl
 |cons t ts ih=>unfold mapO;rw[h t bJ,aX,ih fun u hu=>h u (bA _ hu)];rfl
theorem aAD{ts:List T}{n:Nat}{C:Sto}(h:CFs ts=true):mapO (dr n C) ts=some ts:=aJU fun t ht=>iZ (aAS.mp h t ht)
theorem pS{n:Nat}{C:Sto}{ts:List T}(e:lc C c=some ts)(h:CFs ts=true):dr (n+1) C (.cell c)=some (.lst ts):=by
 unfold dr;rw[e,aX,aAD h];rfl
theorem aB8{f:T->Option T}:mapO f []=some []:=rfl
theorem jN{f:T->Option T}{t u:T}{ts us:List T}(h:f t=some u)(hs:mapO f ts=some us):mapO f (t::ts)=some (u::us):=by
 unfold mapO;rw[h,aX,hs];rfl
theorem aJv{n:Nat}:eqT n (.int i) (.int j)=some (i==j):=by cases n<;>rfl
theorem pJ{α:Type}{xs:List α}{f:α->Int}:ints? (xs.map fun x=>T.int (f x))=some (xs.map f):=by
 rw[show(xs.map fun x=>T.int (f x))=(xs.map f).map T.int by simp];exact p8 _
theorem aJw{α:Type}{xs:List α}{f:α->Bool}:bls? (xs.map fun x=>T.bl (f x))=some (xs.map f):=by
 rw[show(xs.map fun x=>T.bl (f x))=(xs.map f).map T.bl by simp];exact aHH _
theorem sE{α:Type}{f:α->T}{xs:List α}{j:Nat}{x:α}:(xs.map f).set j (f x)=(xs.set j x).map f:=by rw[aPW]
theorem xG{n:Nat}(h:n<=1000):n<lim:=by unfold lim;lia
section
variable {τ:TSt}{C:Sto}{a b c f fe fo fi:FE}{fa fr fn:FN}{fb ga gb:FB}{F G:FS}{lo hi:FO}
variable {Q:T->Sto->Prop}{QL:List T->Sto->Prop}{QB:Bool->Sto->Prop}{QS:Fl->TSt->Sto->Prop}{QG:TSt->Prop}{Ql:List T->Prop}{QO:Option Int->Sto->Prop}
variable{l h:Option Int}{p:Int×Int×Int}{ns:List Int}{u:T}
def wpP(f:FO)(τ:TSt)(C:Sto)(Q:Option Int->Sto->Prop):Prop:=∃o C',f τ C=some (o,C')/\Q o C'
theorem aCz:wpP lF τ C QO↔QO none C:=by
 unfold wpP lF;constructor
 ·rintro⟨_,_,e,q⟩;cases e;exact q
 ·exact fun q=>⟨_,_,rfl,q⟩
theorem xA:wpP (nA a) τ C QO↔wpE a τ C fun t C1=>∃i,t=.int i/\QO (some i) C1:=by
 unfold wpP wpE nA;constructor
 ·rintro⟨t,C',e,q⟩;obtain⟨⟨x,C1⟩,e1,e⟩:=aK.mp e;dsimp only at e;split at e
  ·cases e;exact⟨_,_,e1,_,rfl,q⟩
  ·cases e
 ·rintro⟨x,C1,e1,y,rfl,q⟩
  exact⟨some y,C1,by simp[e1],q⟩
theorem aCS:wpA (fSl a lo hi) τ C QL↔wpE a τ C fun t C1=>wpP lo τ C1 fun l C2=>wpP hi τ C2 fun h C3=>∃ts,liT C3 t=some ts/\QL (aCN ts l h) C3:=by
 unfold wpA wpE wpP fSl;constructor
 ·rintro⟨t,C',e,q⟩;obtain⟨⟨x,C1⟩,e1,e⟩:=aK.mp e;obtain⟨⟨y,C2⟩,e2,e⟩:=aK.mp e;obtain⟨⟨z,C3⟩,e3,e⟩:=aK.mp e;obtain⟨ts,e4,e⟩:=aL.mp e;cases e
  exact⟨x,C1,e1,y,C2,e2,z,_,e3,ts,e4,q⟩
 ·rintro⟨x,C1,e1,y,C2,e2,z,C3,e3,ts,e4,q⟩
  exact⟨_,C3,by simp[e1,e2,e3,e4],q⟩
def uO{α:Type}(xs:List α)(lo hi:Option Int):List α:=(xs.drop (HT.sIx xs.length 0 lo)).take (HT.sIx xs.length xs.length hi - HT.sIx xs.length 0 lo)
theorem nM{α:Type}{f:α->T}{xs:List α}:aCN (xs.map f) l h=(uO xs l h).map f:=by
 unfold aCN uO;simp[aPN,aPO]
theorem aBp{α:Type}{xs:List α}{x:α}(m:x∈uO xs l h):x∈xs:=List.mem_of_mem_drop (List.mem_of_mem_take m)
theorem aHs{α:Type}{xs:List α}:(uO xs l h).length<=xs.length:=by
 unfold uO;simp;lia
theorem aFs{α:Type}{xs:List α}{k:Int}(hk:0<=k):uO xs (some k) none=xs.drop k.toNat:=by
 unfold uO;have e:HT.sIx xs.length 0 (some k)=min k.toNat xs.length:=by
  show(if k<0 then(k+(xs.length:Int)).toNat else min k.toNat xs.length)=_;rw[if_neg (by lia)]
 rw[e,HT.aBE];by_cases h:k.toNat<=xs.length
 ·rw[aO5 h,dO (by simp)]
 ·rw[aOZ (by lia),eC (by lia:xs.length<=xs.length),eC (by lia:xs.length<=k.toNat)];simp
theorem aD4{α:Type}{xs:List α}{k:Int}(hk:0<=k):uO xs none (some k)=xs.take k.toNat:=by
 unfold uO;have e:HT.sIx xs.length xs.length (some k)=min k.toNat xs.length:=by
  show(if k<0 then(k+(xs.length:Int)).toNat else min k.toNat xs.length)=_;rw[if_neg (by lia)]
 rw[e,HT.aBE,aPK,aPX];by_cases h:k.toNat<=xs.length
 ·rw[aO5 h]
 ·rw[aOZ (by lia),dO (bG _),dO (by lia)]
noncomputable def pT(p:Int×Int):T:=.lst [.int p.1,.int p.2]
noncomputable def w3(p:Int×Int×Int):T:=.lst [.int p.1,.int p.2.1,.int p.2.2]
noncomputable def iT(ns:List Int):T:=.lst (ns.map T.int)
theorem aNz{p:Int×Int}:CF (pT p)=true:=by simp[pT,f9,fL,gB,f7]
theorem aHX:CF (w3 p)=true:=by simp[w3,f9,fL,gB,f7]
theorem aKN:CF (iT ns)=true:=by rw[iT,f9];exact gZ
theorem lN{ps:List (Int×Int)}:CFs (ps.map pT)=true:=p7 fun _ _=>aNz
theorem nE{ps:List (Int×Int×Int)}:CFs (ps.map w3)=true:=p7 fun _ _=>aHX
theorem aLg{ps:List (List Int)}:CFs (ps.map iT)=true:=p7 fun _ _=>aKN
theorem xD{n:Nat}{i j:Int}:eqT n (.int i) (.int j)=some (decide (i=j)):=by rw[aJv];congr 1
theorem aDw{α:Type}[DecidableEq α]{e:T->T->Option Bool}{f:α->T}(h:∀x y,e (f x) (f y)=some (decide (x=y))){y:α}:∀{xs:List α},inL (fun u=>e u (f y)) (xs.map f)=some (decide (y∈xs))
 | []=>rfl
 |x::xs=>by
  rw[aM];unfold inL;rw[h,aX,aDw h];simp only[aOp,cH.injEq,bE,Bool.decide_or];congr 1;by_cases z:x=y
  ·simp[z]
  ·simp[z,show¬y=x from fun q=>z q.symm]
theorem aJo{α:Type}[DecidableEq α]{n:Bool}{f:α->T}{y:α}{xs:List α}[Decidable (y∈xs)]{t:T}(h:∀x y,eqT 5 (f x) (f y)=some (decide (x=y)))(hc:∀x,CF (f x)=true)(ht:dr 3 C t=some (f y))(hu:liT C u=some (xs.map f)):
 wpO (gIn n t u C) Q↔Q (.bl (if n then !decide (y∈xs)else decide (y∈xs))) C:=by
 rw[aL8,fH ht,fH hu,fH (aAD (p7 fun x _=>hc x)),fH ((aDw h).trans (congrArg some (decide_eq_decide.mpr aOV)))]
theorem aD7{α:Type}[DecidableEq α]{n:Bool}{f:α->T}{x y:α}{t:T}(h:∀x y,eqT 5 (f x) (f y)=some (decide (x=y)))(ht:dr 3 C t=some (f x))(hu:dr 3 C u=some (f y)):
 wpO (gEq n t u C) Q↔Q (.bl (if n then !decide (x=y)else decide (x=y))) C:=by
 rw[aK3,fH ht,fH hu,fH (h x y)]
theorem aA7{i j:Int}:wpO (gEq false (.int i) (.int j) C) Q↔Q (.bl (decide (i=j))) C:=aD7 (f:=T.int) (fun _ _=>xD) (iZ f7) (iZ f7)
theorem aDW{i j:Int}:wpO (gEq true (.int i) (.int j) C) Q↔Q (.bl (!decide (i=j))) C:=aD7 (f:=T.int) (fun _ _=>xD) (iZ f7) (iZ f7)
theorem aEs{n:Bool}{i:Int}(h:liT C u=some (ns.map T.int)):wpO (gIn n (.int i) u C) Q↔Q (.bl (if n then !decide (i∈ns)else decide (i∈ns))) C:=aJo (f:=T.int) (fun _ _=>xD) (fun _=>f7) (iZ f7) h
theorem aH4{n:Bool}{i:Int}:wpO (gIn n (.int i) (.lst (ns.map T.int)) C) Q↔Q (.bl (if n then !decide (i∈ns)else decide (i∈ns))) C:=aEs rfl
theorem aNB{x y:Bool}:(if false=true then x else y)=y:=rfl
theorem aNU{x y:Bool}:(if true=true then x else y)=x:=rfl
instance{k:Nat}{n:Int}:Decidable (Bt k n):=by unfold Bt;infer_instance
theorem Bt.sml{k:Nat}{n:Int}(h0:0<=n)(h:n<1024)(hk:10<=k):Bt k n:=(Bt.of_lt (k:=10) h0 h).mono hk
theorem aFT{t:T}{d:Int}:wpO (aBa t (.int d) C) Q↔∃us,liT C t=some us/\∃ns,ints? us=some ns/\Q (.int (jR d ns)) C:=by
 unfold wpO aBa;constructor
 ·rintro⟨t,C',e,q⟩;obtain⟨us,e1,e⟩:=aK.mp e;obtain⟨ns,e2,e⟩:=aL.mp e;cases e
  exact⟨us,e1,ns,e2,q⟩
 ·rintro⟨us,e1,ns,e2,q⟩
  exact⟨_,C,by simp[e1,e2],q⟩
theorem aIq{ts:List T}:liT C (.lst ts)=some ts:=rfl
theorem aIY{ts:List T}:lc ((.l,ts)::C) 0=some ts:=rfl
theorem aJg{x:Cl}{n:Nat}:lc (x::C) (n+1)=lc C n:=rfl
theorem aG8{c:Nat}:liT C (.cell c)=lc C c:=rfl
theorem aKk{ts:List T}:sqT C (.lst ts)=some ts:=rfl
theorem aF7{c:Nat}:sqT C (.cell c)=lc C c:=rfl
theorem aIV{ts:List T}:sqT C (.tup ts)=some ts:=rfl
theorem aMa{p:Int×Int}:sqT C (pT p)=some [.int p.1,.int p.2]:=rfl
theorem aL0:sqT C (w3 p)=some [.int p.1,.int p.2.1,.int p.2.2]:=rfl
theorem aLS{p:List Int}:sqT C (iT p)=some (p.map T.int):=rfl
theorem aM2{p:List Int}:liT C (iT p)=some (p.map T.int):=rfl
theorem aLs{p:Int×Int}:liT C (pT p)=some [.int p.1,.int p.2]:=rfl
theorem aLl:liT C (w3 p)=some [.int p.1,.int p.2.1,.int p.2.2]:=rfl
def frzQ(Q:Fl->TSt->Sto->Prop)(l:Fl)(τ:TSt)(C:Sto):Prop:=match l with
 | .nx=>∃ao,frz C τ=some ao/\Q .nx ao []
 |l=>Q l τ C
theorem aIE:frzQ QS .nx τ C↔∃ao,frz C τ=some ao/\QS .nx ao []:=aOV
theorem aI4{t:T}:frzQ QS (.rt t) τ C↔QS (.rt t) τ C:=aOV
theorem aHq{b:Bool}:aMl C (.bl b)=some b:=rfl
end
variable{β:Type}{ps:List (Int×Int)}
theorem kY{B:FS}{m:Nat}{ts:List T}{P:T->Prop}(h:wpS B (st0 m ts) [] fun l τ C=>match l with
 | .rt r=>∃t,dr 3 C r=some t/\P t
 | .nx=>P .non
 |_=>False):∃t,jA B m ts=some t/\P t:=by
 obtain⟨l,τ,C,e,q⟩:=h;unfold jA;rw[e];cases l with
 |nx=>exact⟨_,rfl,q⟩
 |rt r=>exact q
 |_=>exact q.elim
theorem vM{α:Type}{xs:List α}{i:Int}{y:α}:(insAt xs i y).length=xs.length+1:=by
 unfold insAt;rw[aU,aN,dR,aOX]
 lia
theorem tQ{α:Type}{f:α->β}{xs:List α}{i:Int}{y:α}:insAt (xs.map f) i (f y)=(insAt xs i y).map f:=by
 unfold insAt;simp[aPO,aPN]
theorem tV{α:Type}{xs:List α}{i:Int}{y:α}:(insAt xs i y).Perm (y::xs):=by
 unfold insAt
 refine List.perm_middle.trans ?_
 rw[List.take_append_drop]
theorem aAO{α:Type}{f:α->β}{xs:List α}{i:Int}:atI (xs.map f) i=(atI xs i).map f:=by
 unfold atI;rw[aP];cases ixN xs.length i<;>simp
theorem aMy{α:Type}{xs:List α}{i:Int}(h0:0<=i)(h:i<xs.length):atI xs i=some (xs[i.toNat]'(by lia)):=by
 rw[oV h0,bB (by lia)]
theorem iK{x m:Int}(h:0<m):0<=x%m/\x%m<m:=⟨aO6 _ (by lia),aOL _ h⟩
theorem gJ{x y:Int}(h0:0<=x)(h:x<1024):jY x y=true:=fZ (Bt.sml h0 h (by decide))
theorem gR{x y:Int}(h0:0<=y)(h:y<1024):jY x y=true:=gE (Bt.sml h0 h (by decide))
theorem j3{p:Prop}[Decidable p](h:p):decide p=true:=decide_eq_true h
theorem aBs{n c:Nat}{C:Sto}(e:lc C c=some (ps.map pT)):dr (n+1) C (.cell c)=some (.lst (ps.map pT)):=pS e lN
theorem mL{n c:Nat}{C:Sto}{ps:List Int}(e:lc C c=some (ps.map T.int)):dr (n+1) C (.cell c)=some (.lst (ps.map T.int)):=pS e gZ
theorem tZ{ns:List Int}{i:Int}(h0:0<=i)(h:i<ns.length):atI (ns.map T.int) i=some (.int (ns[i.toNat]'(by lia))):=by rw[aAO,aMy h0 h];rfl
theorem aJu{a b:Int}:ps.map pT++[.lst [.int a,.int b]]=(ps++[(a,b)]).map pT:=by rw[bQ];rfl
theorem aDl{ps:List Int}{a:Int}:ps.map T.int++[.int a]=(ps++[a]).map T.int:=by rw[bQ];rfl
theorem aNF{n:Nat}{C:Sto}{vs:List Int}:dr n C (.lst (vs.map T.int))=some (.lst (vs.map T.int)):=iZ (by rw[f9];exact gZ)
theorem qR:∀{ns:List Int},ns≠[]->tL ns∈ns/\∀a∈ns,a<=tL ns:=by
 have key:∀(ns:List Int)(n:Int),(ns.foldl (fun a b=>if b>a then b else a) n=n\/ns.foldl (fun a b=>if b>a then b else a) n∈ns)/\n<=ns.foldl (fun a b=>if b>a then b else a) n/\∀a∈ns,a<=ns.foldl (fun a b=>if b>a then b else a) n:=by
  intro ns;induction ns with
  |nil=>intro n;simp
  |cons m ns ih=>
   intro n;rw[aOC];obtain⟨h1,h2,h3⟩:=ih (if m>n then m else n);by_cases hm:m>n
   ·rw[if_pos hm]at h1 h2 h3|-
    refine⟨?_,by lia,fun a ha=>?_⟩
    ·rcases h1 with h1|h1
     ·rw[h1];simp
     ·exact .inr (bA _ h1)
    ·rcases bE.mp ha with rfl|ha
     ·exact h2
     ·exact h3 a ha
   ·rw[if_neg hm]at h1 h2 h3|-
    refine⟨?_,h2,fun a ha=>?_⟩
    ·rcases h1 with h1|h1
     ·exact .inl h1
     ·exact .inr (bA _ h1)
    ·rcases bE.mp ha with rfl|ha
     ·lia
     ·exact h3 a ha
 intro ns ay;cases ns with
 |nil=>exact absurd rfl ay
 |cons n ns=>
  obtain⟨h1,h2,h3⟩:=key ns n
  refine⟨?_,fun a ha=>?_⟩
  ·rcases h1 with h1|h1
   ·show aPk (fun a b=>if b>a then b else a) n ns∈n::ns;rw[h1];simp
   ·exact bA _ h1
  ·rcases bE.mp ha with rfl|ha
   ·exact h2
   ·exact h3 a ha
end TL
section
open PySem L2 TL
local macro_rules
 | `(tactic|simp_arith[$xs,*])=>do
   let xs:Lean.TSyntaxArray [`Lean.Parser.Tactic.simpStar,`Lean.Parser.Tactic.simpErase,`Lean.Parser.Tactic.simpLemma]:=xs
   `(tactic|simp (maxSteps:=2000000) (disch:=first|assumption|decide) only[↓aIE,↓aI4,↓aMa,↓aL0,↓aLS,↓aM2,↓aLs,↓aLl,↓aFT,if_true,if_false,Bool.false_eq_true,↓aH4,aNB,aNU,↓aCz,↓xA,↓aCS,↓aA7,↓aDW,↓eZ,↓jW,↓gA,↓aDc,↓nQ,↓fM,↓fE,↓hX,↓vV,↓jO,↓gF,↓j5,↓nT,↓nW,↓aLi,↓lY,↓aAU,↓aCe,↓p6,↓r9,↓aD8,↓aHx,↓xQ,↓aFi,↓aIv,↓aJx,↓jZ,↓p5,↓aAo,↓aGJ,↓aDv,↓aJR,↓aKg,↓aI1,↓aFa,↓i6,↓fN,↓gW,↓aNv,↓aNK,↓aNI,↓aNT,↓mN,↓iV,↓oY,↓f6,↓f8,↓yO,↓qZ,↓vC,↓u9,↓aKv,↓lQ,↓mJ,↓aFr,↓j4,↓oG,↓aEH,aIY,aJg,Option.isSome_some,List.getElem?_cons_zero,List.getElem?_cons_succ,List.set_cons_zero,List.set_cons_succ,List.length_cons,List.length_nil,List.nil_append,List.cons_append,Option.some.injEq,T.int.injEq,T.bl.injEq,T.lst.injEq,T.cell.injEq,T.tup.injEq,exists_eq_left,exists_eq_left',exists_and_left,setAll,aKk,aF7,aIV,aIq,aG8,and_true,true_and,Nat.reduceAdd,$xs,*])
namespace Lib
open PySem L2 TL
variable{ns:List Int}{Q:T->Sto->Prop}
noncomputable def kD(ns:List Int)(k:Int):Int:=(ns[k.toNat]?).getD 0
theorem aIR{k:Int}(hk:0<=k):gQ [.lst (ns.map T.int),.int k]=some (.int (kD ns k)):=by
 apply hW;unfold yP;walk_at "b";simp_arith[if_true];simp only[aP];unfold kD;by_cases h:k<ns.length
 ·rw[if_pos (by simpa using h)];rw[oV hk,bK,bB (by lia)]
  exact⟨_,rfl,iZ f7⟩
 ·rw[if_neg (by simpa using h)];rw[cK (by lia)]
  exact iZ f7
theorem kJ{k:Int}{C:Sto}(hk:0<=k):wpO (iF 2 gQ [.lst (ns.map T.int),.int k] C) Q↔Q (.int (kD ns k)) C:=fO (aIR hk) rfl (by walk_at "c")
noncomputable def aAz(m n:Int):Bool:=decide (0<=n/\n<m)
theorem aDe{m n:Int}:kU [.int m,.int n]=some (.bl (aAz m n)):=by
 apply hW;unfold yZ aAz;walk_at "b";simp_arith[if_true];by_cases h:0<=n
 ·rw[if_pos (by simpa using h)];rw[iZ lI];simp[h]
 ·rw[if_neg (by simpa using h),iZ lI];simp[h]
theorem aCu{m n:Int}{C:Sto}:wpO (iF 2 kU [.int m,.int n] C) Q↔Q (.bl (aAz m n)) C:=fO aDe rfl (by walk_at "c")
end Lib
namespace TL
open PySem L2
section
variable {τ:TSt}{C:Sto}{c:FB}{F:FS}{Q:Fl->TSt->Sto->Prop}
theorem aEZ{n:Nat}(I:Nat->TSt->Sto->Prop){k:Nat}(hk:k<n)(h0:I k τ C)
 (hs:∀i τ C,i<n->I i τ C->wpB c τ C fun b C1=>if b=true then wpS F τ C1 (fun l ao C2=>match l with
  | .nx=>i+1<n/\I (i+1) ao C2
  | .ct=>i+1<n/\I (i+1) ao C2
  | .bk=>Q .nx ao C2
  | .rt v=>Q (.rt v) ao C2
  | .ex v=>Q (.ex v) ao C2)else Q .nx τ C1):wpS (lH c F (n - k)) τ C Q:=by
 obtain⟨d,hd⟩:∃d,n - k=d:=⟨_,rfl⟩;rw[hd];induction d generalizing k τ C with
 |zero=>lia
 |succ d ih=>
  obtain⟨b,C1,e1,h⟩:=hs k τ C hk h0;cases b with
  |false=>
   rw[if_neg (by simp)]at h
   exact⟨.nx,τ,C1,by unfold lH;rw[e1];rfl,h⟩
  |true=>
   rw[if_pos rfl]at h;obtain⟨l,ao,C2,e2,h⟩:=h;cases l with
   |nx=>
    obtain⟨l,ag,C',e,q⟩:=ih h.1 h.2 (by lia)
    exact⟨l,ag,C',by unfold lH;rw[e1,aX,if_pos rfl,e2,aX];exact e,q⟩
   |ct=>
    obtain⟨l,ag,C',e,q⟩:=ih h.1 h.2 (by lia)
    exact⟨l,ag,C',by unfold lH;rw[e1,aX,if_pos rfl,e2,aX];exact e,q⟩
   |bk=>exact⟨.nx,ao,C2,by unfold lH;rw[e1,aX,if_pos rfl,e2];rfl,h⟩
   |rt v=>exact⟨.rt v,ao,C2,by unfold lH;rw[e1,aX,if_pos rfl,e2];rfl,h⟩
   |ex v=>exact⟨.ex v,ao,C2,by unfold lH;rw[e1,aX,if_pos rfl,e2];rfl,h⟩
theorem aAt{g:FG}{ts:List T}(hg:∀t∈ts,∀C,∃ap,g t C τ=some ap):∀{C:Sto},jT g gP (iG (gO fF)) τ ts C=some ((bI ts.length).map (fun i=>T.cell (C.length+i)),C++aT ts.length (.l,[])):=by
 induction ts with
 |nil=>intro C;simp[jT]
 |cons t ts ih=>
  intro C;obtain⟨ap,e⟩:=hg t bJ C;unfold jT;rw[e,aX];show(gP ap C).bind _=_;have e2:iG (gO fF) ap C=some (.cell C.length,C++[(.l,[])]):=by
   unfold iG gO tY fF;simp[lim]
  simp only[gP,aX,if_true,e2];rw[ih fun u hu=>hg u (bA _ hu),aKL (List.prefix_append _ _)];simp only[aOp,aU,aN,aQ,cP];congr 2
  ·rw[aOr,aM,b7];simp only[aPV,aPP.injEq,true_and];apply cI;intro i _;simp only[d4];congr 1;lia
end
end TL
namespace Lib
open PySem L2 TL
variable{ps:List (Int×Int)}{nd:List (List Int)}{told o:List Int}{w:Nat}
def Nd(ps:List (Int×Int))(m:Nat)(nd:List (List Int)):Prop:=nd.length=m/\∀(b:Nat)(l:List Int),nd[b]?=some l->l.length<=ps.length/\∀a,a∈l↔(a,(b:Int))∈ps
def InW(m:Nat)(ps:List (Int×Int)):Prop:=∀p∈ps,(0<=p.1/\p.1<m)/\(0<=p.2/\p.2<m)
theorem aCi{m n:Int}(h:0<=n/\n<m):aAz m n=true:=j3 h
theorem tO{m:Nat}(hm:m<=100)(hl:ps.length<=1000)(hw:InW m ps):∃t,gM [.int m,.lst (ps.map pT)]=some t/\∃nd,t=.lst (nd.map iT)/\Nd ps m nd:=by
 apply kY;unfold o3;walk_at "b";simp_arith[if_true]
 refine⟨by lia,?_⟩
 refine⟨_,_,aAt (g:=gN 0) (fun t ht C=>⟨_,rfl⟩),?_⟩
 simp only[uL,aP,aOs,aY,aQ,aOh,eO,cF]
 refine iR (fun i τ C=>∃a b,τ=[some (.int m),some (.lst (ps.map pT)),some (.cell m),a,b]/\∃ls:List (List Int),C=ls.map (fun l=>(Kd.l,l.map T.int))++[(.l,(bI m).map T.cell)]/\ls.length=m/\
  ∀(b:Nat)(l:List Int),ls[b]?=some l->l.length<=i/\∀a,a∈l↔(a,(b:Int))∈ps.take i) ?_ ?_ ?_
 ·refine⟨_,_,rfl,aT m [],by simp,by simp,fun b l e=>?_⟩
  rw[cO]at e;split at e
  ·cases e;simp
  ·cases e
 ·rintro i ⟨x,y⟩ τ C hx ⟨a,b,rfl,ls,rfl,jv,cv⟩;obtain⟨hx1,jt⟩:=hw _ (bD hx);have hi:i<ps.length:=(aR.mp hx).1;simp only at hx1 jt;unfold nN;obtain⟨y,rfl⟩:∃y':Nat,y=y':=⟨_,(bN jt.1).symm⟩;have nu:y<ls.length:=by lia
  have ec:lc (ls.map (fun l=>(Kd.l,l.map T.int))++[(.l,(bI m).map T.cell)]) m=some ((bI m).map T.cell):=by
   rw[gS];rw[bH (by simp[jv])];simp[jv]
  have ey:lc (ls.map (fun l=>(Kd.l,l.map T.int))++[(.l,(bI m).map T.cell)]) y=some (ls[y].map T.int):=by
   rw[gS];rw[aZ (by simpa using nu)];simp[nu]
  have ea:atI ((bI m).map T.cell) (y:Int)=some (.cell y):=by
   rw[rB,bK,dN (by lia)];rfl
  simp_arith[↓aCu,aHq,aCi hx1,aCi jt,↓fH ec,↓fH ea,↓aEs (show liT _ (T.cell y)=_ from ey),Bool.not_true,Bool.not_false];have next:∀l,(∀c,c∈l↔c∈ls[y]\/c=x)->l.length<=i+1->∀(b:Nat)(l':List Int),(ls.set y l)[b]?=some l'->l'.length<=i+1/\∀a,a∈l'↔(a,(b:Int))∈ps.take (i+1):=by
   intro l kr ly b l' e;have et:∀a,(a,(b:Int))∈ps.take (i+1)↔(a,(b:Int))∈ps.take i\/(a=x/\b=y):=fun a=>by
    rw[eR,hx];simp only[dI,bM,bU,aP8.injEq];constructor
    ·rintro(h| ⟨h1,h2⟩)
     ·exact .inl h
     ·exact .inr ⟨h1,by lia⟩
    ·rintro(h| ⟨h1,h2⟩)
     ·exact .inl h
     ·exact .inr ⟨h1,by lia⟩
   by_cases hb:b=y
   ·subst hb;rw[bO nu]at e;cases e
    refine⟨ly,fun a=>?_⟩
    rw[kr,et,(cv b _ (bB nu)).2];simp
   ·rw[aS (Ne.symm hb)]at e;obtain⟨h1,h2⟩:=cv b l' e
    refine⟨by lia,fun a=>?_⟩
    rw[et,h2];simp[hb]
  obtain⟨hly,_⟩:=cv y _ (bB nu);split
  ·rw[ey]
   refine⟨rfl,_,rfl,by walk_at "a",trivial,_,_,rfl,ls.set y (ls[y]++[x]),?_,by simpa using jv,next _ (fun c=>by simp) (by simp;lia)⟩
   rw[aDl,aPe _ _ (by simpa using nu),aPW]
  ·rename_i hn;have uz:x∈ls[y]:=by simpa using hn
   refine⟨trivial,_,_,rfl,ls,rfl,jv,fun b l e=>?_⟩
   have:=next ls[y] (fun c=>⟨.inl,fun h=>h.elim id fun h=>by rw[h];exact uz⟩) (by lia) b l
   rw[eQ]at this
   exact this e
 ·rintro τ C ⟨a,b,rfl,ls,rfl,jv,cv⟩;simp_arith[if_true]
  refine⟨.lst (ls.map iT),?_,ls,rfl,jv,fun b l e=>?_⟩
  ·unfold dr;rw[show lc (ls.map (fun l=>(Kd.l,l.map T.int))++[(.l,(bI m).map T.cell)]) m=some ((bI m).map T.cell)from by rw[gS,bH (by simp[jv])];simp[jv]];simp only[aX];rw[show mapO (dr 2 (ls.map (fun l=>(Kd.l,l.map T.int))++[(.l,(bI m).map T.cell)])) ((bI m).map T.cell)=some (ls.map iT)from ?_]
   ·rfl
   ·have:∀(k:Nat),k<=m->mapO (dr 2 (ls.map (fun l=>(Kd.l,l.map T.int))++[(.l,(bI m).map T.cell)])) (((bI m).drop (m - k)).map T.cell)=some ((ls.drop (m - k)).map iT):=by
     intro k;induction k with
     |zero=>intro _;rw[aPX,eC (by simp),eC (by lia)];rfl
     |succ k ih=>
      intro hk;have bo:m - (k+1)<m:=by lia
      rw[aOk (by simpa using bo),aOk (by lia:m - (k+1)<ls.length),show m - (k+1)+1=m - k by lia];rw[aM,aM]
      refine jN ?_ (ih (by lia))
      rw[eA]
      refine pS ?_ gZ
      rw[gS];rw[aZ (by simp;lia)];simp[jv,bo]
    have:=this m (bG _);simpa using this
  ·have:=cv b l e;rw[cV]at this
   exact this
def Rdy(nd:List (List Int))(told:List Int)(w:Nat):Prop:=(w:Int)∉told/\∀l,nd[w]?=some l->∀a∈l,a∈told
theorem xF(hn:nd.length<=100)(hl:∀l∈nd,l.length<=1000)(hw:w<nd.length)(hr:Rdy nd told w)(dg:∀v<w,¬Rdy nd told v):
 lT [.lst (nd.map iT),.lst (told.map T.int)]=some (.int w):=by
 apply hW;unfold qK;walk_at "b";simp_arith[aP]
 refine⟨by lia,lR (fun i τ C=>C=[]/\∃a,τ=[some (.lst (nd.map iT)),some (.lst (told.map T.int)),a]/\i<=w) ⟨rfl,_,rfl,dQ _⟩ ?_ ?_⟩
 ·rintro i τ C hi ⟨rfl,a,rfl,hiw⟩;have dy:i<nd.length:=by lia
  have e1:atI (nd.map iT) (0+(i:Int))=some (iT nd[i]):=by
   rw[eE,rB,bK,bB dy];rfl
  have hli:=hl _ (dS dy);unfold oP;simp_arith[↓fH e1];have fin:∀b:Bool,(b=true↔Rdy nd told i)->if b=true then dr 3 [] (.int (0+(i:Int)))=some (T.int w)else∃a,[some (T.lst (nd.map iT)),some (T.lst (told.map T.int)),some (T.int (0+(i:Int)))]=[some (.lst (nd.map iT)),some (.lst (told.map T.int)),a]/\i+1<=w:=by
   intro b hb;have yn:i<w\/i=w:=by lia
   rcases yn with h|h
   ·rw[if_neg (fun z=>dg i h (hb.mp z))]
    exact⟨_,rfl,h⟩
   ·subst h;rw[if_pos (hb.mpr hr),eE]
    exact iZ f7
  by_cases ht:(0+(i:Int))∈told
  ·have h0:=fin false (Iff.intro (fun z=>nomatch z) (fun z=>(z.1 (by simpa using ht)).elim));rw[if_neg (by simp)]at h0;rw[if_neg (by simpa using ht)]
   exact h0
  ·rw[if_pos (by simpa using ht)]
   refine⟨by walk_at "a",gG (fun a=>T.bl (decide (a∈told))) (fun a _=>?_) ?_⟩
   ·simp only[scT,aT,aM,bC,aY,aV,aW,bR,bS,cC];simp_arith[if_true]
   rw[aJw]
   refine⟨_,rfl,_,aHq,?_⟩
   have h0:=fin (List.all (nd[i].map fun a=>decide (a∈told)) id) (by
    rw[aPS,aOf];constructor
    ·intro h
     refine⟨by simpa using ht,fun l e a ha=>?_⟩
     rw[bB dy]at e;cases e;simpa using h a ha
    ·intro h a ha;simpa using h.2 _ (bB dy) a ha)
   split at h0
   ·rename_i hb;rw[if_pos hb];exact h0
   ·rename_i hb;rw[if_neg hb];exact⟨rfl,h0⟩
 ·rintro τ C ⟨rfl,a,rfl,hiw⟩
  lia
theorem aBO{P:Nat->Prop}(h:∃n,P n):∃n,P n/\∀k<n,¬P k:=by
 obtain⟨n,hn⟩:=h;induction n using Nat.strongRecOn with
 |_ n ih=>
  by_cases hk:∃k,k<n/\P k
  ·obtain⟨k,h1,h2⟩:=hk
   exact ih k h1 h2
  ·exact⟨n,hn,fun k h1 h2=>hk ⟨k,h1,h2⟩⟩
theorem aDX:∀(m:Nat)(l:List Int),(∀w:Nat,w<m->(w:Int)∈l)->m<=l.length
 |0,_,_=>dQ _
 |m+1,l,h=>by
  have hm:=h m (d8 _);have:=aDX m (l.erase m) fun w hw=>(List.mem_erase_of_ne (by lia)).mpr (h w (by lia))
  rw[aOn hm]at this;have:=List.length_pos_of_mem hm
  lia
theorem aAw:∀(m:Nat)(l:List Int),l.Nodup->(∀x∈l,0<=x/\x<m)->l.length<=m
 |0,l,_,h=>by
  cases l with
  |nil=>simp
  |cons x l=>have:=h x bJ;lia
 |m+1,l,hn,h=>by
  by_cases hm:(m:Int)∈l
  ·have:=aAw m (l.erase m) (hn.erase _) fun x hx=>by
    have h1:=h x (List.mem_of_mem_erase hx);have h2:x≠m:=fun z=>by subst z;exact(List.Nodup.mem_erase_iff hn).mp hx |>.1 rfl
    lia
   rw[aOn hm]at this
   lia
  ·have:=aAw m l hn fun x hx=>by
    have h1:=h x hx;have h2:x≠m:=fun z=>hm (z ▸ hx)
    lia
   lia
def aCH(ps:List (Int×Int))(told:List Int)(w:Nat):Prop:=(w:Int)∉told/\∀a,(a,(w:Int))∈ps->a∈told
theorem Nd.rdy{m:Nat}(h:Nd ps m nd)(hw:w<m):Rdy nd told w↔aCH ps told w:=by
 have cb:w<nd.length:=by rw[h.1];exact hw
 have e:=bB cb;obtain⟨_,h2⟩:=h.2 w _ e;constructor
 ·rintro⟨h3,h4⟩
  exact⟨h3,fun a ha=>h4 _ e a ((h2 a).mpr ha)⟩
 ·rintro⟨h3,h4⟩
  refine⟨h3,fun l e' a ha=>?_⟩
  rw[e]at e';cases e'
  exact h4 a ((h2 a).mp ha)
def Acy(ps:List (Int×Int)):Prop:=∃r:Int->Nat,∀p∈ps,r p.1<r p.2
theorem aL2{m:Nat}(hw:InW m ps)(hr:Acy ps)(hl:told.length<m):∃w,w<m/\aCH ps told w:=by
 obtain⟨r,hr⟩:=hr;have hex:∃w:Nat,w<m/\(w:Int)∉told:=cS fun hn=>by
  have:=aDX m told fun w hw=>cS fun hc=>hn ⟨w,hw,hc⟩
  lia
 obtain⟨k,⟨w,h1,h2,h3⟩,dg⟩:=aBO (P:=fun k=>∃w:Nat,w<m/\(w:Int)∉told/\r w=k) (by obtain⟨w,h1,h2⟩:=hex;exact⟨r w,w,h1,h2,rfl⟩)
 refine⟨w,h1,h2,fun a ha=>cS fun hc=>?_⟩
 have h4:=(hw _ ha).1;have h5:=hr _ ha;simp only at h4 h5
 refine dg (r a) (by lia) ⟨a.toNat,by lia,?_,?_⟩
 ·rw[bN h4.1];exact hc
 ·rw[bN h4.1]
def aCQ(ps:List (Int×Int))(m:Nat)(o:List Int):Prop:=∀(i:Nat)(x:Int),o[i]?=some x->∃w:Nat,x=w/\w<m/\aCH ps (o.take i) w/\∀v<w,¬aCH ps (o.take i) v
theorem aCQ.snoc{m:Nat}(h:aCQ ps m o)(hw:w<m)(hr:aCH ps o w)(dg:∀v<w,¬aCH ps o v):aCQ ps m (o++[(w:Int)]):=by
 intro i x e;by_cases hi:i<o.length
 ·rw[aZ hi]at e;rw[List.take_append_of_le_length (by lia)]
  exact h i x e
 ·have dy:i=o.length:=by
   have:=(aR.mp e).1;simp at this;lia
  subst dy;simp only[List.getElem?_concat_length,cH.injEq]at e;rw[List.take_left']
  ·exact⟨w,e.symm,hw,hr,dg⟩
  ·rfl
theorem vX{m:Nat}(hm:m<=8)(hl:ps.length<=1000)(hw:InW m ps)(hr:Acy ps):∃t,mK [.int m,.lst (ps.map pT)]=some t/\∃o,t=.lst (o.map T.int)/\o.length=m/\aCQ ps m o:=by
 obtain⟨_,e1,nd,rfl,gy⟩:=tO (by lia) hl hw;have yc:=gy.1;have w1:∀{C Q},wpO (iF 2 gM [.int m,.lst (ps.map pT)] C) Q↔Q (.lst (nd.map iT)) C:=fO e1 rfl (by rw[fL,fL,gB,f9,f7,lN];rfl);apply kY;unfold xV;walk_at "b";simp_arith[↓w1]
 refine⟨by walk_at "a",aEZ (n:=10) (k:=0) (fun i τ C=>∃o:List Int,τ=[some (.int m),some (.lst (ps.map pT)),some (.lst (nd.map iT)),some (.cell 0)]/\C=[(.l,o.map T.int)]/\o.length=i/\i<=m/\aCQ ps m o) (by lia) ⟨[],rfl,rfl,rfl,dQ _,fun i x e=>by simp at e⟩ ?_⟩
 rintro i τ C hi ⟨o,rfl,rfl,ho,him,hp⟩;simp_arith[aP];by_cases bo:i<m
 ·obtain⟨w,⟨h1,h2⟩,h3⟩:=aBO (aL2 hw hr (told:=o) (by lia));have dg:∀v<w,¬aCH ps o v:=fun v hv z=>h3 v hv ⟨by lia,z⟩
  have el:=xF (nd:=nd) (told:=o) (w:=w) (by lia) (fun l dw=>by
   obtain⟨b,hb⟩:=bT.mp dw;have:=(gy.2 b l hb).1
   lia) (by lia) ((gy.rdy h1).mpr h2) (fun v hv z=>dg v hv ((gy.rdy (by lia)).mp z))
  rw[if_pos (j3 (by lia))];unfold qX;simp_arith[if_true]
  refine y8 rfl (jN (iZ (by rw[f9];exact aLg)) (jN (mL rfl) rfl)) ?_
  refine⟨_,el,rfl,?_⟩
  simp_arith[if_true]
  refine⟨by walk_at "a",by lia,o++[(w:Int)],by rw[aDl],by simp[ho],bo,hp.snoc h1 h2 dg⟩
 ·rw[if_neg (by simpa using(by lia:m<=o.length))]
  exact⟨_,mL rfl,o,rfl,by lia,hp⟩
structure Topo(ps:List (Int×Int))(m:Nat)(o:List Int):Prop where
 len:o.length=m
 nd:o.Nodup
 rng:∀x∈o,0<=x/\x<m
 all:∀w:Nat,w<m->(w:Int)∈o
 top:∀(j:Nat)(b:Int),o[j]?=some b->∀a,(a,b)∈ps->a∈o.take j
theorem aCQ.topo{m:Nat}(h:aCQ ps m o)(hl:o.length=m):Topo ps m o:=by
 have rng:∀x∈o,0<=x/\x<m:=fun x hx=>by
  obtain⟨i,hi⟩:=bT.mp hx;obtain⟨w,rfl,hw,_⟩:=h i x hi
  lia
 have nd:o.Nodup:=by
  refine List.pairwise_iff_getElem.mpr fun i j hi hj md e=>?_
  have ej:=bB hj;obtain⟨w,e1,_,h2,_⟩:=h j _ ej
  refine h2.1 (bD (i:=i) ?_)
  rw[d3 md,bB hi,e,e1]
 refine⟨hl,nd,rng,fun w hw=>cS fun hc=>?_,fun j b e a ha=>?_⟩
 ·have:=aAw m ((w:Int)::o) (bX.mpr ⟨hc,nd⟩) (fun x hx=>by
   rcases bE.mp hx with rfl|hx
   ·lia
   ·exact rng x hx)
  simp at this;lia
 ·obtain⟨w,rfl,_,h2,_⟩:=h j b e
  exact h2.2 a ha
end Lib
namespace TL
open PySem L2
section
variable {τ:TSt}{C:Sto}{fa:FN}{x:XF}{F:FS}{Q:Fl->TSt->Sto->Prop}{c:String}
end
end TL
namespace Lib
open PySem L2 TL
variable{rs:List Int}{ps:List (Int×Int)}
theorem aHz{i:Int}:rS [.int i]=some (.bl true):=by
 apply hW;unfold aD6;walk_at "b";simp_arith[aML]
 exact rfl
theorem aFI{a:Int}{C:Sto}{Q:T->Sto->Prop}:wpO (iF 1 rS [.int a] C) Q↔Q (.bl true) C:=fO aHz rfl (by walk_at "c")
structure Rk(m:Nat)(rs:List Int):Prop where
 len:rs.length=m
 nd:rs.Nodup
 rng:∀x∈rs,0<=x/\x<m
theorem Rk.ins{m:Nat}{q:Int}(h:Rk m rs):Rk (m+1) (insAt rs q m):=by
 have p:=tV (xs:=rs) (i:=q) (y:=(m:Int))
 refine⟨by rw[vM,h.len],p.nodup_iff.mpr (bX.mpr ⟨fun z=>?_,h.nd⟩),fun x hx=>?_⟩
 ·have:=h.rng _ z;lia
 ·rcases bE.mp (p.mem_iff.mp hx)with rfl|hx
  ·lia
  ·have:=h.rng _ hx;lia
def Al(rs:List Int)(p:Int×Int):Prop:=∃i j:Nat,i<j/\rs[i]?=some p.1/\rs[j]?=some p.2
theorem Al.inW{m:Nat}(hr:Rk m rs)(h:∀p∈ps,Al rs p):InW m ps:=fun p hp=>by
 obtain⟨i,j,_,h1,h2⟩:=h p hp
 exact⟨hr.rng _ (bD h1),hr.rng _ (bD h2)⟩
theorem Al.acy{m:Nat}(hr:Rk m rs)(h:∀p∈ps,Al rs p):Acy ps:=by
 refine⟨fun x=>rs.idxOf x,fun p hp=>?_⟩
 obtain⟨i,j,md,h1,h2⟩:=h p hp;have key:∀(k:Nat)(x:Int),rs[k]?=some x->rs.idxOf x=k:=fun k x e=>by
  obtain⟨hk,e⟩:=aR.mp e;rw[<-e]
  exact hr.nd.idxOf_getElem k hk
 show rs.idxOf p.1<rs.idxOf p.2;rw[key i _ h1,key j _ h2]
 exact md
theorem aAk{α:Type}{xs:List α}{f:α->Int}:(xs.map fun x=>T.int (f x))=(xs.map f).map T.int:=by simp
end Lib
namespace Lib
open PySem L2 TL
variable{bs hs ns:List Int}{d:Int}{ps:List (Int×Int)}
noncomputable def at0(bs:List Int)(x:Int):Int:=bs.getD x.toNat 0
theorem vL{x:Int}(h0:0<=x)(h:x<bs.length):atI (bs.map T.int) x=some (.int (at0 bs x)):=by
 rw[tZ h0 h];unfold at0;rw[cY,bB (by lia)];rfl
theorem vD{x y v:Int}(h0:0<=x)(h:x<bs.length)(hy:0<=y):at0 (bs.set x.toNat v) y=if y=x then v else at0 bs y:=by
 unfold at0;rw[cY,cY];by_cases e:y=x
 ·subst e;rw[if_pos rfl,bO (by lia)];rfl
 ·rw[if_neg e,aS (by lia)]
theorem sF{P:Int->Prop}{x:Int}(h:∀b∈bs,P b)(h0:P 0):P (at0 bs x):=by
 unfold at0;rw[cY];cases e:bs[x.toNat]?with
 |none=>exact h0
 |some b=>exact h b (bD e)
theorem jH{i:Nat}(h:i<bs.length):at0 bs (i:Int)=bs[i]:=by
 unfold at0;rw[cY,cF,bB h];rfl
theorem aJI(hl:bs.length<=1000):j7 [.lst (bs.map T.int),.lst (hs.map T.int)]=some (.lst (((bs.zip hs).map fun p=>p.1+p.2).map T.int)):=by
 apply hW;unfold pC;walk_at "b";simp_arith[aBw]
 refine⟨by rw[aP,dG];unfold lim;lia,gG (fun p:Int×Int=>T.int (p.1+p.2)) (fun p _=>?_) ?_⟩
 ·simp only[scT,aT,aM,bC,aY,aV,aW];simp_arith[if_true]
 ·rw[aAk];exact aNF
theorem uZ{n:Int}(h:n∈ns):n<=jR d ns:=by
 unfold jR;have ay:ns≠[]:=by rintro rfl;simp at h
 rw[if_neg (by simpa using ay)]
 exact(qR ay).2 n h
theorem pA:(ns=[]/\jR d ns=d)\/jR d ns∈ns:=by
 unfold jR;by_cases h:ns=[]
 ·left;subst h;exact⟨rfl,rfl⟩
 ·right;rw[if_neg (by simpa using h)]
  exact(qR h).1
structure Early(ps:List (Int×Int))(hs:List Int)(bs:List Int):Prop where
 len:bs.length=hs.length
 pos:∀x,0<=at0 bs x
 ge:∀p∈ps,at0 bs p.1+at0 hs p.1<=at0 bs p.2
 att:∀w:Nat,w<hs.length->at0 bs w=0\/∃a,(a,(w:Int))∈ps/\at0 bs w=at0 bs a+at0 hs a
theorem aBP(hm:hs.length<=8)(hl:ps.length<=1000)(hw:InW hs.length ps)(hr:Acy ps)(hp:∀h∈hs,0<=h):
 ∃t,lP [.lst (hs.map T.int),.lst (ps.map pT)]=some t/\∃bs,t=.lst (bs.map T.int)/\Early ps hs bs:=by
 obtain⟨_,e1,nd,rfl,gy⟩:=tO (by lia) hl hw;obtain⟨_,e2,o,rfl,ho,iq⟩:=vX hm hl hw hr;have tp:=iq.topo ho;have w1:∀{C Q},wpO (iF 2 gM [.int hs.length,.lst (ps.map pT)] C) Q↔Q (.lst (nd.map iT)) C:=fO e1 rfl (by rw[fL,fL,gB,f9,f7,lN];rfl);have w2:∀{C Q},wpO (iF 2 mK [.int hs.length,.lst (ps.map pT)] C) Q↔Q (.lst (o.map T.int)) C:=fO e2 rfl (by rw[fL,fL,gB,f9,f7,lN];rfl);have yc:=gy.1;apply kY;unfold v5;walk_at "b";simp_arith[↓w1,↓w2,aP]
 refine⟨by unfold lim;lia,gG (fun _:Int=>T.int 0) (fun i _=>?_) ?_⟩
 ·simp only[scT,aT,aM,bC,aY,aV,aW];simp_arith[if_true]
 simp_arith[if_true]
 refine iR (fun i τ C=>∃a,τ=[some (.lst (hs.map T.int)),some (.lst (ps.map pT)),some (.lst (o.map T.int)),some (.lst (nd.map iT)),some (.cell 0),a]/\∃bs:List Int,C=[(.l,bs.map T.int)]/\bs.length=hs.length/\(∀x,0<=at0 bs x)/\
  ∀(j:Nat)(w:Int),j<i->o[j]?=some w->(∀a,(a,w)∈ps->at0 bs a+at0 hs a<=at0 bs w)/\(at0 bs w=0\/∃a,(a,w)∈ps/\at0 bs w=at0 bs a+at0 hs a)) ?_ ?_ ?_
 ·refine⟨_,rfl,aT hs.length 0,?_,by simp,fun x=>sF (fun b hb=>by rw[List.eq_of_mem_replicate hb];exact bZ _) (bZ _),fun j w hj=>by lia⟩
  rw[aPI,aPm,ho]
 ·rintro i w τ C cb ⟨a,rfl,bs,rfl,zb,vm,cv⟩;obtain⟨jf,hw1⟩:=tp.rng w (bD cb);have hwn:w.toNat<nd.length:=by lia
  obtain⟨hnl,oj⟩:=gy.2 w.toNat _ (bB hwn);rw[bN jf]at oj;have en:atI (nd.map iT) w=some (iT nd[w.toNat]):=by rw[oV jf,bK,bB hwn];rfl
  generalize nd[w.toNat]=l at hnl oj en;unfold rR;simp_arith[↓fH en]
  refine⟨by walk_at "a",gG (fun a:Int=>T.int (at0 bs a+at0 hs a)) (fun a ha=>?_) ?_⟩
  ·have ze:=(hw _ ((oj a).mp ha)).1;simp only at ze;have g1:=vL (bs:=bs) ze.1 (by lia);have g2:=vL (bs:=hs) ze.1 (by lia);simp only[scT,aT,aM,bC,aY,aV,aW,bR,bS,cC];simp_arith[↓fH g1,↓fH g2]
  ·rw[aAk,fH (p8 _)];simp_arith[if_true];have ix:ixN (bs.map T.int).length w=some w.toNat:=xH jf (by simp;lia);rw[fH ix];obtain⟨v,hv⟩:∃v,jR 0 (l.map fun a=>at0 bs a+at0 hs a)=v:=⟨_,rfl⟩;rw[hv];have v0:0<=v:=by
    rw[<-hv];rcases pA (d:=0) (ns:=l.map fun a=>at0 bs a+at0 hs a)with⟨_,h⟩|h
    ·rw[h];exact bZ _
    ·obtain⟨a,_,e⟩:=bL.mp h;rw[<-e];have:=vm a;have:=sF (x:=a) hp (bZ 0)
     lia
   have keep:∀(j:Nat)(u a:Int),j<=i->o[j]?=some u->(a,u)∈ps->at0 (bs.set w.toNat v) a=at0 bs a:=by
    intro j u a hj hu ha;have hm:=tp.top j u hu a ha;obtain⟨k,hk⟩:=bT.mp hm;have hkj:k<j:=by
     have:=(aR.mp hk).1;simp at this;lia
    rw[d3 hkj]at hk;have jy:=(hw _ ha).1;rw[vD jf (by lia) jy.1,if_neg];rintro rfl;have:=(aPt (by have:=(aR.mp hk).1;exact this) tp.nd).mp (hk.trans cb.symm)
    lia
   refine⟨trivial,_,rfl,bs.set w.toNat v,by rw[<-sE],by simpa using zb,fun x=>sF (fun b hb=>?_) (bZ _),fun j u hj hu=>?_⟩
   ·rcases aOQ hb with hb|rfl
    ·obtain⟨k,hk⟩:=bT.mp hb;obtain⟨hk1,hk2⟩:=aR.mp hk;have:=vm k;rw[jH hk1,hk2]at this
     exact this
    ·exact v0
   ·obtain⟨ny,hu1⟩:=tp.rng u (bD hu);by_cases hji:j=i
    ·subst hji;rw[cb]at hu;cases hu;have ev:at0 (bs.set w.toNat v) w=v:=by rw[vD jf (by lia) jf,if_pos rfl]
     rw[ev]
     refine⟨fun a ha=>?_,?_⟩
     ·rw[keep j w a (bG _) cb ha,<-hv]
      exact uZ (bL.mpr ⟨a,(oj a).mpr ha,rfl⟩)
     ·rcases pA (d:=0) (ns:=l.map fun a=>at0 bs a+at0 hs a)with⟨_,h⟩|h
      ·left;rw[<-hv];exact h
      ·right;obtain⟨a,ha,e⟩:=bL.mp h
       exact⟨a,(oj a).mp ha,by rw[keep j w a (bG _) cb ((oj a).mp ha),e,hv]⟩
    ·have ay:u≠w:=by
      rintro rfl;have:=(aPt (by have:=(aR.mp hu).1;exact this) tp.nd).mp (hu.trans cb.symm)
      lia
     have eu:at0 (bs.set w.toNat v) u=at0 bs u:=by rw[vD jf (by lia) ny,if_neg ay]
     obtain⟨h1,h2⟩:=cv j u (by lia) hu;rw[eu]
     refine⟨fun a ha=>?_,?_⟩
     ·rw[keep j u a (by lia) hu ha];exact h1 a ha
     ·rcases h2 with h2| ⟨a,ha,e⟩
      ·exact .inl h2
      ·exact .inr ⟨a,ha,by rw[keep j u a (by lia) hu ha];exact e⟩
 ·rintro τ C ⟨a,rfl,bs,rfl,zb,vm,cv⟩;simp_arith[if_true]
  refine⟨_,mL rfl,bs,rfl,zb,vm,fun p og=>?_,fun w cb=>?_⟩
  ·have h2:=(hw p og).2;have:=tp.all p.2.toNat (by lia);rw[bN h2.1]at this;obtain⟨j,hj⟩:=bT.mp this
   exact(cv j p.2 (aR.mp hj).1 hj).1 p.1 og
  ·obtain⟨j,hj⟩:=bT.mp (tp.all w cb)
   exact(cv j w (aR.mp hj).1 hj).2
noncomputable def dones(bs hs:List Int):List Int:=(bs.zip hs).map fun p=>p.1+p.2
theorem aFk(e:lP [.lst (hs.map T.int),.lst (ps.map pT)]=some (.lst (bs.map T.int)))(hl:bs.length<=1000):
 j8 [.lst (hs.map T.int),.lst (ps.map pT)]=some (.int (jR 0 (dones bs hs))):=by
 have w1:∀{C Q},wpO (iF 2 lP [.lst (hs.map T.int),.lst (ps.map pT)] C) Q↔Q (.lst (bs.map T.int)) C:=fO e rfl (by rw[fL,fL,gB,f9,f9,lN,gZ];rfl);have w2:∀{C Q},wpO (iF 2 j7 [.lst (bs.map T.int),.lst (hs.map T.int)] C) Q↔Q (.lst ((dones bs hs).map T.int)) C:=fO (aJI hl) rfl (by walk_at "c");apply hW;unfold aB4;walk_at "b";simp_arith[↓w1,↓w2];rw[fH (p8 _)]
 exact iZ f7
theorem mI(hl:bs.length=hs.length){x:Int}:x∈dones bs hs↔∃w:Nat,w<hs.length/\x=at0 bs w+at0 hs w:=by
 unfold dones;rw[bL];constructor
 ·rintro⟨p,hp,rfl⟩;obtain⟨w,hw⟩:=bT.mp hp;rw[dU]at hw;obtain⟨h1,e1⟩:=aR.mp hw.1;obtain⟨h2,e2⟩:=aR.mp hw.2
  exact⟨w,h2,by rw[jH h1,jH h2,e1,e2]⟩
 ·rintro⟨w,hw,rfl⟩
  refine⟨(bs[w]'(by lia),hs[w]),bD (i:=w) ?_,?_⟩
  ·rw[dU];exact⟨bB (by lia),bB hw⟩
  ·rw[jH (by lia),jH hw]
def Mx(S:Int->Prop)(d:Int):Prop:=0<=d/\(∀x,S x->x<=d)/\(d=0\/S d)
theorem Mx.uniq{S:Int->Prop}{d':Int}(h:Mx S d)(h':Mx S d'):d=d':=by
 obtain⟨a1,a2,a3⟩:=h;obtain⟨b1,b2,b3⟩:=h';apply dW
 ·rcases a3 with rfl|a3
  ·exact b1
  ·exact b2 _ a3
 ·rcases b3 with rfl|b3
  ·exact a1
  ·exact a2 _ b3
theorem Early.mxL(h:Early ps hs bs)(hp:∀x∈hs,0<=x):Mx (fun x=>∃w:Nat,w<hs.length/\x=at0 bs w+at0 hs w) (jR 0 (dones bs hs)):=by
 have hl:=h.len;have nn:∀w,0<=at0 bs w+at0 hs w:=fun w=>by
  have:=h.pos w;have:=sF (x:=w) hp (bZ 0)
  lia
 refine⟨?_,fun x hx=>uZ ((mI hl).mpr hx),?_⟩
 ·rcases pA (d:=0) (ns:=dones bs hs)with⟨_,e⟩|e
  ·rw[e];exact bZ _
  ·obtain⟨w,_,e⟩:=(mI hl).mp e;rw[e];exact nn _
 ·rcases pA (d:=0) (ns:=dones bs hs)with⟨_,e⟩|e
  ·exact .inl e
  ·exact .inr ((mI hl).mp e)
end Lib
namespace Lib
open PySem L2 TL
def Chn(ps:List (Int×Int))(ws:List Int):Prop:=∀(j:Nat)(x y:Int),ws[j]?=some x->ws[j+1]?=some y->(x,y)∈ps
end Lib
set_option maxHeartbeats 4000000
namespace Lib
open PySem L2 TL
end Lib
namespace TL
open PySem L2
section
variable {τ:TSt}{C:Sto}{fo fi fe:FE}{fa:FN}{Q:T->Sto->Prop}{QS:Fl->TSt->Sto->Prop}
theorem fB:wpS (zD fo fi fe) τ C QS↔wpE fo τ C fun y C1=>wpE fi τ C1 fun z C2=>∃k i,y=.cell k/\z=.int i/\∃ts,lc C2 k=some ts/\∃x,atI ts i=some (.int x)/\wpE fe τ C2 fun w C3=>∃v,w=.int v/\∃us,lc C3 k=some us/\∃j,ixN us.length i=some j/\QS .nx τ (C3.set k (.l,us.set j (.int (x+v)))):=by
 unfold wpE wpS zD;constructor
 ·rintro⟨l,t,C',e,q⟩;obtain⟨⟨t1,C1⟩,e1,e⟩:=aK.mp e;obtain⟨⟨t2,C2⟩,e2,e⟩:=aK.mp e;dsimp only at e;split at e
  ·obtain⟨ts,e3,e⟩:=aK.mp e;obtain⟨old,e4,e⟩:=aK.mp e;split at e
   ·obtain⟨⟨t3,C3⟩,e5,e⟩:=aK.mp e;dsimp only at e;split at e
    ·obtain⟨us,e6,e⟩:=aK.mp e;obtain⟨j,e7,e⟩:=aL.mp e;cases e
     exact⟨_,_,e1,_,_,e2,_,_,rfl,rfl,ts,e3,_,e4,_,_,e5,_,rfl,us,e6,j,e7,q⟩
    ·cases e
   ·cases e
  ·cases e
 ·rintro⟨_,_,e1,_,_,e2,k,i,rfl,rfl,ts,e3,x,e4,_,_,e5,v,rfl,us,e6,j,e7,q⟩
  exact⟨_,_,_,by rw[e1,aX,e2,aX];dsimp only;rw[e3,aX,e4,aX];dsimp only;rw[e5,aX];dsimp only;rw[e6,aX,e7];rfl,q⟩
theorem fA:wpE (sD fa) τ C Q↔wpA fa τ C fun ts C1=>ts.length<=lim/\Q (.tup ts) C1:=by
 unfold wpE wpA sD mV;constructor
 ·rintro⟨t,C',e,q⟩;obtain⟨⟨ts,C1⟩,e1,e⟩:=aK.mp e;dsimp only at e;split at e
  ·cases e;exact⟨ts,_,e1,‹_›,q⟩
  ·cases e
 ·rintro⟨ts,C1,e1,h,q⟩
  exact⟨_,_,by rw[e1];exact if_pos h,q⟩
end
end TL
namespace Lib
open PySem L2 TL
end Lib
namespace Lib
open PySem L2 TL
variable{r:Int×List Int}{rows:List (Int×List Int)}
noncomputable def tH(rows:List (Int×List Int))(w:Nat):Int:=(rows.map fun r=>r.1*(r.2.count (w:Int):Int)).sum
noncomputable def rT(r:Int×List Int):T:=.lst (.int r.1::r.2.map T.int)
theorem aNS:rT r=iT (r.1::r.2):=rfl
theorem aNA:CF (rT r)=true:=by rw[aNS];exact aKN
theorem aLE:CFs (rows.map rT)=true:=p7 fun _ _=>aNA
theorem aLb{a:Int}{ws:List Int}:aCN (T.int a::ws.map T.int) (some 1) none=ws.map T.int:=by
 rw[show T.int a::ws.map T.int=(a::ws).map T.int from rfl,nM,aFs (by decide)];rfl
theorem aDj{m:Nat}(hm:m<=100)(hx:∀r∈rows,∀w∈r.2,0<=w/\w<(m:Int)):
 mH [.int m,.lst (rows.map rT)]=some (.lst (((bI m).map (tH rows)).map T.int)):=by
 apply hW;unfold y7;walk_at "b";simp_arith[↓fB,↓fA]
 refine⟨by lia,?_⟩
 rw[nX]
 refine gG (fun _=>T.int 0) (fun i _=>?_) ?_
 ·simp only[scT,aT,aM,bC,aY,aV,aW,bR,bS,cC];simp_arith[↓fB,↓fA]
 simp_arith[↓fB,↓fA]
 refine iR (fun i τ C=>∃a b:Option T,τ=[some (.int m),some (.lst (rows.map rT)),some (.cell 0),a,b]/\C=[(.l,((bI m).map (tH (rows.take i))).map T.int)]) ⟨_,_,rfl,by simp[tH]⟩ ?_ ?_
 ·rintro i ⟨a,ws⟩ τ C hi ⟨_,_,rfl,rfl⟩;have gx:=hx _ (bD hi);simp only at gx;unfold uF rT;simp_arith[↓fB,↓fA,aLb]
  refine iR (fun j τ C=>∃b:Option T,τ=[some (.int m),some (.lst (rows.map rT)),some (.cell 0),some (rT (a,ws)),b]/\C=[(.l,((bI m).map fun w=>tH (rows.take i) w+a*((ws.take j).count (w:Int):Int)).map T.int)]) ⟨_,rfl,by simp⟩ ?_ ?_
  ·rintro j x τ C hj ⟨_,rfl,rfl⟩;obtain⟨x0,x1⟩:=gx x (bD hj);obtain⟨w,rfl⟩:∃w:Nat,x=w:=⟨_,(bN x0).symm⟩;have hw:w<m:=by lia
   unfold tW rT;have e1:atI (((bI m).map fun w=>tH (rows.take i) w+a*((ws.take j).count (w:Int):Int)).map T.int) (w:Int)=some (.int (tH (rows.take i) w+a*((ws.take j).count (w:Int):Int))):=by
    rw[rB,bK,bK,dN hw];rfl
   simp_arith[↓fB,↓fA,↓fH e1,↓fH (aCo (x:=T.int a) (xs:=ws.map T.int))]
   refine⟨_,e1,?_⟩
   rw[fH (aJ0 (by simpa using hw))]
   refine⟨trivial,_,rfl,?_⟩
   congr 1;congr 1;rw[sE (f:=T.int)];congr 1;apply aPu;intro v;by_cases hv:v=w
   ·subst hv;rw[bO (by simpa using hw),bK,dN hw];simp only[aOp,cH.injEq];rw[eR,hj];simp only[dI,aPv,List.count_singleton_self]
    push_cast
    rw[aPG];lia
   ·rw[aS (Ne.symm hv),bK,bK];by_cases hvm:v<m
    ·rw[dN hvm];simp only[aOp,cH.injEq];rw[eR,hj];simp only[dI,aPv];rw[aPf,if_neg (by simp;lia)];simp
    ·rw[cK (by simp;lia)];rfl
  ·rintro τ C ⟨_,rfl,rfl⟩
   refine⟨trivial,_,_,rfl,?_⟩
   congr 4;funext w;unfold tH;rw[eR,hi];simp[cV]
 ·rintro τ C ⟨_,_,rfl,rfl⟩;simp_arith[↓fB,↓fA];rw[cV]
  exact mL rfl
theorem aA9{m:Nat}{C:Sto}{Q:T->Sto->Prop}(hm:m<=100)(hx:∀r∈rows,∀w∈r.2,0<=w/\w<(m:Int)):
 wpO (iF 2 mH [.int m,.lst (rows.map rT)] C) Q↔Q (.lst (((bI m).map (tH rows)).map T.int)) C:=
 fO (aDj hm hx) rfl (by rw[fL,fL,gB,f9,f7,aLE];rfl)
end Lib
namespace Lib
open PySem L2 TL
theorem aDJ{f:T->Option T}:∀{ts us:List T},ts.length=us.length->(∀(i:Nat)(t u:T),ts[i]?=some t->us[i]?=some u->f t=some u)->mapO f ts=some us
 | [],[],_,_=>rfl
 |t::ts,u::us,hl,h=>jN (h 0 t u rfl rfl) (aDJ (by simpa using hl) fun i t u e1 e2=>h (i+1) t u e1 e2)
end Lib
set_option maxHeartbeats 1000000
namespace Lib
open PySem L2 TL
variable{w:Int×Int×Int}
noncomputable def wworth(w:Int×Int×Int)(x:Int):Int:=if x<=w.2.2 then x*w.1 else w.2.2*(w.1 - w.2.1)+x*w.2.1
def WB(w:Int×Int×Int):Prop:=Bt 300 w.1/\Bt 300 w.2.1/\Bt 300 w.2.2
theorem yD{x:Int}(hw:WB w)(hx:Bt 1000 x):lC [w3 w,.int x]=some (.int (wworth w x)):=by
 obtain⟨h1,h2,h3⟩:=hw;apply hW;unfold sH wworth;walk_at "b";simp_arith[↓fB,↓fA,w3,↓fH (aCo (α:=T)),↓fH (aBM (α:=T)),↓fH (aHd (α:=T))];by_cases h:x<=w.2.2
 ·rw[if_pos (j3 h),if_pos h]
  exact⟨xX hx h1 (by decide),iZ f7⟩
 ·rw[if_neg (by simpa using h),if_neg h]
  exact⟨xX h3 (h1.sub h2) (by decide),xX hx h2 (by decide),iZ f7⟩
theorem vG{x:Int}{C:Sto}{Q:T->Sto->Prop}(hw:WB w)(hx:Bt 1000 x):wpO (iF 2 lC [w3 w,.int x] C) Q↔Q (.int (wworth w x)) C:=fO (yD hw hx) rfl (by rw[fL,fL,gB,aHX,f7];rfl)
def aCP(ws:List (Int×Int×Int))(rows:List (Int×List Int))(e:Int):Int:=((ws.zip ((bI ws.length).map (tH rows))).map fun p=>wworth p.1 p.2).sum - e*(rows.map (·.1)).sum
end Lib
namespace Lib
open PySem L2 TL
end Lib
namespace Lib
open PySem L2 TL
end Lib
namespace Lib
open PySem L2 TL
end Lib
namespace Lib
open PySem L2 TL
end Lib
namespace Lib
open PySem L2 TL
theorem aAQ{α:Type}{xs:List α}{i:Int}(h0:0<=i)(h:i<xs.length):∃t∈xs,atI xs i=some t:=
 ⟨xs[i.toNat]'(by lia),dS _,by rw[oV h0,bB (by lia)]⟩
def Sm(n:Int):Prop:=0<=n/\n<2147483587
theorem Sm.bt{n:Int}(h:Sm n):Bt 31 n:=.of_lt h.1 (by have:=h.2;lia)
theorem p9{a k:Int}(hk:Bt 20 k):∃t,jG [.int a,.int k]=some t/\∃r,t=.int r/\Sm r:=by
 apply kY;unfold aB2;walk_at "b";simp_arith[↓fB,↓fA];have h1:=iK (x:=a*48271+k*k*69621+3) (m:=2147483647) (by lia);generalize (a*48271+k*k*69621+3)%2147483647=n1 at h1;have h2:=iK (x:=n1*n1) (m:=2147483629) (by lia);have b1:Bt 31 n1:=.of_lt h1.1 (by lia);generalize n1*n1%2147483629=n2 at h2;have h3:=iK (x:=n2*n2) (m:=2147483587) (by lia);have b2:Bt 31 n2:=.of_lt h2.1 (by lia)
 exact⟨gE (.of_lt (by decide) (by decide)),fZ (hk.mono (by decide)),gE (.of_lt (by decide) (by decide)),by decide,fZ (b1.mono (by decide)),by decide,fZ (b2.mono (by decide)),by decide,_,iZ f7,_,rfl,h3⟩
noncomputable def l7(a k:Int):Int:=if h:Bt 20 k then aQa (dH (p9 (a:=a) h)).2 else 0
theorem aJc{a k:Int}(h:Bt 20 k):jG [.int a,.int k]=some (.int (l7 a k)):=by
 unfold l7;rw[dif_pos h];have e:=(dH (p9 (a:=a) h)).1;have e2:=(dH (dH (p9 (a:=a) h)).2).1;rw[<-e2];exact e
theorem z7{a k:Int}:Sm (l7 a k):=by
 unfold l7;split
 ·rename_i h
  exact(dH (dH (p9 (a:=a) h)).2).2
 ·exact⟨by decide,by decide⟩
theorem rG{a k:Int}{C:Sto}{Q:T->Sto->Prop}(h:Bt 20 k):wpO (iF 2 jG [.int a,.int k] C) Q↔Q (.int (l7 a k)) C:=fO (aJc h) rfl (by walk_at "c")
theorem aBT{ns:List Int}(hl:ns.length<=63):∃t,mS [.lst (ns.map T.int)]=some t/\∃xs:List Int,t=.lst (xs.map T.int)/\xs.length=40/\∀x∈xs,Sm x:=by
 apply kY;unfold vP;walk_at "b";simp_arith[↓fB,↓fA,aP]
 refine⟨by lia,?_⟩
 rw[nX]
 refine gG (fun i=>T.int (l7 (kD ns 0) (90+(0+(i:Int))))) (fun i hi=>?_) ?_
 ·have hi:=cW.mp hi;have hb:Bt 20 (90+(0+(i:Int))):=.sml (by lia) (by lia) (by decide);simp only[scT,aT,aM,bC,aY,aV,aW,bR,bS,cC];simp_arith[↓fB,↓fA,↓kJ,↓rG]
 rw[show(aP6 (fun(i:Nat)=>T.int (l7 (kD ns 0) (90+(0+(i:Int))))) (bI (aOi 40)))=((bI 40).map fun(i:Nat)=>l7 (kD ns 0) (90+(0+(i:Int)))).map T.int by simp];obtain⟨pq,xp⟩:∃pq,((bI 40).map fun(i:Nat)=>l7 (kD ns 0) (90+(0+(i:Int))))=pq:=⟨_,rfl⟩;have yk:pq.length=40:=by rw[<-xp];simp
 have oa:∀x∈pq,Sm x:=by
  rw[<-xp];intro x hx;obtain⟨i,_,rfl⟩:=bL.mp hx
  exact z7
 rw[xp]
 refine⟨by lia,lR (fun i τ C=>∃a b:Option T,τ=[some (.lst (ns.map T.int)),some (.cell 0),a,b]/\∃xs:List Int,C=[(.l,xs.map T.int)]/\xs.length=40/\∀x∈xs,Sm x) ⟨_,_,rfl,pq,rfl,yk,oa⟩ ?_ ?_⟩
 ·rintro i τ C hi ⟨_,_,rfl,xs,rfl,lp,fq⟩;have hb:Bt 20 (2+(i:Int)):=.sml (by lia) (by lia) (by decide);have hq:=iK (x:=2+(i:Int)) (m:=40) (by lia);unfold rC;generalize hqe:(2+(i:Int))%40=q at hq;have e1:=tZ (ns:=xs) (i:=q) hq.1 (by lia);have e2:=tZ (ns:=ns) (i:=2+(i:Int)) (by lia) (by lia);simp_arith[↓fB,↓fA,hqe,↓fH e1,↓fH e2,↓rG]
  refine⟨by decide,?_⟩
  rw[fH (xH hq.1 (by simp[lp];lia))]
  refine⟨_,_,rfl,xs.set q.toNat _,by rw[sE (f:=T.int)],by simpa using lp,fun x hx=>?_⟩
  rcases aOQ hx with h|h
  ·exact fq x h
  ·rw[h];exact z7
 ·rintro τ C ⟨_,_,rfl,xs,rfl,lp,fq⟩;simp_arith[↓fB,↓fA]
  exact⟨_,mL rfl,xs,rfl,lp,fq⟩
theorem yX{c:Int}{m:Nat}(hm:m<=8):∃t,lA [.int c,.int m]=some t/\∃rs:List Int,t=.lst (rs.map T.int)/\Rk m rs:=by
 apply kY;unfold aBm;walk_at "b";simp_arith[↓fB,↓fA]
 refine⟨by walk_at "a",by lia,lR (fun i τ C=>∃(a:Option T),τ=[some (.int c),some (.int m),some (.cell 0),a]/\∃rs:List Int,C=[(.l,rs.map T.int)]/\Rk i rs) ⟨_,rfl,[],rfl,⟨rfl,.nil,by simp⟩⟩ ?_ ?_⟩
 ·rintro i τ C hi ⟨a,rfl,rs,rfl,hr⟩;have hb:Bt 20 (0+(i:Int)):=.sml (by lia) (by lia) (by decide);have ah:=hr.len;unfold xO;simp_arith[↓fB,↓fA,↓rG];have b2:=iK (x:=l7 c (0+(i:Int))) (m:=0+(i:Int)+1) (by lia);generalize l7 c (0+(i:Int))%(0+(i:Int)+1)=q at b2
  refine⟨by walk_at "a",⟨by walk_at "a",by lia,by lia⟩,_,rfl,insAt rs q (i:Int),by rw[eE,<-tQ],hr.ins⟩
 ·rintro τ C ⟨a,rfl,rs,rfl,hr⟩;simp_arith[↓fB,↓fA]
  exact⟨_,mL rfl,rs,rfl,by simpa using hr⟩
end Lib
namespace Lib
open PySem L2 TL
theorem aI2{ws:List (Int×Int×Int)}{a b c:Int}:ws.map w3++[T.lst [.int a,.int b,.int c]]=(ws++[(a,b,c)]).map w3:=by
 rw[bQ];rfl
theorem aGw{n:Nat}{C:Sto}{ts us:List T}(h:mapO (dr n C) ts=some us):dr (n+1) C (.tup ts)=some (.tup us):=by
 unfold dr;split
 ·rename_i hc;rw[aAD hc]at h;cases h;rfl
 ·rw[h];rfl
end Lib
namespace Lib
open PySem L2 TL
variable{ws:List (Int×Int×Int)}{w:Int×Int×Int}{Q:T->Sto->Prop}
theorem aEg{hs:List Int}{ps:List (Int×Int)}:CFs [.lst (hs.map T.int),.lst (ps.map pT)]=true:=by rw[fL,fL,gB,f9,f9,gZ,lN];rfl
theorem xN(hl:ws.length<=1000):kI [.lst (ws.map w3)]=some (.lst ((ws.map (·.2.1)).map T.int)):=by
 apply hW;unfold qO;walk_at "b";simp_arith[↓fB,↓fA]
 refine⟨xG (by simpa using hl),gG (fun w=>T.int w.2.1) (fun w _=>?_) ?_⟩
 ·simp only[scT,aT,aM,bC,aY,aV,aW,bR,bS,cC];simp_arith[↓fB,↓fA,w3,↓fH (aBM (α:=T))]
 ·rw[aAk,aNF]
theorem yI:k8 [w3 w]=some (.int (if w.2.2=0 then w.2.1 else w.1)):=by
 apply hW;unfold rQ;walk_at "b";simp_arith[↓fB,↓fA,w3,↓fH (aCo (α:=T)),↓fH (aBM (α:=T)),↓fH (aHd (α:=T))];by_cases h:w.2.2=0
 ·rw[if_pos (j3 h),if_pos h];exact iZ f7
 ·rw[if_neg (by simpa using h),if_neg h];exact iZ f7
theorem uS{C:Sto}(hl:ws.length<=1000):wpO (iF 1 kI [.lst (ws.map w3)] C) Q↔Q (.lst ((ws.map (·.2.1)).map T.int)) C:=fO (xN hl) rfl (by rw[fL,gB,f9,nE];rfl)
theorem vN{C:Sto}:wpO (iF 1 k8 [w3 w] C) Q↔Q (.int (if w.2.2=0 then w.2.1 else w.1)) C:=fO yI rfl (by rw[fL,gB,aHX];rfl)
def NoOrd(m:Nat)(ps:List (Int×Int)):Prop:=aAW [.int m,.lst (ps.map pT)]=some "NoOrder"
section
variable {ws:List (Int×Int×Int)}{ps:List (Int×Int)}{e:Int}(hl:ws.length<=1000)(h:NoOrd ws.length ps)
include hl h
end
end Lib
namespace Lib
open PySem L2 TL
variable{ps:List (Int×Int)}{ws:List (Int×Int×Int)}{z:Int}
theorem v8{hs bs:List Int}(hm:hs.length<=8)(hl:ps.length<=1000)(hw:InW hs.length ps)(hr:Acy ps)(hp:∀h∈hs,0<=h)(hE:Early ps hs bs):
 kB [.lst (hs.map T.int),.lst (ps.map pT)]=some (.int (jR 0 (dones bs hs))):=by
 obtain⟨_,e2,o,rfl,ho,iq⟩:=vX hm hl hw hr;have tp:=iq.topo ho;apply hW;unfold zG;walk_at "b";simp_arith[↓fB,↓fA,aP]
 refine⟨by walk_at "a",gG (fun _:Int=>T.int 0) (fun i _=>?_) ?_⟩
 ·simp only[scT,aT,aM,bC,aY,aV,aW,bR,bS,cC];simp_arith[↓fB,↓fA]
 simp_arith[↓fB,↓fA,aP];rw[show(aP6 (fun _=>T.int 0) hs)=(aT hs.length (0:Int)).map T.int by rw[aPI,aPm]]
 refine⟨by lia,lR (fun k τ C=>∃a b c:Option T,τ=[some (.lst (hs.map T.int)),some (.lst (ps.map pT)),some (.cell 0),a,b,c]/\∃g:List Int,C=[(.l,g.map T.int)]/\g.length=hs.length/\(∀x:Int,0<=x->x<hs.length->0<=at0 g x/\at0 g x<=at0 bs x)/\∀(j:Nat)(w:Int),j<k->o[j]?=some w->at0 g w=at0 bs w) ?_ ?_ ?_⟩
 ·refine⟨_,_,_,rfl,aT hs.length 0,rfl,by simp,fun x h0 h1=>?_,fun j w hj=>by lia⟩
  have:at0 (aT hs.length 0) x=0:=by
   unfold at0;rw[cY,cO,if_pos (by lia)];rfl
  rw[this]
  exact⟨bZ _,hE.pos x⟩
 ·rintro k τ C hk ⟨_,_,_,rfl,g,rfl,cg,hg,hq⟩;have hk:k<hs.length:=by lia
  have hok:o[k]?=some o[k]:=bB (by lia);generalize o[k]=u at hok;unfold t7;simp_arith[↓fB,↓fA]
  refine iR (fun i τ C=>∃b c:Option T,τ=[some (.lst (hs.map T.int)),some (.lst (ps.map pT)),some (.cell 0),some (.int (0+(k:Int))),b,c]/\∃g:List Int,C=[(.l,g.map T.int)]/\g.length=hs.length/\(∀x:Int,0<=x->x<hs.length->0<=at0 g x/\at0 g x<=at0 bs x)/\(∀(j:Nat)(w:Int),j<k->o[j]?=some w->at0 g w=at0 bs w)/\∀p∈ps.take i,p.2=u->at0 bs p.1+at0 hs p.1<=at0 g u) ⟨_,_,rfl,g,rfl,cg,hg,hq,by simp⟩ ?_ ?_
  ·rintro i p τ C hi ⟨_,_,rfl,g,rfl,cg,hg,hq,ht⟩;have og:=bD hi;obtain⟨h1,h2⟩:=hw p og;have g1:=vL (bs:=g) h2.1 (by lia);have g2:=vL (bs:=g) h1.1 (by lia);have g3:=vL (bs:=hs) h1.1 (by lia);unfold uC;simp_arith[↓fB,↓fA,pT,↓fH g1,↓fH g2,↓fH g3];rw[fH (xH h2.1 (by simp[cg];lia))];obtain⟨v,hv⟩:∃v,max (at0 g p.2) (at0 g p.1+at0 hs p.1)=v:=⟨_,rfl⟩;rw[hv];have yq:=hE.ge p og;have q1:=hg p.1 h1.1 h1.2;have q2:=hg p.2 h2.1 h2.2;have hh:0<=at0 hs p.1:=sF hp (bZ 0);have es:∀x:Int,0<=x->at0 (g.set p.2.toNat v) x=if x=p.2 then v else at0 g x:=fun x h0=>vD h2.1 (by lia) h0
   refine⟨trivial,_,_,rfl,g.set p.2.toNat v,by rw[sE (f:=T.int)],by simpa using cg,fun x h0 h3=>?_,fun j w hj om=>?_,fun q rp xw=>?_⟩
   ·rw[es x h0];have:=hg x h0 h3;split
    ·rename_i e;subst e;lia
    ·exact this
   ·obtain⟨w0,w1⟩:=tp.rng w (bD om);rw[es w w0];have:=hq j w hj om;split
    ·rename_i e;subst e;lia
    ·exact this
   ·obtain⟨u0,u1⟩:=tp.rng u (bD hok);rw[eR,hi]at rp;simp only[dI,bM,bU]at rp;rw[es u u0];rcases rp with rp|rfl
    ·have:=ht q rp xw;split
     ·rename_i e;subst e;lia
     ·exact this
    ·rw[if_pos xw.symm];have ha:=tp.top k u hok q.1 (by rw[<-xw];exact og);obtain⟨j,hj⟩:=bT.mp ha;have vj:j<k:=by have:=(aR.mp hj).1;simp at this;lia
     rw[d3 vj]at hj;have:=hq j q.1 vj hj
     lia
  ·rintro τ C ⟨_,_,rfl,g,rfl,cg,hg,hq,ht⟩;rw[cV]at ht
   refine⟨_,_,_,rfl,g,rfl,cg,hg,fun j w hj om=>?_⟩
   by_cases e:j=k
   ·subst e;rw[hok]at om;cases om;obtain⟨u0,u1⟩:=tp.rng u (bD hok);have hu:=hg u u0 u1;have ub:=hE.att u.toNat (by lia);rw[bN u0]at ub;rcases ub with h| ⟨a,ha,h⟩
    ·lia
    ·have:=ht _ ha rfl;simp only at this
     lia
   ·exact hq j w (by lia) om
 ·rintro τ C ⟨_,_,_,rfl,g,rfl,cg,hg,hq⟩;have heq:∀w:Nat,w<hs.length->at0 g w=at0 bs w:=fun w cb=>by
   obtain⟨j,hj⟩:=bT.mp (tp.all w cb)
   exact hq j w (by have:=(aR.mp hj).1;lia) hj
  simp_arith[↓fB,↓fA,aP]
  refine⟨by lia,?_⟩
  rw[nX]
  refine gG (fun(w:Nat)=>T.int (at0 bs w+at0 hs w)) (fun w cb=>?_) ?_
  ·have cb:w<hs.length:=by simpa using cb
   have g1:=vL (bs:=g) (x:=0+(w:Int)) (by lia) (by lia);have g2:=vL (bs:=hs) (x:=0+(w:Int)) (by lia) (by lia);simp only[scT,aT,aM,bC,aY,aV,aW,bR,bS,cC];simp_arith[↓fB,↓fA,↓fH g1,↓fH g2];rw[eE,heq w cb]
  obtain⟨xs,fq⟩:∃xs:List Int,((bI hs.length).map fun(w:Nat)=>at0 bs w+at0 hs w)=xs:=⟨_,rfl⟩;have lp:xs.length=hs.length:=by rw[<-fq];simp
  have sj:∀x,x∈xs↔∃w:Nat,w<hs.length/\x=at0 bs w+at0 hs w:=fun x=>by
   rw[<-fq,bL];constructor
   ·rintro⟨w,cb,rfl⟩;exact⟨w,cW.mp cb,rfl⟩
   ·rintro⟨w,cb,rfl⟩;exact⟨w,cW.mpr cb,rfl⟩
  rw[show(aP6 (fun(w:Nat)=>T.int (at0 bs w+at0 hs w)) (bI (hs.length:Int).toNat))=xs.map T.int by rw[<-fq];simp,aDl,fH (p8 _)]
  refine⟨by walk_at "a",by simp[lim,lp];lia,by simp,?_⟩
  obtain⟨m1,m2⟩:=qR (ns:=xs++[0]) (by simp);have:tL (xs++[0])=jR 0 (dones bs hs):=by
   refine Mx.uniq (S:=fun x=>∃w:Nat,w<hs.length/\x=at0 bs w+at0 hs w) ⟨m2 0 (by simp),fun x hx=>m2 x (aOc _ ((sj x).mpr hx)),?_⟩ (hE.mxL hp)
   rcases bM.mp m1 with h|h
   ·exact .inr ((sj _).mp h)
   ·exact .inl (bU.mp h)
  rw[this]
  exact iZ f7
noncomputable def iH(w:Int×Int×Int):Int:=if w.2.2=0 then w.2.1 else w.1
theorem aAT(hl:ws.length<=1000)(h:j8 [.lst ((ws.map (·.2.1)).map T.int),.lst (ps.map pT)]=some (.int z)):hJ [.lst (ws.map w3),.lst (ps.map pT)]=some (.int z):=by
 have w1:∀{C Q},wpO (iF 2 j8 [.lst ((ws.map (·.2.1)).map T.int),.lst (ps.map pT)] C) Q↔Q (.int z) C:=fO h rfl aEg;apply hW;unfold t8;walk_at "b";simp_arith[↓fB,↓fA,↓uS,↓w1]
 exact iZ f7
theorem aBU(hl:ws.length<=1000)(h:j8 [.lst ((ws.map iH).map T.int),.lst (ps.map pT)]=some (.int z)):lO [.lst (ws.map w3),.lst (ps.map pT)]=some (.int z):=by
 have w1:∀{C Q},wpO (iF 2 j8 [.lst ((ws.map iH).map T.int),.lst (ps.map pT)] C) Q↔Q (.int z) C:=fO h rfl aEg;apply hW;unfold vS;walk_at "b";simp_arith[↓fB,↓fA]
 refine⟨xG (by simpa using hl),gG (fun w=>T.int (iH w)) (fun w _=>?_) ?_⟩
 ·simp only[scT,aT,aM,bC,aY,aV,aW,bR,bS,cC];simp_arith[↓fB,↓fA,↓vN]
  exact rfl
 ·rw[show(ws.map fun w=>T.int (iH w))=(ws.map iH).map T.int by simp];simp_arith[↓fB,↓fA,↓w1]
  exact iZ f7
theorem aHO{y:Int}(hl:ws.length<=1000)(h1:kB [.lst ((ws.map (·.2.1)).map T.int),.lst (ps.map pT)]=some (.int z))(h2:kB [.lst ((ws.map iH).map T.int),.lst (ps.map pT)]=some (.int y)):
 pV [.lst (ws.map w3),.lst (ps.map pT)]=some (.tup [.int z,.int y]):=by
 have w1:∀{C Q},wpO (iF 2 kB [.lst ((ws.map (·.2.1)).map T.int),.lst (ps.map pT)] C) Q↔Q (.int z) C:=fO h1 rfl aEg;have w2:∀{C Q},wpO (iF 2 kB [.lst ((ws.map iH).map T.int),.lst (ps.map pT)] C) Q↔Q (.int y) C:=fO h2 rfl aEg;apply hW;unfold aEm;walk_at "b";simp_arith[↓fB,↓fA]
 refine⟨xG (by simpa using hl),gG (fun w=>T.int w.2.1) (fun w _=>?_) ?_⟩
 ·simp only[scT,aT,aM,bC,aY,aV,aW,bR,bS,cC];simp_arith[↓fB,↓fA,w3,↓fH (aBM (α:=T))]
 rw[show(ws.map fun w=>T.int w.2.1)=(ws.map (·.2.1)).map T.int by simp];simp_arith[↓fB,↓fA,↓w1]
 refine⟨xG (by simpa using hl),gG (fun w=>T.int (iH w)) (fun w _=>?_) ?_⟩
 ·simp only[scT,aT,aM,bC,aY,aV,aW,bR,bS,cC];simp_arith[↓fB,↓fA,w3,↓fH (aHd (α:=T))];unfold iH;by_cases h:w.2.2=0
  ·rw[j3 h,if_pos rfl,fH aBM,if_pos h]
  ·rw[decide_eq_false h,if_neg (by decide),fH aCo,if_neg h]
 ·rw[show(ws.map fun w=>T.int (iH w))=(ws.map iH).map T.int by simp];simp_arith[↓fB,↓fA,↓w2]
  exact⟨by walk_at "a",iZ (by walk_at "c")⟩
end Lib
namespace NF
noncomputable def sm:Nat->(Nat->Int)->Int
 |0,_=>0
 |n+1,g=>sm n g+g n
theorem iE{n:Nat}{g g':Nat->Int}(h:∀k,k<n->g k=g' k):sm n g=sm n g':=by
 induction n with
 |zero=>rfl
 |succ n ih=>unfold sm;rw[ih fun k hk=>h k (by lia),h n (by lia)]
theorem zM{n:Nat}{g g':Nat->Int}(h:∀k,k<n->g k<=g' k):sm n g<=sm n g':=by
 induction n with
 |zero=>exact bZ _
 |succ n ih=>unfold sm;have:=ih fun k hk=>h k (by lia);have:=h n (by lia);lia
theorem aLQ{n:Nat}{g g':Nat->Int}:sm n (fun k=>g k+g' k)=sm n g+sm n g':=by
 induction n with
 |zero=>rfl
 |succ n ih=>unfold sm;rw[ih];dsimp only;lia
theorem aLY{n:Nat}{g g':Nat->Int}:sm n (fun k=>g k - g' k)=sm n g - sm n g':=by
 induction n with
 |zero=>rfl
 |succ n ih=>unfold sm;rw[ih];dsimp only;lia
theorem m5{n:Nat}{g:Nat->Int}(h:∀k,k<n->g k=0):sm n g=0:=by
 induction n with
 |zero=>rfl
 |succ n ih=>unfold sm;rw[ih fun k hk=>h k (by lia),h n (by lia)];rfl
theorem nO{n:Nat}{g:Nat->Int}(h:∀k,k<n->0<=g k):0<=sm n g:=by
 induction n with
 |zero=>exact bZ _
 |succ n ih=>unfold sm;have:=ih fun k hk=>h k (by lia);have:=h n (by lia);lia
theorem aGF{n:Nat}{g:Nat->Int}(h:∀k,k<n->0<=g k){k:Nat}(hk:k<n):g k<=sm n g:=by
 induction n with
 |zero=>lia
 |succ n ih=>
  unfold sm;by_cases e:k=n
  ·subst e;have:=nO fun j hj=>h j (aOT hj);lia
  ·have:=ih (fun j hj=>h j (by lia)) (by lia);have:=h n (by lia);lia
noncomputable def up(f:Nat->Int)(k:Nat)(v:Int):Nat->Int:=fun j=>if j=k then v else f j
theorem zQ{f:Nat->Int}{k:Nat}{v:Int}:up f k v k=v:=by unfold up;rw[if_pos rfl]
theorem xU{f:Nat->Int}{k j:Nat}{v:Int}(h:j≠k):up f k v j=f j:=by unfold up;rw[if_neg h]
theorem aKC{n:Nat}{f g:Nat->Int}{k:Nat}{v:Int}(hk:k<n):sm n (fun j=>up f k v j*g j)=sm n (fun j=>f j*g j)+(v - f k)*g k:=by
 induction n with
 |zero=>lia
 |succ n ih=>
  unfold sm;dsimp only;by_cases e:k=n
  ·subst e;rw[zQ,iE (g':=fun j=>f j*g j) (fun j hj=>by rw[xU (by lia)]),aOB]
   lia
  ·rw[ih (by lia),xU (by lia)];lia
structure Nt where
 m:Nat
 t:Nat->Nat
 h:Nat->Nat
 d:Nat->Int
 c:Nat->Int
variable {N:Nt}{f f' p q:Nat->Int}{a b x:Int}
variable{r:List (Nat×Bool)}
def Pot(N:Nt)(f p:Nat->Int):Prop:=∀k,k<N.m->(f k<N.c k->p (N.t k)+N.d k<=p (N.h k))/\(0<f k->p (N.h k)<=p (N.t k)+N.d k)
def Flo(N:Nt)(f:Nat->Int)(a:Int):Prop:=∀p:Nat->Int,sm N.m (fun k=>f k*(p (N.h k) - p (N.t k)))=a*(p 1 - p 0)
def Cap(N:Nt)(f:Nat->Int):Prop:=∀k,k<N.m->0<=f k/\f k<=N.c k
noncomputable def pos(x:Int):Int:=if 0<x then x else 0
theorem aCY:0<=pos x:=by unfold pos;split<;>lia
theorem aMW:x<=pos x:=by unfold pos;split<;>lia
def len(N:Nt)(f:Nat->Int):Int:=sm N.m fun k=>f k*N.d k
def cost(N:Nt)(p:Nat->Int):Int:=sm N.m fun k=>N.c k*pos (N.d k - (p (N.h k) - p (N.t k)))
theorem gap(hf:Flo N f a)(p:Nat->Int):len N f - a*(p 1 - p 0)=sm N.m fun k=>f k*(N.d k - (p (N.h k) - p (N.t k))):=by
 unfold len;rw[<-hf p,<-aLY]
 exact iE fun k _=>by rw[<-dD]
theorem weak(hf:Flo N f a)(hc:Cap N f)(p:Nat->Int):len N f - a*(p 1 - p 0)<=cost N p:=by
 rw[gap hf]
 refine zM fun k hk=>?_
 obtain⟨h1,h2⟩:=hc k hk;have h3:f k*(N.d k - (p (N.h k) - p (N.t k)))<=f k*pos (N.d k - (p (N.h k) - p (N.t k))):=Int.mul_le_mul_of_nonneg_left aMW h1;have h4:f k*pos (N.d k - (p (N.h k) - p (N.t k)))<=N.c k*pos (N.d k - (p (N.h k) - p (N.t k))):=cZ h2 aCY
 lia
theorem strong(hf:Flo N f a)(hc:Cap N f)(hp:Pot N f p):len N f - a*(p 1 - p 0)=cost N p:=by
 rw[gap hf]
 refine iE fun k hk=>?_
 obtain⟨h1,h2⟩:=hc k hk;obtain⟨h3,h4⟩:=hp k hk;generalize hx:N.d k - (p (N.h k) - p (N.t k))=y;unfold pos;by_cases hy:0<y
 ·rw[if_pos hy];have:f k=N.c k:=by
   by_cases h:f k<N.c k
   ·have:=h3 h;lia
   ·lia
  rw[this]
 ·rw[if_neg hy,aOt];by_cases hz:y=0
  ·rw[hz,aOt]
  ·have:f k=0:=by
    by_cases h:0<f k
    ·have:=h4 h;lia
    ·lia
   rw[this,dY]
noncomputable def rt(N:Nt)(e:Nat×Bool):Nat:=if e.2 then N.t e.1 else N.h e.1
noncomputable def rh(N:Nt)(e:Nat×Bool):Nat:=if e.2 then N.h e.1 else N.t e.1
noncomputable def rd(N:Nt)(e:Nat×Bool):Int:=if e.2 then N.d e.1 else - N.d e.1
noncomputable def rr(N:Nt)(f:Nat->Int)(e:Nat×Bool):Int:=if e.2 then N.c e.1 - f e.1 else f e.1
def Walk(N:Nt):List (Nat×Bool)->Nat->Nat->Prop
 | [],u,v=>u=v
 |e::r,u,v=>e.1<N.m/\rt N e=u/\Walk N r (rh N e) v
def pr(r:List (Nat×Bool))(x:Int)(f:Nat->Int):Nat->Int:=match r with
 | []=>f
 |e::r=>pr r x (up f e.1 (f e.1+if e.2 then x else -x))
theorem aHY:∀{r:List (Nat×Bool)}{u v:Nat}{f:Nat->Int},Walk N r u v->∀p:Nat->Int,sm N.m (fun k=>pr r x f k*(p (N.h k) - p (N.t k)))=sm N.m (fun k=>f k*(p (N.h k) - p (N.t k)))+x*(p v - p u)
 | [],u,v,f,w,p=>by cases w;simp[pr]
 |e::r,u,v,f,⟨h1,h2,h3⟩,p=>by
  show sm N.m (fun k=>pr r x (up f e.1 _) k*_)=_;rw[aHY h3,aKC h1];subst h2;unfold rt rh;cases e.2
  ·simp only[b9,if_false];have:(f e.1+ -x - f e.1)*(p (N.h e.1) - p (N.t e.1))=x*p (N.t e.1) - x*p (N.h e.1):=by
    rw[show f e.1+ -x - f e.1= -x by lia,Int.neg_mul,dD];lia
   rw[this,dD,dD];lia
  ·simp only[if_true];have:(f e.1+x - f e.1)*(p (N.h e.1) - p (N.t e.1))=x*p (N.h e.1) - x*p (N.t e.1):=by
    rw[show f e.1+x - f e.1=x by lia,dD]
   rw[this,dD,dD];lia
theorem Flo.pour(hf:Flo N f a)(w:Walk N r 0 1):Flo N (pr r x f) (a+x):=fun p=>by
 rw[aHY w,hf p,aOd]
theorem aFS:∀{r:List (Nat×Bool)}{f:Nat->Int}{k:Nat},(∀e∈r,e.1≠k)->pr r x f k=f k
 | [],_,_,_=>rfl
 |e::r,f,k,h=>by
  show pr r x (up f e.1 _) k=_;rw[aFS fun e' he=>h e' (bA _ he),xU (fun z=>h e bJ z.symm)]
theorem aKB:∀{r:List (Nat×Bool)}{f:Nat->Int}{e:Nat×Bool},(r.map (·.1)).Nodup->e∈r->pr r x f e.1=f e.1+if e.2 then x else -x
 | [],_,_,_,h=>by cases h
 |e::r,f,e',hn,h=>by
  rw[aM,bX]at hn;show pr r x (up f e.1 _) e'.1=_;rcases bE.mp h with rfl|h
  ·rw[aFS fun e hr z=>hn.1 (bL.mpr ⟨e,hr,z⟩),zQ]
  ·rw[aKB hn.2 h,xU fun z=>hn.1 (bL.mpr ⟨e',h,z⟩)]
theorem aBd(hn:(r.map (·.1)).Nodup)(f:Nat->Int)(x:Int)(k:Nat):(pr r x f k=f k/\∀e∈r,e.1≠k)\/∃b,(k,b)∈r/\pr r x f k=f k+if b then x else -x:=by
 by_cases h:∃e∈r,e.1=k
 ·obtain⟨⟨k',b⟩,he,rfl⟩:=h
  exact .inr ⟨b,he,aKB (e:=(k',b)) hn he⟩
 ·exact .inl ⟨aFS fun e he z=>h ⟨e,he,z⟩,fun e he z=>h ⟨e,he,z⟩⟩
theorem Cap.pour(hc:Cap N f)(hn:(r.map (·.1)).Nodup)(hx:0<=x)(hr:∀e∈r,x<=rr N f e):Cap N (pr r x f):=fun k hk=>by
 obtain⟨h1,h2⟩:=hc k hk;rcases aBd hn f x k with⟨e,_⟩| ⟨b,hb,e⟩
 ·rw[e];exact⟨h1,h2⟩
 ·rw[e];have:=hr _ hb;unfold rr at this;cases b<;>simp at this|- <;>lia
def Tight(N:Nt)(p:Nat->Int)(r:List (Nat×Bool)):Prop:=∀e∈r,p (rt N e)+rd N e=p (rh N e)
theorem Pot.pour(hp:Pot N f p)(hn:(r.map (·.1)).Nodup)(ht:Tight N p r):Pot N (pr r x f) p:=fun k hk=>by
 obtain⟨h1,h2⟩:=hp k hk;rcases aBd hn f x k with⟨e,_⟩| ⟨b,hb,e⟩
 ·rw[e];exact⟨h1,h2⟩
 ·have:=ht _ hb;unfold rt rd rh at this;cases b<;>simp at this<;>exact⟨fun _=>by lia,fun _=>by lia⟩
theorem cut(hf:Flo N f a)(hc:Cap N f)(hp:Pot N f p)(W:Nat->Bool)(hq:∀k,k<N.m->W k=false->q (N.t k)+N.d k<=q (N.h k))(h0:p 0<=q 0)(h1:q 1<p 1):
 a<=sm N.m fun k=>if W k then N.c k else 0:=by
 have g:=hf fun v=>if q v<p v then 1 else 0
 simp only[if_pos h1,if_neg (Int.not_lt.mpr h0)]at g;rw[show a=a*(1 - 0)by lia,<-g]
 refine zM fun k hk=>?_
 obtain⟨c1,c2⟩:=hc k hk;obtain⟨h3,h4⟩:=hp k hk;by_cases z:f k=0
 ·rw[z,dY];split<;>lia
 ·have h4:=h4 (by lia);cases hw:W k
  ·have:=hq k hk hw;have:¬(¬q (N.t k)<p (N.t k)/\q (N.h k)<p (N.h k)):=by lia
   simp only[b9,if_false];by_cases e1:q (N.h k)<p (N.h k)
   ·by_cases e2:q (N.t k)<p (N.t k)
    ·rw[if_pos e1,if_pos e2];lia
    ·exact absurd ⟨e2,e1⟩ this
   ·rw[if_neg e1];by_cases e2:q (N.t k)<p (N.t k)
    ·rw[if_pos e2];lia
    ·rw[if_neg e2];lia
  ·rw[if_pos rfl];by_cases e1:q (N.h k)<p (N.h k)
   ·by_cases e2:q (N.t k)<p (N.t k)
    ·rw[if_pos e1,if_pos e2];lia
    ·rw[if_pos e1,if_neg e2];lia
   ·by_cases e2:q (N.t k)<p (N.t k)
    ·rw[if_neg e1,if_pos e2];lia
    ·rw[if_neg e1,if_neg e2];lia
theorem aCZ(hf:Flo N f a)(hc:∀k,k<N.m->0<=f k)(ρ:Nat->Int)(hr:∀k,k<N.m->ρ (N.t k)<ρ (N.h k)){j:Nat}(hj:j<N.m)(h0:ρ 0<ρ (N.h j))(h1:ρ (N.h j)<=ρ 1):f j<=a:=by
 have g:=hf fun v=>if ρ (N.h j)<=ρ v then 1 else 0
 simp only[if_pos h1,if_neg (aP7.mpr h0)]at g;rw[show a=a*(1 - 0)by lia,<-g];have k0:∀k,k<N.m->0<=f k*((if ρ (N.h j)<=ρ (N.h k)then(1:Int)else 0) - if ρ (N.h j)<=ρ (N.t k)then 1 else 0):=fun k hk=>by
  refine dA (hc k hk) ?_
  have:=hr k hk;split<;>split<;>lia
 have hl:=hr j hj;have:=aGF k0 hj;rw[if_pos (bZ _),if_neg (by lia)]at this
 lia
end NF
namespace NF
variable {N:Nt}{f p q st:Nat->Int}{a e x:Int}{n:Nat}
def In(N:Nt)(n:Nat):Prop:=∀k,k<N.m->N.t k<n/\N.h k<n
structure Least(N:Nt)(n:Nat)(f st p:Nat->Int):Prop where
 ge:∀v,v<n->st v<=p v
 pot:Pot N f p
 le:∀q,(∀v,v<n->st v<=q v)->Pot N f q->∀v,v<n->p v<=q v
def Open(N:Nt)(f:Nat->Int)(o:Nat×Bool):Prop:=o.1<N.m/\0<rr N f o
theorem mC:Pot N f p↔∀o,Open N f o->p (rt N o)+rd N o<=p (rh N o):=by
 constructor
 ·rintro h ⟨k,b⟩ ⟨hk,ho⟩;obtain⟨h1,h2⟩:=h k hk;unfold rr at ho;unfold rt rd rh;cases b
  ·simp only[b9,if_false]at ho|-;have:=h2 ho;lia
  ·simp only[if_true]at ho|-;exact h1 (by lia)
 ·intro h k hk
  refine⟨fun h1=>?_,fun h1=>?_⟩
  ·have:=h (k,true) ⟨hk,by unfold rr;simp only[if_true];lia⟩;simpa only[rt,rd,rh,if_true]using this
  ·have:=h (k,false) ⟨hk,by unfold rr;simp only[b9,if_false];lia⟩;simp only[rt,rd,rh,b9,if_false]at this
   lia
theorem aH2{o:Nat×Bool}(hq:Pot N f q)(ho:Open N f o)(hl:∀v,v<n->p v<=q v)(hi:rt N o<n):∀v,v<n->up p (rh N o) (p (rt N o)+rd N o) v<=q v:=fun v hv=>by
 unfold up;split
 ·rename_i z;subst z;have:=mC.mp hq o ho;have:=hl _ hi
  lia
 ·exact hl v hv
theorem reach(L:Least N n f st p)(hi:In N n)(h1:1<n)(R:Nat->Prop)(hz:∀v,v<n->p v=st v->R v)(hc:∀o,Open N f o->R (rt N o)->p (rt N o)+rd N o=p (rh N o)->R (rh N o)):R 1:=by
 by_cases hr:R 1
 ·exact hr
 ·exfalso;have key:=L.le (fun v=>open Classical in if R v then p v else p v - 1) (fun v hv=>?_) (mC.mpr fun o ho=>?_) 1 h1
  ·simp only[if_neg hr]at key;lia
  ·have:=L.ge v hv;try dsimp only
   split
   ·exact this
   ·rename_i z;have:p v≠st v:=fun w=>z (hz v hv w)
    lia
  ·have h:=mC.mp L.pot o ho;have h':=hc o ho;try dsimp only
   split
   ·rename_i z1;split
    ·exact h
    ·rename_i z2;have:p (rt N o)+rd N o≠p (rh N o):=fun w=>z2 (h' z1 w)
     lia
   ·split<;>lia
theorem aIy(h1:Pot N f p)(h2:Pot N f q)(x:Int):Pot N f fun v=>if p v<q v - x then q v - x else p v:=mC.mpr fun o ho=>by
 have:=mC.mp h1 o ho;have:=mC.mp h2 o ho;try dsimp only
 split<;>split<;>lia
end NF
namespace NF
structure Wk where
 u:Nat->Int
 l:Nat->Int
 p:Nat->Int
noncomputable def net(w:Wk)(n:Nat)(es:List (Nat×Nat))(P:Int):Nt where
 m:=4*n+es.length
 t k:=if k<4*n then(match k%4 with|0=>0|1=>2*(k/4)+2|2=>2*(k/4)+2|_=>2*(k/4)+3)else 2*((es[k - 4*n]?).getD (0,0)).1+3
 h k:=if k<4*n then(match k%4 with|0=>2*(k/4)+2|1=>2*(k/4)+3|2=>2*(k/4)+3|_=>1)else 2*((es[k - 4*n]?).getD (0,0)).2+2
 d k:=if k<4*n then(match k%4 with|1=>w.u (k/4)|2=>w.l (k/4)|_=>0)else 0
 c k:=if k<4*n/\k%4=1 then w.p (k/4)else P
variable {w:Wk}{n:Nat}{es:List (Nat×Nat)}{P:Int}{f p q:Nat->Int}{a:Int}
variable{r:Nat->Int}{i:Nat}
inductive Pipe(w:Wk)(n:Nat)(es:List (Nat×Nat))(P:Int)(k:Nat):Prop where
 |src (i:Nat) (hi:i<n) (e:k=4*i) (t:(net w n es P).t k=0) (h:(net w n es P).h k=2*i+2) (d:(net w n es P).d k=0) (c:(net w n es P).c k=P)
 |usu (i:Nat) (hi:i<n) (e:k=4*i+1) (t:(net w n es P).t k=2*i+2) (h:(net w n es P).h k=2*i+3) (d:(net w n es P).d k=w.u i) (c:(net w n es P).c k=w.p i)
 |lea (i:Nat) (hi:i<n) (e:k=4*i+2) (t:(net w n es P).t k=2*i+2) (h:(net w n es P).h k=2*i+3) (d:(net w n es P).d k=w.l i) (c:(net w n es P).c k=P)
 |snk (i:Nat) (hi:i<n) (e:k=4*i+3) (t:(net w n es P).t k=2*i+3) (h:(net w n es P).h k=1) (d:(net w n es P).d k=0) (c:(net w n es P).c k=P)
 |nee (x y:Nat) (j:Nat) (hj:es[j]?=some (x,y)) (e:k=4*n+j) (t:(net w n es P).t k=2*x+3) (h:(net w n es P).h k=2*y+2) (d:(net w n es P).d k=0) (c:(net w n es P).c k=P)
theorem pipe{k:Nat}(hk:k<(net w n es P).m):Pipe w n es P k:=by
 have hk:k<4*n+es.length:=hk;by_cases h4:k<4*n
 ·have hi:k/4<n:=by lia
  have hm:k%4=0\/k%4=1\/k%4=2\/k%4=3:=by lia
  rcases hm with hm|hm|hm|hm
  ·exact .src (k/4) hi (by lia) (by simp[net,h4,hm]) (by simp[net,h4,hm]) (by simp[net,h4,hm]) (by simp[net,h4,hm])
  ·exact .usu (k/4) hi (by lia) (by simp[net,h4,hm]) (by simp[net,h4,hm]) (by simp[net,h4,hm]) (by simp[net,h4,hm])
  ·exact .lea (k/4) hi (by lia) (by simp[net,h4,hm]) (by simp[net,h4,hm]) (by simp[net,h4,hm]) (by simp[net,h4,hm])
  ·exact .snk (k/4) hi (by lia) (by simp[net,h4,hm]) (by simp[net,h4,hm]) (by simp[net,h4,hm]) (by simp[net,h4,hm])
 ·have hj:k - 4*n<es.length:=by lia
  have e:es[k - 4*n]?=some (es[k - 4*n]):=bB hj
  exact .nee es[k - 4*n].1 es[k - 4*n].2 (k - 4*n) e (by lia) (by simp[net,h4,e]) (by simp[net,h4,e]) (by simp[net,h4,e]) (by simp[net,h4,e])
theorem aAY(he:∀e∈es,e.1<n/\e.2<n):In (net w n es P) (2*n+2):=fun k hk=>by
 cases pipe hk with
 |src i hi e t h d c=>rw[t,h];lia
 |usu i hi e t h d c=>rw[t,h];lia
 |lea i hi e t h d c=>rw[t,h];lia
 |snk i hi e t h d c=>rw[t,h];lia
 |nee x y j hj e t h d c=>have:=he _ (bD hj);rw[t,h];lia
noncomputable def rk(n:Nat)(r:Nat->Int)(v:Nat):Int:=if v=0 then -1 else if v=1 then 2*n else if v%2=0 then 2*r (v/2 - 1)else 2*r (v/2 - 1)+1
theorem wW:rk n r (2*i+2)=2*r i:=by
 unfold rk;rw[if_neg (by lia),if_neg (by lia),if_pos (by lia),show(2*i+2)/2 - 1=i by lia]
theorem uP:rk n r (2*i+3)=2*r i+1:=by
 unfold rk;rw[if_neg (by lia),if_neg (by lia),if_neg (by lia),show(2*i+3)/2 - 1=i by lia]
theorem aKV(hr:∀i,i<n->0<=r i/\r i<n)(he:∀e∈es,r e.1<r e.2):∀k,k<(net w n es P).m->rk n r ((net w n es P).t k)<rk n r ((net w n es P).h k):=fun k hk=>by
 cases pipe hk with
 |src i hi e t h d c=>rw[t,h,wW];have:=hr i hi;show(-1:Int)<_;lia
 |usu i hi e t h d c=>rw[t,h,wW,uP];lia
 |lea i hi e t h d c=>rw[t,h,wW,uP];lia
 |snk i hi e t h d c=>rw[t,h,uP];have:=hr i hi;show _<(2*n:Int);lia
 |nee x y j hj e t h d c=>have:=he _ (bD hj);rw[t,h,wW,uP];simp only at this;lia
theorem aKi(hf:Flo (net w n es P) f a)(hc:Cap (net w n es P) f)(hr:∀i,i<n->0<=r i/\r i<n)(he:∀e∈es,r e.1<r e.2)(hn:∀e∈es,e.1<n/\e.2<n){k:Nat}(hk:k<(net w n es P).m):f k<=a:=by
 have up:=aKV (w:=w) (P:=P) hr he;have hu:=up k hk
 refine aCZ hf (fun k hk=>(hc k hk).1) (rk n r) up hk ?_ ?_
 ·cases pipe hk with
  |src i hi e t h d c=>rw[t]at hu;exact hu
  |usu i hi e t h d c=>rw[h,uP];have:=hr i hi;show(-1:Int)<_;lia
  |lea i hi e t h d c=>rw[h,uP];have:=hr i hi;show(-1:Int)<_;lia
  |snk i hi e t h d c=>rw[h];show(-1:Int)<2*n;lia
  |nee x y j hj e t h d c=>rw[h,wW];have:=hr y (hn _ (bD hj)).2;show(-1:Int)<_;lia
 ·show _<=(2*n:Int);cases pipe hk with
  |src i hi e t h d c=>rw[h,wW];have:=hr i hi;lia
  |usu i hi e t h d c=>rw[h,uP];have:=hr i hi;lia
  |lea i hi e t h d c=>rw[h,uP];have:=hr i hi;lia
  |snk i hi e t h d c=>rw[h];exact bZ _
  |nee x y j hj e t h d c=>rw[h,wW];have:=hr y (hn _ (bD hj)).2;lia
noncomputable def isU(n:Nat)(k:Nat):Bool:=decide (k<4*n/\k%4=1)
theorem aAL{g:Nat->Int}{n:Nat}:sm (4*n) g=sm n fun i=>g (4*i)+g (4*i+1)+g (4*i+2)+g (4*i+3):=by
 induction n with
 |zero=>rfl
 |succ n ih=>
  show sm (4*n) g+g (4*n)+g (4*n+1)+g (4*n+2)+g (4*n+3)=sm n (fun i=>g (4*i)+g (4*i+1)+g (4*i+2)+g (4*i+3))+(g (4*n)+g (4*n+1)+g (4*n+2)+g (4*n+3));rw[ih]
  lia
theorem rF{g:Nat->Int}{n:Nat}:∀{j:Nat},sm (n+j) g=sm n g+sm j fun i=>g (n+i)
 |0=>by show sm n g=sm n g+0;lia
 |j+1=>by
  show sm (n+j) g+g (n+j)=sm n g+(sm j (fun i=>g (n+i))+g (n+j));rw[rF];lia
theorem aLU:(sm (net w n es P).m fun k=>if isU n k then(net w n es P).c k else 0)=sm n w.p:=by
 show sm (4*n+es.length) _=_;rw[rF,aAL];rw[m5 (n:=es.length) (fun i hi=>if_neg (by simp[isU];lia)),aOG]
 refine iE fun i hi=>?_
 have h0:isU n (4*i)=false:=by simp[isU]
 have h1:isU n (4*i+1)=true:=by simp[isU];lia
 have h2:isU n (4*i+2)=false:=by simp[isU]
 have h3:isU n (4*i+3)=false:=by simp[isU]
 rw[h0,h1,h2,h3];simp only[b9,if_false,if_true];have:(net w n es P).c (4*i+1)=w.p i:=by
  show(if 4*i+1<4*n/\(4*i+1)%4=1 then w.p ((4*i+1)/4)else P)=_;rw[if_pos (by lia),show(4*i+1)/4=i by lia]
 rw[this];lia
end NF
namespace NF
variable {w:Wk}{n:Nat}{es:List (Nat×Nat)}{P E:Int}{f p q b h:Nat->Int}{a:Int}
noncomputable def pf(E:Int)(b h:Nat->Int)(v:Nat):Int:=if v=0 then 0 else if v=1 then E else if v%2=0 then b (v/2 - 1)else b (v/2 - 1)+h (v/2 - 1)
theorem aER{i:Nat}:pf E b h (2*i+2)=b i:=by
 unfold pf;rw[if_neg (by lia),if_neg (by lia),if_pos (by lia),show(2*i+2)/2 - 1=i by lia]
theorem aFB{i:Nat}:pf E b h (2*i+3)=b i+h i:=by
 unfold pf;rw[if_neg (by lia),if_neg (by lia),if_neg (by lia),show(2*i+3)/2 - 1=i by lia]
theorem aNq:pf E b h 0=0:=rfl
theorem aNj:pf E b h 1=E:=rfl
structure Tim(n:Nat)(es:List (Nat×Nat))(E:Int)(b h:Nat->Int):Prop where
 b0:∀i,i<n->0<=b i
 e:∀i,i<n->b i+h i<=E
 ne:∀x∈es,b x.1+h x.1<=b x.2
theorem aAj(T:Tim n es E b h)(hl:∀i,i<n->w.l i<=h i):∀k,k<(net w n es P).m->isU n k=false->pf E b h ((net w n es P).t k)+(net w n es P).d k<=pf E b h ((net w n es P).h k):=fun k hk hu=>by
 cases pipe hk with
 |src i hi e t h' d c=>rw[t,h',d,aER,aNq];have:=T.b0 i hi;lia
 |usu i hi e t h' d c=>
  have:isU n k=true:=by unfold isU;rw[decide_eq_true_iff];lia
  rw[this]at hu;cases hu
 |lea i hi e t h' d c=>rw[t,h',d,aER,aFB];have:=hl i hi;lia
 |snk i hi e t h' d c=>rw[t,h',d,aFB,aNj];have:=T.e i hi;lia
 |nee x y j hj e t h' d c=>rw[t,h',d,aER,aFB];have:=T.ne _ (bD hj);simp only at this;lia
theorem aCw(hf:Flo (net w n es P) f a)(hc:Cap (net w n es P) f)(hp:Pot (net w n es P) f p)(h0:p 0<=0)(T:Tim n es E b w.l)(h1:E<p 1):a<=sm n w.p:=by
 rw[<-aLU (w:=w) (n:=n) (es:=es) (P:=P)]
 exact cut hf hc hp (isU n) (aAj T fun i _=>bZ _) h0 h1
theorem plenty(hf:Flo (net w n es P) f a)(hc:Cap (net w n es P) f){r:Nat->Int}(hr:∀i,i<n->0<=r i/\r i<n)(he:∀e∈es,r e.1<r e.2)(hn:∀e∈es,e.1<n/\e.2<n)(ha:a<P){k:Nat}(hk:k<(net w n es P).m)(hu:isU n k=false):f k<(net w n es P).c k:=by
 have:=aKi hf hc hr he hn hk;have hP:(net w n es P).c k=P:=by
  show(if k<4*n/\k%4=1 then _ else P)=P;rw[if_neg];intro z;rw[show isU n k=true from decide_eq_true z]at hu;cases hu
 lia
theorem aEh(hp:Pot (net w n es P) f p)(ho:∀k,k<(net w n es P).m->isU n k=false->f k<(net w n es P).c k)(h0:p 0=0)(hn:∀e∈es,e.1<n/\e.2<n):
 (∀i,i<n->0<=p (2*i+2))/\(∀i,i<n->p (2*i+2)+w.l i<=p (2*i+3))/\(∀i,i<n->p (2*i+3)<=p 1)/\∀e∈es,p (2*e.1+3)<=p (2*e.2+2):=by
 have key:∀k,k<(net w n es P).m->isU n k=false->p ((net w n es P).t k)+(net w n es P).d k<=p ((net w n es P).h k):=fun k hk hu=>(hp k hk).1 (ho k hk hu)
 have hm:(net w n es P).m=4*n+es.length:=rfl
 refine⟨fun i hi=>?_,fun i hi=>?_,fun i hi=>?_,fun e he=>?_⟩
 ·have hk:4*i<(net w n es P).m:=by rw[hm];lia
  have:=key (4*i) hk (by simp[isU]);cases pipe hk with
  |src j hj e t h' d c=>obtain rfl:j=i:=by lia
                        rw[t,h',d,h0]at this;lia
  |usu j hj e=>lia
  |lea j hj e=>lia
  |snk j hj e=>lia
  |nee x y j hj e=>lia
 ·have hk:4*i+2<(net w n es P).m:=by rw[hm];lia
  have:=key (4*i+2) hk (by simp[isU]);cases pipe hk with
  |src j hj e=>lia
  |usu j hj e=>lia
  |lea j hj e t h' d c=>obtain rfl:j=i:=by lia
                        rw[t,h',d]at this;exact this
  |snk j hj e=>lia
  |nee x y j hj e=>lia
 ·have hk:4*i+3<(net w n es P).m:=by rw[hm];lia
  have:=key (4*i+3) hk (by simp[isU]);cases pipe hk with
  |src j hj e=>lia
  |usu j hj e=>lia
  |lea j hj e=>lia
  |snk j hj e t h' d c=>obtain rfl:j=i:=by lia
                        rw[t,h',d]at this;lia
  |nee x y j hj e=>lia
 ·obtain⟨j,hj⟩:=bT.mp he;have bo:=(aR.mp hj).1;have hk:4*n+j<(net w n es P).m:=by rw[hm];lia
  have:=key (4*n+j) hk (by unfold isU;rw[decide_eq_false_iff_not];lia);cases pipe hk with
  |src i hi e=>lia
  |usu i hi e=>lia
  |lea i hi e=>lia
  |snk i hi e=>lia
  |nee x y j' jw e' t h' d c=>
   obtain rfl:j'=j:=by lia
   rw[hj]at jw;cases jw;rw[t,h',d]at this;dsimp only;lia
theorem aHK{x:Int}(h:x<=0):pos x=0:=by unfold pos;rw[if_neg (by lia)]
theorem aHg(hq:∀k,k<(net w n es P).m->isU n k=false->p ((net w n es P).t k)+(net w n es P).d k<=p ((net w n es P).h k)):cost (net w n es P) p=sm n fun i=>w.p i*pos (w.u i - (p (2*i+3) - p (2*i+2))):=by
 have z:∀k,k<(net w n es P).m->isU n k=false->(net w n es P).c k*pos ((net w n es P).d k - (p ((net w n es P).h k) - p ((net w n es P).t k)))=0:=fun k hk hu=>by
  have:=hq k hk hu;rw[aHK (by lia),aOt]
 have hm:(net w n es P).m=4*n+es.length:=rfl;unfold cost;show sm (4*n+es.length) _=_;rw[rF,aAL,m5 (n:=es.length) (fun i hi=>z _ (by rw[hm];lia) (by unfold isU;rw[decide_eq_false_iff_not];lia)),aOG]
 refine iE fun i hi=>?_
 rw[z (4*i) (by rw[hm];lia) (by simp[isU]),z (4*i+2) (by rw[hm];lia) (by simp[isU]),z (4*i+3) (by rw[hm];lia) (by simp[isU])];have hk:4*i+1<(net w n es P).m:=by rw[hm];lia
 cases pipe hk with
 |src j hj e=>lia
 |usu j hj e t h' d c=>obtain rfl:j=i:=by lia
                       rw[t,h',d,c];lia
 |lea j hj e=>lia
 |snk j hj e=>lia
 |nee x y j hj e=>lia
end NF
namespace NF
variable {w:Wk}{n:Nat}{es:List (Nat×Nat)}{P E:Int}{f p q b h:Nat->Int}{a x:Int}
structure Good(w:Wk)(n:Nat)(es:List (Nat×Nat))(P:Int)(f:Nat->Int)(a:Int)(p:Nat->Int):Prop where
 flo:Flo (net w n es P) f a
 cap:Cap (net w n es P) f
 pot:Pot (net w n es P) f p
 p0:p 0=0
 ge:∀v,v<2*n+2->0<=p v
theorem Good.pour{r:List (Nat×Bool)}(G:Good w n es P f a p)(wk:Walk (net w n es P) r 0 1)(nd:(r.map (·.1)).Nodup)(tg:Tight (net w n es P) p r)(hx:0<=x)(hr:∀o∈r,x<=rr (net w n es P) f o):Good w n es P (pr r x f) (a+x) p:=
 ⟨G.flo.pour wk,G.cap.pour nd hx hr,G.pot.pour nd tg,G.p0,G.ge⟩
theorem Good.least(G:Good w n es P f a p)(L:Least (net w n es P) (2*n+2) f (fun _=>0) q):Good w n es P f a q/\∀v,v<2*n+2->q v<=p v:=by
 have h:=L.le p (fun v hv=>G.ge v hv) G.pot
 refine⟨⟨G.flo,G.cap,L.pot,?_,L.ge⟩,h⟩
 have h1:=h 0 (by lia);have h2:=L.ge 0 (by lia);rw[G.p0]at h1;try dsimp only at h2
 lia
theorem Good.bound(G:Good w n es P f a p)(T:Tim n es E b w.l)(h1:E<p 1):a<=sm n w.p:=aCw G.flo G.cap G.pot (by rw[G.p0];exact bZ _) T h1
theorem Good.route(G:Good w n es P f a p)(L:Least (net w n es P) (2*n+2) f (fun _=>0) p)(ho:∀k,k<(net w n es P).m->isU n k=false->f k<(net w n es P).c k)(hn:∀e∈es,e.1<n/\e.2<n)(hl:∀i,i<n->0<=w.l i)(h0:0<n)
 (R:Nat->Prop)(r0:R 0)(hc:∀o,Open (net w n es P) f o->R (rt (net w n es P) o)->p (rt (net w n es P) o)+rd (net w n es P) o=p (rh (net w n es P) o)->R (rh (net w n es P) o)):R 1:=by
 obtain⟨q1,q2,q3,q4⟩:=aEh G.pot ho G.p0 hn;have hm:(net w n es P).m=4*n+es.length:=rfl;have fw:∀k,k<(net w n es P).m->isU n k=false->R ((net w n es P).t k)->p ((net w n es P).t k)+(net w n es P).d k=p ((net w n es P).h k)->R ((net w n es P).h k):=fun k hk hu hr ht=>by
  have:=hc (k,true) ⟨hk,by unfold rr;simp only[if_true];have:=ho k hk hu;lia⟩;simp only[rt,rh,rd,if_true]at this
  exact this hr ht
 have hb:∀i,i<n->p (2*i+2)=0->R (2*i+2):=fun i hi hz=>by
  have hk:4*i<(net w n es P).m:=by rw[hm];lia
  have:=fw (4*i) hk (by simp[isU]);cases pipe hk with
  |src j hj e t h' d c=>
   obtain rfl:j=i:=by lia
   rw[t,h',d,G.p0,hz]at this
   exact this r0 rfl
  |usu j hj e=>lia
  |lea j hj e=>lia
  |snk j hj e=>lia
  |nee x y j hj e=>lia
 have hd:∀i,i<n->p (2*i+3)=0->R (2*i+3):=fun i hi hz=>by
  have g1:=q1 i hi;have g2:=q2 i hi;have g3:=hl i hi;have hk:4*i+2<(net w n es P).m:=by rw[hm];lia
  have:=fw (4*i+2) hk (by simp[isU]);cases pipe hk with
  |src j hj e=>lia
  |usu j hj e=>lia
  |lea j hj e t h' d c=>
   obtain rfl:j=i:=by lia
   rw[t,h',d]at this
   exact this (hb j hi (by lia)) (by lia)
  |snk j hj e=>lia
  |nee x y j hj e=>lia
 refine reach L (aAY hn) (by lia) R (fun v hv hz=>?_) hc
 try dsimp only at hz
 by_cases v0:v=0
 ·rw[v0];exact r0
 ·by_cases v1:v=1
  ·subst v1;have g1:=q1 0 h0;have g2:=q2 0 h0;have g3:=q3 0 h0;have g4:=hl 0 h0;have hk:3<(net w n es P).m:=by rw[hm];lia
   have:=fw 3 hk (by simp[isU]);cases pipe hk with
   |src j hj e=>lia
   |usu j hj e=>lia
   |lea j hj e=>lia
   |snk j hj e t h' d c=>
    obtain rfl:j=0:=by lia
    rw[t,h',d]at this
    exact this (hd 0 h0 (by lia)) (by lia)
   |nee x y j hj e=>lia
  ·by_cases ve:v%2=0
   ·obtain⟨i,rfl⟩:∃i,v=2*i+2:=⟨v/2 - 1,by lia⟩
    exact hb i (by lia) hz
   ·obtain⟨i,rfl⟩:∃i,v=2*i+3:=⟨v/2 - 1,by lia⟩
    exact hd i (by lia) hz
theorem Good.price(G:Good w n es P f a p)(ho:∀k,k<(net w n es P).m->isU n k=false->f k<(net w n es P).c k):len (net w n es P) f - a*p 1=sm n fun i=>w.p i*pos (w.u i - (p (2*i+3) - p (2*i+2))):=by
 have:=strong G.flo G.cap G.pot;rw[G.p0,aOj]at this;rw[this]
 exact aHg fun k hk hu=>(G.pot k hk).1 (ho k hk hu)
theorem best(hf:Flo (net w n es P) f a)(hc:Cap (net w n es P) f)(T:Tim n es E b h)(hl:∀i,i<n->w.l i<=h i):len (net w n es P) f - a*E<=sm n fun i=>w.p i*pos (w.u i - h i):=by
 have:=weak hf hc (pf E b h);rw[aNq,aNj,aOj,aHg (aAj T hl)]at this
 refine dZ this (aPw (iE fun i _=>?_))
 rw[aER,aFB,show b i+h i - b i=h i by lia]
end NF
namespace NF
variable{e:(Nat×Nat)×Int}{L:Fl}
noncomputable abbrev Fl:=List ((Nat×Nat)×Int)
noncomputable def sl(L:Fl)(g:Nat×Nat->Int):Int:=(L.map fun e=>e.2*g e.1).sum
theorem aL6{g:Nat×Nat->Int}:sl [] g=0:=rfl
theorem mF{g:Nat×Nat->Int}:sl (e::L) g=e.2*g e.1+sl L g:=by unfold sl;rw[aM,d7]
def Con(L:Fl)(a:Int):Prop:=∀p:Nat->Int,sl L (fun s=>p s.2 - p s.1)=a*(p 1 - p 0)
theorem aHV{g:Nat×Nat->Int}:∀{L:Fl},(∀e∈L,0<=e.2*g e.1)->0<=sl L g
 | [],_=>bZ _
 |e::L,h=>by
  rw[mF];have:=h e bJ;have:=aHV fun e he=>h e (bA _ he)
  lia
theorem aCW{g:Nat×Nat->Int}:∀{L:Fl},(∀e∈L,0<=e.2*g e.1)->∀e∈L,e.2*g e.1<=sl L g
 | [],_,_,he=>by cases he
 |e::L,h,e',he=>by
  rw[mF];have h0:=aHV fun e he=>h e (bA _ he)
  rcases bE.mp he with rfl|he
  ·lia
  ·have:=aCW (fun e he=>h e (bA _ he)) e' he;have:=h e bJ
   lia
theorem aIX{a:Int}(hc:Con L a)(h0:∀e∈L,0<=e.2){v:Nat}(hv0:v≠0)(lq:v≠1)(he:e∈L)(hv:e.1.2=v)(hp:0<e.2):∃e'∈L,e'.1.1=v/\0<e'.2:=by
 have hh:¬∀e'∈L,e'.1.1=v->¬0<e'.2:=fun no=>by
  have k:=hc fun u=>if u=v then 1 else 0
  rw[if_neg (Ne.symm lq),if_neg (Ne.symm hv0)]at k;have nn:∀e'∈L,0<=e'.2*((if e'.1.2=v then(1:Int)else 0) - if e'.1.1=v then 1 else 0):=fun e' iy=>by
   have z:=h0 e' iy;by_cases ht:e'.1.1=v
   ·have:e'.2=0:=by have:=no e' iy ht;lia
    rw[this,dY];exact bZ _
   ·rw[if_neg ht,aOj];split
    ·lia
    ·lia
  have:=aCW (g:=fun s=>(if s.2=v then(1:Int)else 0) - if s.1=v then 1 else 0) nn e he;rw[if_pos hv]at this;by_cases ht:e.1.1=v
  ·exact no e he ht hp
  ·rw[if_neg ht]at this;simp only[aPY,aOt]at k;have k':sl L (fun s=>(if s.2=v then(1:Int)else 0) - if s.1=v then 1 else 0)=0:=k
   lia
 apply cS;intro h
 exact hh fun e' iy ht hp'=>h ⟨e',iy,ht,hp'⟩
theorem aIt{a:Int}(hc:Con L a)(h0:∀e∈L,0<=e.2)(hz:∀e∈L,e.1.2≠0)(ha:0<a):∃e∈L,e.1.1=0/\0<e.2:=by
 apply cS;intro h;have k:=hc fun u=>if u=0 then 1 else 0
 rw[if_neg (by lia),if_pos rfl]at k;have k':sl L (fun s=>(if s.2=0 then(1:Int)else 0) - if s.1=0 then 1 else 0)=a*(0 - 1):=k;have:0<=sl L (fun s=>(if s.2=0 then(1:Int)else 0) - if s.1=0 then 1 else 0):=aHV fun e he=>by
  rw[if_neg (hz e he)];by_cases ht:e.1.1=0
  ·have z:=h0 e he;have:¬0<e.2:=fun hp=>h ⟨e,he,ht,hp⟩
   have:e.2=0:=by lia
   rw[this,dY];exact bZ _
  ·rw[if_neg ht];simp
 lia
noncomputable def tk(x:Int)(s:Nat×Nat)(L:Fl):Fl:=L.map fun e=>if e.1=s then(e.1,e.2 - x)else e
theorem aKE{x:Int}{s:Nat×Nat}{g:Nat×Nat->Int}:∀{L:Fl},(L.map (·.1)).Nodup->s∈L.map (·.1)->sl (tk x s L) g=sl L g - x*g s
 | [],_,h=>by cases h
 |e::L,hn,h=>by
  rw[aM,bX]at hn;unfold tk;rw[aM,mF,mF];by_cases hs:e.1=s
  ·rw[if_pos hs];have hk:(L.map fun e=>if e.1=s then(e.1,e.2 - x)else e)=L:=by
    conv=>rhs;rw[<-List.map_id L]
    refine cI fun e' iy=>?_
    rw[if_neg fun z=>hn.1 (by rw[hs,<-z];exact cM iy)];rfl
   rw[hk];subst hs;dsimp only;rw[aOB];lia
  ·rw[if_neg hs];have hm:s∈L.map (·.1):=by
    rcases bE.mp h with z|z
    ·exact absurd z.symm hs
    ·exact z
   have:=aKE (x:=x) (g:=g) hn.2 hm;unfold tk at this;rw[this];lia
theorem u4{x:Int}{s:Nat×Nat}:(tk x s L).map (·.1)=L.map (·.1):=by
 unfold tk;rw[b7]
 refine cI fun e _=>?_
 show(if e.1=s then(e.1,e.2 - x)else e).1=e.1;split<;>rfl
end NF
namespace NF
variable {L:Fl}{a x:Int}
def SW:List (Nat×Nat)->Nat->Nat->Prop
 | [],u,v=>u=v
 |s::r,u,v=>s.1=u/\SW r s.2 v
def tks(x:Int):List (Nat×Nat)->Fl->Fl
 | [],L=>L
 |s::r,L=>tks x r (tk x s L)
theorem nH:∀{r:List (Nat×Nat)}{L:Fl},(tks x r L).map (·.1)=L.map (·.1)
 | [],_=>rfl
 |s::r,L=>by unfold tks;rw[nH,u4]
theorem aG0{p:Nat->Int}:∀{r:List (Nat×Nat)}{L:Fl}{u v:Nat},(L.map (·.1)).Nodup->(∀s∈r,s∈L.map (·.1))->SW r u v->sl (tks x r L) (fun s=>p s.2 - p s.1)=sl L (fun s=>p s.2 - p s.1) - x*(p v - p u)
 | [],L,u,v,_,_,h=>by cases h;unfold tks;rw[aPY,aOt,aOj]
 |s::r,L,u,v,hn,hm,⟨h1,h2⟩=>by
  unfold tks;rw[aG0 (by rw[u4];exact hn) (fun s' hs=>by rw[u4];exact hm s' (bA _ hs)) h2,aKE hn (hm s bJ)];subst h1;rw[dD,dD,dD];lia
theorem Con.take{r:List (Nat×Nat)}(hc:Con L a)(hn:(L.map (·.1)).Nodup)(hm:∀s∈r,s∈L.map (·.1))(w:SW r 0 1):Con (tks x r L) (a - x):=fun p=>by
 rw[aG0 hn hm w,hc p,aOB]
noncomputable def at_(L:Fl)(s:Nat×Nat):Int:=(L.lookup s).getD 0
theorem aK0{s s':Nat×Nat}:∀{L:Fl},at_ (tk x s L) s'=if s'=s/\s∈L.map (·.1)then at_ L s' - x else at_ L s'
 | []=>by unfold tk at_;simp
 |e::L=>by
  have ih:=aK0 (s:=s) (s':=s') (L:=L);unfold tk at_ at ih|-;rw[aM];by_cases h1:s'=e.1
  ·subst h1;have hl:dJ e.1 (e::L)=some e.2:=by rw[b4,beq_self_eq_true]
   by_cases h2:e.1=s
   ·subst h2;rw[if_pos rfl,if_pos ⟨rfl,by simp⟩,hl,b4,beq_self_eq_true];rfl
   ·have:¬(e.1=s/\s∈(e::L).map (·.1)):=fun z=>h2 z.1
    rw[if_neg h2,if_neg this,hl,b4,beq_self_eq_true]
  ·have hb:(s'==e.1)=false:=beq_eq_false_iff_ne.mpr h1;have hl:dJ s' ((if e.1=s then(e.1,e.2 - x)else e)::L.map fun e=>if e.1=s then(e.1,e.2 - x)else e)=dJ s' (L.map fun e=>if e.1=s then(e.1,e.2 - x)else e):=by
    rw[b4];split
    ·rename_i z;exfalso;by_cases h2:e.1=s
     ·rw[if_pos h2]at z;rw[hb]at z;cases z
     ·rw[if_neg h2]at z;rw[hb]at z;cases z
    ·rfl
   rw[hl,ih];rw[show dJ s' (e::L)=dJ s' L from by rw[b4,hb]];by_cases h3:s'=s
   ·subst h3;simp only[true_and,aM,bE,h1,false_or]
   ·simp only[h3,false_and]
theorem aGt{s':Nat×Nat}:∀{r:List (Nat×Nat)}{L:Fl},(∀s∈r,s∈L.map (·.1))->at_ (tks x r L) s'=at_ L s' - x*(r.count s':Int)
 | [],L,_=>by unfold tks;simp
 |s::r,L,hm=>by
  unfold tks;rw[aGt (fun s' hs=>by rw[u4];exact hm s' (bA _ hs)),aK0,eN];by_cases h:s'=s
  ·subst h;rw[if_pos ⟨rfl,hm s' bJ⟩];simp only[beq_self_eq_true,if_true,Int.natCast_add,aPG]
   lia
  ·rw[if_neg (fun z=>h z.1),if_neg (by simpa using Ne.symm h)];simp
theorem aJF(hc:Con L a)(h0:∀e∈L,0<=e.2)(ρ:Nat->Int)(hr:∀e∈L,ρ e.1.1<ρ e.1.2){e:(Nat×Nat)×Int}(he:e∈L)(h1:ρ 0<ρ e.1.2)(h2:ρ e.1.2<=ρ 1):e.2<=a:=by
 have k:=hc fun v=>if ρ e.1.2<=ρ v then 1 else 0
 rw[if_pos h2,if_neg (aP7.mpr h1)]at k;have k':sl L (fun s=>(if ρ e.1.2<=ρ s.2 then(1:Int)else 0) - if ρ e.1.2<=ρ s.1 then 1 else 0)=a*(1 - 0):=k;have:=aCW (L:=L) (g:=fun s=>(if ρ e.1.2<=ρ s.2 then(1:Int)else 0) - if ρ e.1.2<=ρ s.1 then 1 else 0) (fun e' iy=>by
  refine dA (h0 e' iy) ?_
  have:=hr e' iy;split<;>split<;>lia) e he
 have hl:=hr e he;rw[if_pos (bZ _),if_neg (by lia)]at this
 lia
end NF
namespace NF
variable {N:Nt}{f:Nat->Int}{a v:Int}{s:Nat×Nat}{g:Nat×Nat->Int}
noncomputable def ad(s:Nat×Nat)(v:Int):Fl->Fl
 | []=>[(s,v)]
 |e::L=>if e.1=s then(e.1,e.2+v)::L else e::ad s v L
theorem aKZ:∀{L:Fl},sl (ad s v L) g=sl L g+v*g s
 | []=>by unfold ad;rw[mF,aL6];dsimp only;lia
 |e::L=>by
  unfold ad;split
  ·rename_i h;rw[mF,mF];subst h;dsimp only;rw[aOd];lia
  ·rw[mF,mF,aKZ];lia
theorem aCA{s':Nat×Nat}:∀{L:Fl},s'∈(ad s v L).map (·.1)↔s'=s\/s'∈L.map (·.1)
 | []=>by unfold ad;simp
 |e::L=>by
  unfold ad;split
  ·rename_i h;subst h;simp only[aM,bE];constructor
   ·exact .inr
   ·rintro(h|h)
    ·exact .inl h
    ·exact h
  ·simp only[aM,bE];rw[aCA];constructor
   ·rintro(h|h|h)
    ·exact .inr (.inl h)
    ·exact .inl h
    ·exact .inr (.inr h)
   ·rintro(h|h|h)
    ·exact .inr (.inl h)
    ·exact .inl h
    ·exact .inr (.inr h)
theorem aBl:∀{L:Fl},(L.map (·.1)).Nodup->((ad s v L).map (·.1)).Nodup
 | [],_=>by unfold ad;simp
 |e::L,h=>by
  unfold ad;rw[aM,bX]at h;split
  ·rw[aM,bX];exact h
  ·rename_i hs;rw[aM,bX]
   refine⟨fun z=>?_,aBl h.2⟩
   rcases aCA.mp z with z|z
   ·exact hs z
   ·exact h.1 z
theorem yS(hv:0<=v):∀{L:Fl},(∀e∈L,0<=e.2)->∀e∈ad s v L,0<=e.2
 | [],_,e,he=>by
   unfold ad at he;rw[bU.mp he];exact hv
 |e'::L,h,e,he=>by
  unfold ad at he;split at he
  ·rcases bE.mp he with rfl|he
   ·have:=h e' bJ;dsimp only;lia
   ·exact h e (bA _ he)
  ·rcases bE.mp he with rfl|he
   ·exact h e bJ
   ·exact yS hv (fun e he=>h e (bA _ he)) e he
theorem aKY{s':Nat×Nat}:∀{L:Fl},at_ (ad s v L) s'=at_ L s'+if s'=s then v else 0
 | []=>by
   unfold ad at_;by_cases h:s'=s
   ·rw[b4,beq_iff_eq.mpr h,if_pos h];simp
   ·rw[b4,beq_eq_false_iff_ne.mpr h,if_neg h];simp
 |e::L=>by
  have ih:=aKY (s':=s') (L:=L);unfold ad;by_cases h1:s'=e.1
  ·subst h1;have l1:∀M:Fl,at_ (e::M) e.1=e.2:=fun M=>by unfold at_;rw[b4,beq_self_eq_true];rfl
   by_cases h2:e.1=s
   ·rw[if_pos h2,if_pos h2,l1];unfold at_;rw[b4,beq_self_eq_true];rfl
   ·rw[if_neg h2,if_neg h2,l1,l1];lia
  ·have l1:∀(y:Int)(M:Fl),at_ ((e.1,y)::M) s'=at_ M s':=fun y M=>by unfold at_;rw[b4,beq_eq_false_iff_ne.mpr h1]
   have l2:∀M:Fl,at_ (e::M) s'=at_ M s':=fun M=>l1 e.2 M
   by_cases h2:e.1=s
   ·rw[if_pos h2,l1,l2,if_neg (fun z=>h1 (z.trans h2.symm))];lia
   ·rw[if_neg h2,l2,l2,ih]
def stp(N:Nt)(f:Nat->Int):Nat->Fl
 |0=>[]
 |k+1=>ad (N.t k,N.h k) (f k) (stp N f k)
theorem aGo:∀{k:Nat},sl (stp N f k) g=sm k fun j=>f j*g (N.t j,N.h j)
 |0=>rfl
 |k+1=>by
  show sl (ad _ _ _) g=sm k _+_;rw[aKZ,aGo]
theorem aMI(hf:Flo N f a):Con (stp N f N.m) a:=fun p=>by rw[aGo];exact hf p
theorem sW:∀{k:Nat},((stp N f k).map (·.1)).Nodup
 |0=>List.Pairwise.nil
 |k+1=>aBl sW
theorem xP(h:∀k,k<N.m->0<=f k):∀{k:Nat},k<=N.m->∀e∈stp N f k,0<=e.2
 |0,_,e,he=>by cases he
 |k+1,hk,e,he=>yS (h k (by lia)) (xP h (by lia)) e he
theorem aGr{s:Nat×Nat}:∀{k:Nat},at_ (stp N f k) s=sm k fun j=>if s=(N.t j,N.h j)then f j else 0
 |0=>rfl
 |k+1=>by
  show at_ (ad _ _ _) s=sm k _+_;rw[aKY,aGr]
theorem v9{s:Nat×Nat}:∀{k:Nat},s∈(stp N f k).map (·.1)->∃j,j<k/\s=(N.t j,N.h j)
 |0,h=>by cases h
 |k+1,h=>by
  rcases aCA.mp h with h|h
  ·exact⟨k,by lia,h⟩
  ·obtain⟨j,hj,e⟩:=v9 h
   exact⟨j,by lia,e⟩
end NF
namespace NF
variable {w:Wk}{n:Nat}{es:List (Nat×Nat)}{P:Int}{f p:Nat->Int}{a:Int}
theorem aNG:len (net w n es P) f=sm n fun i=>f (4*i+1)*w.u i+f (4*i+2)*w.l i:=by
 have hm:(net w n es P).m=4*n+es.length:=rfl;unfold len;show sm (4*n+es.length) _=_;rw[rF,aAL,m5 (n:=es.length) (fun j hj=>?_),aOG]
 ·refine iE fun i hi=>?_
  have e0:(net w n es P).d (4*i)=0:=by
   cases pipe (w:=w) (es:=es) (P:=P) (show 4*i<(net w n es P).m by rw[hm];lia)with
   |src j hj e t h d c=>exact d
   |usu j hj e=>lia
   |lea j hj e=>lia
   |snk j hj e=>lia
   |nee x y j hj e=>lia
  have e1:(net w n es P).d (4*i+1)=w.u i:=by
   cases pipe (w:=w) (es:=es) (P:=P) (show 4*i+1<(net w n es P).m by rw[hm];lia)with
   |src j hj e=>lia
   |usu j hj e t h d c=>obtain rfl:j=i:=by lia
                        exact d
   |lea j hj e=>lia
   |snk j hj e=>lia
   |nee x y j hj e=>lia
  have e2:(net w n es P).d (4*i+2)=w.l i:=by
   cases pipe (w:=w) (es:=es) (P:=P) (show 4*i+2<(net w n es P).m by rw[hm];lia)with
   |src j hj e=>lia
   |usu j hj e=>lia
   |lea j hj e t h d c=>obtain rfl:j=i:=by lia
                        exact d
   |snk j hj e=>lia
   |nee x y j hj e=>lia
  have e3:(net w n es P).d (4*i+3)=0:=by
   cases pipe (w:=w) (es:=es) (P:=P) (show 4*i+3<(net w n es P).m by rw[hm];lia)with
   |src j hj e=>lia
   |usu j hj e=>lia
   |lea j hj e=>lia
   |snk j hj e t h d c=>exact d
   |nee x y j hj e=>lia
  rw[e0,e1,e2,e3];lia
 ·have:(net w n es P).d (4*n+j)=0:=by
   cases pipe (w:=w) (es:=es) (P:=P) (show 4*n+j<(net w n es P).m by rw[hm];lia)with
   |src i hi e=>lia
   |usu i hi e=>lia
   |lea i hi e=>lia
   |snk i hi e=>lia
   |nee x y i hi e t h d c=>exact d
  rw[this,aOt]
theorem aI9{f1 f2 u l pr:Int}(h1:0<=f1)(h2:f1<=pr)(h3:0<=f2)(h:0<f2->f1=pr\/u=l):f1*u+f2*l=if f1+f2<=pr then(f1+f2)*u else pr*u+(f1+f2 - pr)*l:=by
 by_cases z:f2=0
 ·subst z;rw[aOG,if_pos h2,dY,aOG]
 ·rcases h (by lia)with e|e
  ·subst e;rw[if_neg (by lia),show f1+f2 - f1=f2 by lia]
  ·subst e;split
   ·rw[aOd]
   ·rw[<-aOd,<-aOd];congr 1;lia
theorem aAf(hc:Cap (net w n es P) f)(hp:Pot (net w n es P) f p)(gz:∀i,i<n->w.l i<=w.u i){i:Nat}(hi:i<n):0<f (4*i+2)->f (4*i+1)=w.p i\/w.u i=w.l i:=fun h2=>by
 have hm:(net w n es P).m=4*n+es.length:=rfl;have k1:4*i+1<(net w n es P).m:=by rw[hm];lia
 have k2:4*i+2<(net w n es P).m:=by rw[hm];lia
 have a1:=hp _ k1;have a2:=(hp _ k2).2 h2;have b1:=(hc _ k1).2;have hl:=gz i hi;cases pipe k2 with
 |src j hj e=>lia
 |usu j hj e=>lia
 |lea j hj e t h d c=>
  obtain rfl:j=i:=by lia
  rw[t,h,d]at a2;cases pipe k1 with
  |src j' jw e'=>lia
  |usu j' jw e' t' h' d' c'=>
   obtain rfl:j'=j:=by lia
   rw[t',h',d',c']at a1;rw[c']at b1;by_cases z:f (4*j'+1)<w.p j'
   ·have:=a1.1 z
    exact .inr (by lia)
   ·exact .inl (by lia)
  |lea j' jw e'=>lia
  |snk j' jw e'=>lia
  |nee x y j' jw e'=>lia
 |snk j hj e=>lia
 |nee x y j hj e=>lia
noncomputable def thr(f:Nat->Int)(i:Nat):Int:=f (4*i+1)+f (4*i+2)
theorem aHy(G:Good w n es P f a p)(gz:∀i,i<n->w.l i<=w.u i):len (net w n es P) f=sm n fun i=>if thr f i<=w.p i then thr f i*w.u i else w.p i*w.u i+(thr f i - w.p i)*w.l i:=by
 have hm:(net w n es P).m=4*n+es.length:=rfl;rw[aNG]
 refine iE fun i hi=>?_
 have k1:4*i+1<(net w n es P).m:=by rw[hm];lia
 have k2:4*i+2<(net w n es P).m:=by rw[hm];lia
 have c1:=G.cap _ k1;have c2:=G.cap _ k2;have hP:(net w n es P).c (4*i+1)=w.p i:=by
  show(if 4*i+1<4*n/\(4*i+1)%4=1 then w.p ((4*i+1)/4)else P)=_;rw[if_pos (by lia),show(4*i+1)/4=i by lia]
 rw[hP]at c1
 exact aI9 c1.1 c1.2 c2.1 (aAf G.cap G.pot gz hi)
end NF
namespace NF
variable {w:Wk}{n:Nat}{es:List (Nat×Nat)}{P P':Int}{f f' p q m:Nat->Int}{a a' e:Int}
theorem aDo(G:Good w n es P f a p)(G':Good w n es P f' a' q)(h1:p 1=e)(h2:q 1=e):len (net w n es P) f - a*e=len (net w n es P) f' - a'*e:=by
 have s1:=strong G.flo G.cap G.pot;have s2:=strong G'.flo G'.cap G'.pot;have w1:=weak G.flo G.cap q;have w2:=weak G'.flo G'.cap p;rw[G.p0,h1,aOj]at s1 w2;rw[G'.p0,h2,aOj]at s2 w1
 lia
theorem Good.amid(G:Good w n es P f a m)(G':Good w n es P f a q)(h1:m 1<=e)(h2:e<=q 1):∃p,Good w n es P f a p/\p 1=e:=by
 refine⟨fun v=>if m v<q v - (q 1 - e)then q v - (q 1 - e)else m v,⟨G.flo,G.cap,aIy G.pot G'.pot _,?_,fun v hv=>?_⟩,?_⟩
 ·show(if m 0<q 0 - (q 1 - e)then q 0 - (q 1 - e)else m 0)=0;rw[G.p0,G'.p0,if_neg (by lia)]
 ·have:=G.ge v hv;show 0<=if m v<q v - (q 1 - e)then q v - (q 1 - e)else m v
  split<;>lia
 ·show(if m 1<q 1 - (q 1 - e)then q 1 - (q 1 - e)else m 1)=e;split<;>lia
end NF
namespace NF
variable {N:Nt}{n:Nat}{f st x p:Nat->Int}
variable{o:Nat×Bool}{r:List (Nat×Bool)}
structure Ris(N:Nt)(n:Nat)(f st x:Nat->Int):Prop where
 ge:∀v,v<n->st v<=x v
 le:∀q,(∀v,v<n->st v<=q v)->Pot N f q->∀v,v<n->x v<=q v
theorem Ris.start:Ris N n f st st:=⟨fun _ _=>bZ _,fun q h _=>h⟩
theorem Ris.raise(R:Ris N n f st x)(ho:Open N f o)(hi:rt N o<n)(hr:x (rh N o)<x (rt N o)+rd N o):Ris N n f st (up x (rh N o) (x (rt N o)+rd N o)):=by
 refine⟨fun v hv=>?_,fun q hq hp=>aH2 hp ho (R.le q hq hp) hi⟩
 have:=R.ge v hv;unfold up;split
 ·rename_i z;subst z;lia
 ·exact this
theorem Ris.done(R:Ris N n f st x)(h:∀o,Open N f o->x (rt N o)+rd N o<=x (rh N o)):Least N n f st x:=⟨R.ge,mC.mpr h,R.le⟩
theorem aL7{n:Nat}{x:Nat->Int}{k:Nat}{v:Int}(hk:k<n):sm n (up x k v)=sm n x+(v - x k):=by
 have:=aKC (f:=x) (g:=fun _=>1) (v:=v) hk;simpa using this
theorem Ris.sum_le(R:Ris N n f st x){q:Nat->Int}(hq:∀v,v<n->st v<=q v)(hp:Pot N f q):sm n x<=sm n q:=zM fun v hv=>R.le q hq hp v hv
theorem y0(hh:rh N o<n)(hr:x (rh N o)<x (rt N o)+rd N o):sm n x<sm n (up x (rh N o) (x (rt N o)+rd N o)):=by
 rw[aL7 hh];lia
structure Rte(N:Nt)(f p:Nat->Int)(r:List (Nat×Bool))(v:Nat):Prop where
 wk:Walk N r 0 v
 tg:Tight N p r
 op:∀o∈r,Open N f o
 nd:(0::r.map (rh N)).Nodup
theorem Walk.snoc:∀{r:List (Nat×Bool)}{u v:Nat}{o:Nat×Bool},Walk N r u v->o.1<N.m->rt N o=v->Walk N (r++[o]) u (rh N o)
 | [],u,v,o,h,h1,h2=>by cases h;exact⟨h1,h2,rfl⟩
 |e::r,u,v,o,⟨a,b,c⟩,h1,h2=>⟨a,b,Walk.snoc c h1 h2⟩
theorem Rte.nil:Rte N f p [] 0:=⟨rfl,(fun e h=>by cases h),(fun e h=>by cases h),by simp⟩
theorem Rte.snoc{v:Nat}(R:Rte N f p r v)(ho:Open N f o)(ht:rt N o=v)(tg:p (rt N o)+rd N o=p (rh N o))(hn:rh N o∉0::r.map (rh N)):Rte N f p (r++[o]) (rh N o):=by
 refine⟨R.wk.snoc ho.1 ht,fun e he=>?_,fun e he=>?_,?_⟩
 ·rcases bM.mp he with he|he
  ·exact R.tg e he
  ·rw[bU.mp he];exact tg
 ·rcases bM.mp he with he|he
  ·exact R.op e he
  ·rw[bU.mp he];exact ho
 ·rw[bQ,<-aV]
  refine dX.mpr ⟨R.nd,by simp,fun a ha b hb=>?_⟩
  simp only[aM,bC,bU]at hb;rintro rfl;subst hb
  exact hn ha
theorem wL:∀{r:List (Nat×Bool)}{u v:Nat},Walk N r u v->(u::r.map (rh N)).Nodup->(r.map (·.1)).Nodup
 | [],_,_,_,_=>List.Pairwise.nil
 |e::r,u,v,⟨_,h2,h3⟩,hn=>by
  rw[aM,bX]at hn;rw[aM,bX]
  refine⟨fun z=>?_,wL h3 hn.2⟩
  obtain⟨e',iy,z⟩:=bL.mp z;have hm:rh N e'∈r.map (rh N):=cM iy;have h4:=(bX.mp hn.2).1;by_cases hb:e'.2=e.2
  ·have:e'=e:=aP1 z hb;subst this
   exact h4 hm
  ·have:rh N e'=rt N e:=by
    unfold rh rt;rw[z];cases h5:e'.2<;>cases h6:e.2<;>simp_all
   rw[this,h2]at hm
   exact hn.1 (bA _ hm)
theorem Rte.pipes{v:Nat}(R:Rte N f p r v):(r.map (·.1)).Nodup:=wL R.wk R.nd
end NF
namespace NF
variable {n:Nat}{es:List (Nat×Nat)}
noncomputable def od{α:Type}:List α->List α
 |_::y::r=>y::od r
 |_=>[]
inductive Ky(n:Nat)(es:List (Nat×Nat))(s:Nat×Nat):Prop where
 |src (i:Nat) (hi:i<n) (e:s=(0,2*i+2))
 |wk (i:Nat) (hi:i<n) (e:s=(2*i+2,2*i+3))
 |snk (i:Nat) (hi:i<n) (e:s=(2*i+3,1))
 |nee (x y:Nat) (h:(x,y)∈es) (e:s=(2*x+3,2*y+2))
theorem aM7{w:Wk}{P:Int}{f:Nat->Int}{s:Nat×Nat}(h:s∈(stp (net w n es P) f (net w n es P).m).map (·.1)):Ky n es s:=by
 obtain⟨j,hj,rfl⟩:=v9 h;cases pipe hj with
 |src i hi e t h d c=>exact .src i hi (by rw[t,h])
 |usu i hi e t h d c=>exact .wk i hi (by rw[t,h])
 |lea i hi e t h d c=>exact .wk i hi (by rw[t,h])
 |snk i hi e t h d c=>exact .snk i hi (by rw[t,h])
 |nee x y i hi e t h d c=>exact .nee x y (bD hi) (by rw[t,h])
noncomputable def stw(i:Nat):Nat×Nat:=(2*i+2,2*i+3)
def Chn(es:List (Nat×Nat)):Option Nat->List Nat->Prop
 |_,[]=>True
 |b,i::r=>(∀a,b=some a->(a,i)∈es)/\Chn es (some i) r
theorem aKx{i j:Nat}(h:stw i=stw j):i=j:=by
 unfold stw at h;have:=(aP8.inj h).1
 lia
theorem aIh:∀(r:List (Nat×Nat))(b:Option Nat),SW r (match b with|none=>0|some a=>2*a+3) 1->(∀s∈r,Ky n es s)->
 ∃is:List Nat,od r=is.map stw/\(∀i∈is,i<n)/\Chn es b is/\(b=none->is≠[])/\∀i,r.count (stw i)=is.count i
 | [],b,h,_=>by
   exfalso;have h:(match b with|none=>0|some a=>2*a+3)=1:=h;cases b<;>simp at h
 | [s],b,⟨h1,h2⟩,hk=>by
   have h2:s.2=1:=h2
   refine⟨[],rfl,by simp,trivial,fun hb=>?_,fun i=>?_⟩
   ·subst hb;exfalso;cases hk s bJ with
    |src i hi e=>rw[e]at h2;simp at h2
    |wk i hi e=>rw[e]at h1;simp at h1
    |snk i hi e=>rw[e]at h1;simp at h1
    |nee x y h e=>rw[e]at h1;simp at h1
   ·rw[aPf,List.count_nil,if_neg];intro z;have:s=stw i:=by simpa using z
    rw[this]at h2;unfold stw at h2;simp at h2
 |s::s2::r,b,⟨h1,h2,h3⟩,hk=>by
  have k1:=hk s bJ;have k2:=hk s2 (bA _ bJ);have key:∃i,i<n/\s2=stw i/\(∀a,b=some a->(a,i)∈es)/\∀j,s≠stw j:=by
   cases k1 with
   |src i hi e=>
    subst e;have hb:b=none:=by cases b<;>simp_all
    cases k2 with
    |src j hj e=>subst e;simp at h2
    |wk j hj e=>
     subst e
     refine⟨j,hj,rfl,fun a ha=>?_,fun j' z=>?_⟩
     ·rw[hb]at ha;cases ha
     ·unfold stw at z;simp at z
    |snk j hj e=>subst e;simp at h2;lia
    |nee x y h e=>subst e;simp at h2;lia
   |wk i hi e=>subst e;cases b<;>simp at h1<;>lia
   |snk i hi e=>
    subst e;cases k2 with
    |src j hj e=>subst e;simp at h2
    |wk j hj e=>subst e;simp at h2
    |snk j hj e=>subst e;simp at h2
    |nee x y h e=>subst e;simp at h2
   |nee x y h e=>
    subst e;cases k2 with
    |src j hj e=>subst e;simp at h2
    |wk j hj e=>
     subst e;have hjy:j=y:=by simp at h2;lia
     subst hjy
     refine⟨j,hj,rfl,fun a ha=>?_,fun j' z=>?_⟩
     ·subst ha;have:x=a:=by simp at h1;lia
      subst this;exact h
     ·unfold stw at z;simp at z;lia
    |snk j hj e=>subst e;simp at h2;lia
    |nee x' y' h' e=>subst e;simp at h2;lia
  obtain⟨i,hi,e2,hb,hs⟩:=key;subst e2;obtain⟨is,q1,q2,q3,_,q5⟩:=aIh r (some i) h3 fun s hs=>hk s (bA _ (bA _ hs))
  refine⟨i::is,?_,?_,⟨hb,q3⟩,fun _=>by simp,fun j=>?_⟩
  ·show stw i::od r=_;rw[q1];rfl
  ·intro j hj;rcases bE.mp hj with rfl|hj
   ·exact hi
   ·exact q2 j hj
  ·have c1:(s==stw j)=false:=beq_eq_false_iff_ne.mpr (hs j);rw[eN,eN,q5,eN,c1];by_cases md:i=j
   ·subst md;simp
   ·have c2:(stw i==stw j)=false:=beq_eq_false_iff_ne.mpr fun z=>md (aKx z)
    have c3:(i==j)=false:=beq_eq_false_iff_ne.mpr md;rw[c2,c3];simp
end NF
namespace TL
open PySem L2
section
variable {τ:TSt}{C:Sto}{Q:T->Sto->Prop}{QL:List T->Sto->Prop}{QS:Fl->TSt->Sto->Prop}{a b c fo fk fv:FE}{fa:FN}{F:FS}
variable{cls:String}{ks:List (List Key)}{i j:Int}{G:List T->Sto->Option (T×Sto)}{td tk:T}
theorem aH3{c:Nat}{ns:List Str}{ts:List T}(e:C[c]?=some (.o cls ns,ts)):oc cls C (.cell c)=some (c,ns,ts):=by
 show(C[c]?).bind _=_;rw[e,aX]
 exact if_pos rfl
theorem sZ{c:Nat}{ks:List Key}{ts:List T}(e:C[c]?=some (.dk ks,ts)):dkc C (.cell c)=some (c,ks,ts):=by
 show(C[c]?).bind _=_;rw[e];rfl
theorem aG4{c:Nat}{ts:List T}(e:C[c]?=some (.dt ks,ts)):dtc C (.cell c)=some (c,ks,ts):=by
 show(C[c]?).bind _=_;rw[e];rfl
theorem aGj{c:Nat}{ts:List T}(e:C[c]?=some (.dt ks,ts)\/C[c]?=some (.dz ks,ts)):dzc C (.cell c)=some (c,ks,ts):=by
 show(C[c]?).bind _=_;rcases e with e|e<;>(rw[e];rfl)
theorem aF9{c:Nat}{ts:List T}(e:C[c]?=some (.dt ks,ts)\/C[c]?=some (.dz ks,ts)):dkc C (.cell c)=none:=by
 show(C[c]?).bind _=_;rcases e with e|e<;>(rw[e];rfl)
def nJ(cls:String)(f:Str)(C:Sto)(t:T):Option T:=(oc cls C t).bind fun x=>getN f x.2.1 x.2.2
theorem aAp{f:Str}:wpE (kW cls f a) τ C Q↔wpE a τ C fun t C1=>∃u,nJ cls f C1 t=some u/\Q u C1:=by
 rw[aDc];unfold wpE;constructor
 ·rintro⟨t,C1,e,u,C2,e2,q⟩;unfold aEF at e2;obtain⟨x,e3,e2⟩:=aK.mp e2;obtain⟨y,e4,e2⟩:=aL.mp e2;cases e2
  exact⟨t,_,e,u,by unfold nJ;rw[e3];exact e4,q⟩
 ·rintro⟨t,C1,e,u,e2,q⟩;unfold nJ at e2;obtain⟨x,e3,e2⟩:=aK.mp e2
  exact⟨t,C1,e,u,C1,by unfold aEF;rw[e3,aX,e2];rfl,q⟩
theorem aIp{f:Str}{t:T}:wpO (aEF cls f t C) Q↔∃u,nJ cls f C t=some u/\Q u C:=by
 unfold wpO aEF nJ;constructor
 ·rintro⟨u,C2,e2,q⟩;obtain⟨x,e3,e2⟩:=aK.mp e2;obtain⟨y,e4,e2⟩:=aL.mp e2;cases e2
  exact⟨u,by rw[e3];exact e4,q⟩
 ·rintro⟨u,e2,q⟩;obtain⟨x,e3,e2⟩:=aK.mp e2
  exact⟨u,C,by rw[e3,aX,e2];rfl,q⟩
def aE3(cls:String)(f:Str)(x:T)(C:Sto)(t:T):Option Sto:=(oc cls C t).bind fun y=>if y.2.1.length<900 then some (C.set y.1 (.o cls (pn f y.2.1),pv f x y.2.1 y.2.2))else none
theorem mB{f:Str}(h:wpE a τ C fun x C1=>wpE fo τ C1 fun t C2=>∃C3,aE3 cls f x C2 t=some C3/\QS .nx τ C3):wpS (m8 cls f fo a) τ C QS:=by
 obtain⟨x,C1,e1,t,C2,e2,C3,e3,q⟩:=h
 refine⟨.nx,τ,C3,?_,q⟩
 unfold m8;rw[e1,aX,e2,aX];unfold aE3 at e3;obtain⟨y,e4,e3⟩:=aK.mp e3;rw[e4,aX];try dsimp only at e3|-
 split at e3
 ·rename_i h;cases e3;rw[if_pos h]
 ·cases e3
theorem wK{f:Str}{g:Int->Int->Int}(h:wpE fo τ C fun t C1=>nJ cls f C1 t=some (.int i)/\wpE a τ C1 fun x C2=>x=.int j/\∃C3,aE3 cls f (.int (g i j)) C2 t=some C3/\QS .nx τ C3):wpS (uG cls f g fo a) τ C QS:=by
 obtain⟨t,C1,e1,e2,x,C2,e3,rfl,C3,e4,q⟩:=h
 refine⟨.nx,τ,C3,?_,q⟩
 unfold uG;rw[e1,aX];unfold nJ at e2;obtain⟨y,e5,e2⟩:=aK.mp e2;rw[e5,aX];try dsimp only at e2|-
 rw[e2,aX];try dsimp only
 rw[e3,aX];try dsimp only
 unfold aE3 at e4;obtain⟨z,e6,e4⟩:=aK.mp e4;rw[e6,aX];try dsimp only at e4|-
 split at e4
 ·rename_i h;cases e4;rw[if_pos h]
 ·cases e4
theorem jB{n:Nat}:wpE (kP n G fa) τ C Q↔wpA fa τ C fun ts C1=>ts.length=n/\wpO (G ts C1) Q:=by
 rw[hX];unfold wpA wpO pK;constructor
 ·rintro⟨ts,C1,e,t,C2,e2,q⟩;split at e2
  ·exact⟨ts,C1,e,‹_›,t,C2,e2,q⟩
  ·cases e2
 ·rintro⟨ts,C1,e,h,t,C2,e2,q⟩
  exact⟨ts,C1,e,t,C2,by rw[if_pos h];exact e2,q⟩
def noAt(cls:String)(m:Str)(C:Sto)(t:T):Prop:=∃x,oc cls C t=some x/\getN m x.2.1 x.2.2=none
theorem mO{m:Str}{n:Nat}(h:wpE fo τ C fun t C1=>noAt cls m C1 t/\wpA fa τ C1 fun ts C2=>ts.length+1=n/\wpO (G (t::ts) C2) Q):wpE (k7 cls m n G fo fa) τ C Q:=by
 obtain⟨t,C1,e1,⟨x,e2,e3⟩,ts,C2,e4,hl,r,C3,e5,q⟩:=h
 refine⟨r,C3,?_,q⟩
 unfold k7;rw[e1,aX];try dsimp only
 rw[e2,aX];try dsimp only
 rw[e3];try dsimp only
 rw[e4,aX];unfold pK;rw[if_pos (by simpa using hl)]
 exact e5
theorem wC{n:Nat}{gp:List T}(h:wpA fa τ C fun ts C1=>(ts++gp).length+1=n/\wpO (G (.cell C1.length::(ts++gp)) (C1++[(.o cls [],[])])) fun r C2=>r=.non/\Q (.cell C1.length) C2):wpE (uA cls n G gp fa) τ C Q:=by
 obtain⟨ts,C1,e1,hl,r,C2,e2,rfl,q⟩:=h
 refine⟨_,C2,?_,q⟩
 unfold uA;rw[e1,aX];try dsimp only
 unfold pK;rw[if_pos (by simpa using hl),e2];rfl
theorem iL{B:FS}{m:Nat}{ts:List T}(h:wpS B (st0 m ts) C fun l ag C'=>match l with
 | .nx=>Q .non C'
 | .rt r=>Q r C'
 |_=>False):wpO (mW B m ts C) Q:=by
 obtain⟨l,ag,C',e,q⟩:=h;cases l with
 |nx=>exact⟨_,C',by unfold mW;rw[e],q⟩
 |rt r=>exact⟨_,C',by unfold mW;rw[e],q⟩
 |bk=>exact q.elim
 |ct=>exact q.elim
 |ex c=>exact q.elim
theorem aBJ{kd:Kd}:wpE (uE kd) τ C Q↔Q (.cell C.length) (C++[(kd,[])]):=by
 unfold wpE uE;constructor
 ·rintro⟨_,_,e,q⟩;cases e;exact q
 ·exact fun q=>⟨_,_,rfl,q⟩
theorem rX:wpO (aDL td tk C) Q↔∃t,dval C td tk=some (some t)/\Q t C:=by
 unfold wpO aDL;constructor
 ·rintro⟨t,C',e,q⟩;split at e
  ·rename_i u hu;cases e;exact⟨_,hu,q⟩
  ·cases e
 ·rintro⟨t,e,q⟩
  exact⟨t,C,by rw[e],q⟩
theorem aAc{n:Bool}:wpO (vO n tk td C) Q↔∃o,dval C td tk=some o/\Q (.bl (o.isSome==n)) C:=by
 unfold wpO vO;constructor
 ·rintro⟨t,C',e,q⟩;obtain⟨o,e1,e⟩:=aL.mp e;cases e
  exact⟨o,e1,q⟩
 ·rintro⟨o,e,q⟩
  exact⟨_,C,by rw[e];rfl,q⟩
theorem aFP(h:wpE fo τ C fun td C1=>isDc C1 td=true/\wpE fk τ C1 fun tk C2=>wpE fv τ C2 fun tx C3=>∃o,dval C3 td tk=some o/\Q (o.getD tx) C3):wpE (tJ fo fk fv) τ C Q:=by
 obtain⟨td,C1,e1,hd,tk,C2,e2,tx,C3,e3,o,e4,q⟩:=h
 refine⟨_,C3,?_,q⟩
 unfold tJ;rw[e1,aX];try dsimp only
 rw[if_pos hd,e2,aX];try dsimp only
 rw[e3,aX];try dsimp only
 rw[e4];rfl
theorem aBF(h:wpE fv τ C fun tv C1=>wpE fo τ C1 fun td C2=>wpE fk τ C2 fun tk C3=>∃C4,dput C3 td tk tv=some C4/\QS .nx τ C4):wpS (vW fo fk fv) τ C QS:=by
 obtain⟨tv,C1,e1,td,C2,e2,tk,C3,e3,C4,e4,q⟩:=h
 refine⟨.nx,τ,C4,?_,q⟩
 unfold vW;rw[e1,aX];try dsimp only
 rw[e2,aX];try dsimp only
 rw[e3,aX];try dsimp only
 rw[e4];rfl
theorem aHn{g:Int->Int->Int}(h:wpE fo τ C fun td C1=>wpE fk τ C1 fun tk C2=>dval C2 td tk=some (some (.int i))/\wpE fv τ C2 fun tv C3=>tv=.int j/\∃C4,dput C3 td tk (.int (g i j))=some C4/\QS .nx τ C4):wpS (zJ g fo fk fv) τ C QS:=by
 obtain⟨td,C1,e1,tk,C2,e2,e3,tv,C3,e4,rfl,C4,e5,q⟩:=h
 refine⟨.nx,τ,C4,?_,q⟩
 unfold zJ;rw[e1,aX];try dsimp only
 rw[e2,aX];try dsimp only
 rw[e3];try dsimp only
 rw[e4,aX];try dsimp only
 rw[e5];rfl
theorem aFA{k:Key}{x:T}(h:wpE fk τ (C++[(.dk [],[])]) fun tk C1=>kyT tk=some k/\wpE fv τ C1 fun tv C2=>tv=x/\C2[C.length]?=some (.dk [],[])/\Q (.cell C.length) (C2.set C.length (.dk [k],[x]))):wpE (tP fk fv) τ C Q:=by
 obtain⟨tk,C1,e1,e2,tv,C2,e3,rfl,e4,q⟩:=h
 refine⟨_,_,?_,q⟩
 unfold tP;rw[e1,aX];try dsimp only
 rw[e3,aX];try dsimp only
 rw[e2,aX];have:=sZ e4;rw[this]
theorem aFR{c1 c2:Nat}{ks ks':List Key}{ts cm:List T}(h:wpE fo τ C fun td C1=>td=.cell c1/\isDc C1 td=true/\wpE fv τ C1 fun te C2=>te=.cell c2/\C2[c1]?=some (.dk ks,ts)/\C2[c2]?=some (.dk ks',cm)/\c1≠c2/\ks.length+ks'.length<=lim/\
 Q .non (C2.set c1 (.dk (mrgK ks' cm (ks,ts)).1,(mrgK ks' cm (ks,ts)).2))):wpE (v3 fo fv) τ C Q:=by
 obtain⟨td,C1,e1,rfl,hd,te,C2,e2,rfl,e3,e4,hn,hl,q⟩:=h
 refine⟨_,_,?_,q⟩
 unfold v3;rw[e1,aX];try dsimp only
 rw[if_pos hd,e2,aX];try dsimp only
 have h1:=sZ e3;have h2:=sZ e4;rw[h1,h2,aX,aX];try dsimp only
 rw[if_pos ⟨hn,hl⟩]
theorem aIA:wpA (aEW a) τ C QL↔wpE a τ C fun t C1=>∃ts,liT C1 t=some ts/\QL (od ts) C1:=by
 unfold wpA wpE aEW;constructor
 ·rintro⟨us,C',e,q⟩;obtain⟨⟨t,C1⟩,e1,e⟩:=aK.mp e;obtain⟨ts,e2,e⟩:=aL.mp e;cases e
  exact⟨t,_,e1,ts,e2,q⟩
 ·rintro⟨t,C1,e1,ts,e2,q⟩
  exact⟨_,_,by rw[e1,aX,e2];rfl,q⟩
theorem aCf{g:FG}:wpS (xY a g F) τ C QS↔wpE a τ C fun t C1=>∃ts,liT C1 t=some ts/\wpS (j6 (stays t ts) g F (z9 ts)) τ C1 QS:=by
 unfold wpS wpE xY;constructor
 ·rintro⟨l,ag,C',e,q⟩;obtain⟨⟨t,C1⟩,e1,e⟩:=aK.mp e;obtain⟨ts,e2,e⟩:=aK.mp e
  exact⟨t,C1,e1,ts,e2,l,ag,C',e,q⟩
 ·rintro⟨t,C1,e1,ts,e2,l,ag,C',e,q⟩
  exact⟨l,ag,C',by rw[e1,aX];try dsimp only;rw[e2,aX];exact e,q⟩
theorem aBI{α:Type}{f:α->T}{xs:List α}:z9 (xs.map f)=(xs.zipIdx).map fun p=>.tup [.int p.2,f p.1]:=by
 unfold z9;rw[List.zipIdx_map,b7];rfl
theorem aFQ{k:Nat}{is:List Nat}{g:FG}{fb:FB}{fe:FE}{c:Nat}{ts:List T}
 (h:wpE a τ C fun t C1=>t=.cell c/\C1[c]?=some (.dt ks,ts)/\ks.length=ts.length/\ks.length<lim/\wpC (jT g fb fe (scT k is τ) (ks.map aGg) (C1.set c (.dz ks,ts))) fun us C2=>C2=C1.set c (.dz ks,ts)/\QL us C1):wpA (tR a k is g fb fe) τ C QL:=by
 obtain⟨t,C1,e1,rfl,e2,hl,gd,us,C2,e3,rfl,q⟩:=h;have hc:c<C1.length:=(aR.mp e2).1
 refine⟨us,C1,?_,q⟩
 unfold tR;rw[e1,aX];try dsimp only
 have h1:=aG4 e2;rw[h1,aX];try dsimp only
 rw[if_pos ⟨gd,hl⟩,e3,aX];try dsimp only
 rw[bO hc];try dsimp only
 rw[eG,<-(aR.mp e2).2,eQ]
end
end TL
namespace TL
open PySem L2
variable{c:Nat}{cls:String}{ns:List Str}
noncomputable def pnm:List Str:=["tail","head","hours","room","back"]
noncomputable def nnm:List Str:=["pipes","places"]
theorem mQ{C:Sto}{x:Cl}(h:c<C.length):(C.set c x)[c]?=some x:=bO h
theorem lB{C:Sto}{x:Cl}(h:C[c]?=some x):c<C.length:=(aR.mp h).1
theorem kX{f:Str}{x:T}{C:Sto}{ns':List Str}{ts cm:List T}(e:C[c]?=some (.o cls ns,ts))(h:ns.length<900)(h1:pn f ns=ns')(h2:pv f x ns ts=cm):aE3 cls f x C (.cell c)=some (C.set c (.o cls ns',cm)):=by
 unfold aE3;rw[aH3 e,aX];dsimp only;rw[if_pos h,h1,h2]
theorem kL{f:Str}{C:Sto}{ts:List T}{u:T}(e:C[c]?=some (.o cls ns,ts))(h:getN f ns ts=some u):nJ cls f C (.cell c)=some u:=by
 unfold nJ;rw[aH3 e];exact h
theorem oM{m:Str}{C:Sto}{ts:List T}(e:C[c]?=some (.o cls ns,ts))(h:getN m ns ts=none):noAt cls m C (.cell c):=⟨_,aH3 e,h⟩
end TL
namespace Lib
open PySem L2 TL
variable{c:Nat}{h d r:T}{Q:T->Sto->Prop}
theorem aCg{C:Sto}{t:T}(e:C[c]?=some (.o "Pipe" [],[]))(q:Q .non (C.set c (.o "Pipe" pnm,[t,h,d,r,.non]))):wpO (lL [.cell c,t,h,d,r] C) Q:=by
 have hc:=lB e
 refine iL ?_
 unfold wE;walk_at "b"
 refine fN.mpr (mB ?_)
 try simp_arith[if_true]
 refine⟨_,kX e (by decide) rfl rfl,?_⟩
 refine mB ?_
 try simp_arith[if_true]
 refine⟨_,kX (mQ hc) (by decide) rfl rfl,?_⟩
 rw[eG]
 refine mB ?_
 try simp_arith[if_true]
 refine⟨_,kX (mQ hc) (by decide) rfl rfl,?_⟩
 rw[eG]
 refine mB ?_
 try simp_arith[if_true]
 refine⟨_,kX (mQ hc) (by decide) rfl rfl,?_⟩
 rw[eG]
 refine mB ?_
 try simp_arith[if_true]
 refine⟨_,kX (mQ hc) (by decide) rfl rfl,?_⟩
 rw[eG]
 exact q
theorem pM{C:Sto}{t:T}(q:Q .non (C++[(.o "Pipe" pnm,[t,h,d,r,.non])])):wpO (lL [.cell C.length,t,h,d,r] (C++[(.o "Pipe" [],[])])) Q:=by
 refine aCg (by simp) ?_
 rw[b8 _ _ (bG _),dF]
 exact q
theorem aLZ{C:Sto}{d:Nat}{ps:List T}{pl:T}{t h x r:Int}(e1:C[c]?=some (.o "Net" nnm,[.cell d,pl]))(e2:C[d]?=some (.l,ps))(hl:ps.length<lim)
 (q:Q .non (C.set d (.l,ps++[.cell C.length])++[(.o "Pipe" pnm,[.int t,.int h,.int x,.int r,.cell (C.length+1)]),(.o "Pipe" pnm,[.int h,.int t,.int (-x),.int 0,.cell C.length])])):
 wpO (jC [.cell c,.int t,.int h,.int x,.int r] C) Q:=by
 have hc:=lB e1;have hd:=lB e2
 refine iL ?_
 unfold zL;walk_at "b"
 refine fN.mpr (f6.mpr (wC ?_))
 try simp_arith[if_true]
 first|refine pM ⟨rfl,?_⟩|refine⟨rfl,pM ⟨rfl,?_⟩⟩
 try simp_arith[if_true]
 refine wC ?_
 try simp_arith[if_true]
 first|refine pM ⟨rfl,?_⟩|refine⟨rfl,pM ⟨rfl,?_⟩⟩
 try simp_arith[if_true]
 have l1:(C++[(Kd.o "Pipe" pnm,[T.int t,T.int h,T.int x,T.int r,T.non])]).length=C.length+1:=by simp
 rw[l1];have f1:(C++[(Kd.o "Pipe" pnm,[T.int t,T.int h,T.int x,T.int r,T.non])]++[(Kd.o "Pipe" pnm,[T.int h,T.int t,T.int (-x),T.int 0,T.non])])[C.length]?=some (Kd.o "Pipe" pnm,[T.int t,T.int h,T.int x,T.int r,T.non]):=by simp
 refine mB ?_
 try simp_arith[if_true]
 refine⟨_,kX f1 (by decide) rfl rfl,?_⟩
 have f2:((C++[(Kd.o "Pipe" pnm,[T.int t,T.int h,T.int x,T.int r,T.non])]++[(Kd.o "Pipe" pnm,[T.int h,T.int t,T.int (-x),T.int 0,T.non])]).set C.length (Kd.o "Pipe" pnm,[T.int t,T.int h,T.int x,T.int r,T.cell (C.length+1)]))=C++[(Kd.o "Pipe" pnm,[T.int t,T.int h,T.int x,T.int r,T.cell (C.length+1)]),(Kd.o "Pipe" pnm,[T.int h,T.int t,T.int (-x),T.int 0,T.non])]:=by
  rw[cP,b8 _ _ (bG _),dF];rfl
 rw[show(pv ("back":Str) (T.cell (C.length+1)) pnm [T.int t,T.int h,T.int x,T.int r,T.non])=[T.int t,T.int h,T.int x,T.int r,T.cell (C.length+1)]from rfl,show pn ("back":Str) pnm=pnm from rfl,f2];try simp_arith[if_true]
 refine mB ?_
 try simp_arith[if_true]
 have f3:(C++[(Kd.o "Pipe" pnm,[T.int t,T.int h,T.int x,T.int r,T.cell (C.length+1)]),(Kd.o "Pipe" pnm,[T.int h,T.int t,T.int (-x),T.int 0,T.non])])[C.length+1]?=some (Kd.o "Pipe" pnm,[T.int h,T.int t,T.int (-x),T.int 0,T.non]):=by
  rw[bH (by lia)];simp
 refine⟨_,kX f3 (by decide) rfl rfl,?_⟩
 have f4:((C++[(Kd.o "Pipe" pnm,[T.int t,T.int h,T.int x,T.int r,T.cell (C.length+1)]),(Kd.o "Pipe" pnm,[T.int h,T.int t,T.int (-x),T.int 0,T.non])]).set (C.length+1) (Kd.o "Pipe" pnm,[T.int h,T.int t,T.int (-x),T.int 0,T.cell C.length]))=C++[(Kd.o "Pipe" pnm,[T.int t,T.int h,T.int x,T.int r,T.cell (C.length+1)]),(Kd.o "Pipe" pnm,[T.int h,T.int t,T.int (-x),T.int 0,T.cell C.length])]:=by
  rw[b8 _ _ (by lia),show C.length+1 - C.length=1 by lia];rfl
 rw[show(pv ("back":Str) (T.cell C.length) pnm [T.int h,T.int t,T.int (-x),T.int 0,T.non])=[T.int h,T.int t,T.int (-x),T.int 0,T.cell C.length]from rfl,show pn ("back":Str) pnm=pnm from rfl,f4];simp only[aIp];have g1:(C++[(Kd.o "Pipe" pnm,[T.int t,T.int h,T.int x,T.int r,T.cell (C.length+1)]),(Kd.o "Pipe" pnm,[T.int h,T.int t,T.int (-x),T.int 0,T.cell C.length])])[c]?=some (.o "Net" nnm,[.cell d,pl]):=by rw[aZ hc];exact e1
 have g2:lc (C++[(Kd.o "Pipe" pnm,[T.int t,T.int h,T.int x,T.int r,T.cell (C.length+1)]),(Kd.o "Pipe" pnm,[T.int h,T.int t,T.int (-x),T.int 0,T.cell C.length])]) d=some ps:=by rw[gS,aZ hd];exact e2
 refine⟨_,kL g1 rfl,d,rfl,by rw[g2];rfl,ps,g2,hl,?_⟩
 rw[aPe _ _ hd]
 exact q
end Lib
namespace Lib
open PySem L2 TL NF
variable{c:Nat}{nd:List (List Int)}
noncomputable def pc(c:Nat)(o:Nat×Bool):Nat:=c+2+2*o.1+if o.2 then 0 else 1
theorem aNr{k:Nat}:pc c (k,true)=c+2+2*k:=rfl
theorem aLI{k:Nat}:pc c (k,false)=c+2+2*k+1:=rfl
def pcell(N:Nt)(f:Nat->Int)(c:Nat)(o:Nat×Bool):Cl:=(.o "Pipe" pnm,[.int (rt N o),.int (rh N o),.int (rd N o),.int (rr N f o),.cell (pc c (o.1,!o.2))])
structure Pre(N:Nt)(k:Nat)(C0:Sto)(pl:Int)(C:Sto):Prop where
 pre:∀i,i<C0.length->C[i]?=C0[i]?
 len:C.length=C0.length+2+2*k
 net:C[C0.length]?=some (.o "Net" nnm,[.cell (C0.length+1),.int pl])
 lst:C[C0.length+1]?=some (.l,(bI k).map fun j=>.cell (pc C0.length (j,true)))
 pip:∀o:Nat×Bool,o.1<k->C[pc C0.length o]?=some (pcell N (fun _=>0) C0.length o)
theorem Pre.lay{N:Nt}{k:Nat}{C0 C:Sto}{pl:Int}(P:Pre N k C0 pl C)(hk:k<90000){t h d r:Int}(ht:t=N.t k)(hh:h=N.h k)(hd:d=N.d k)(hr:r=N.c k){Q:T->Sto->Prop}(q:∀C',Pre N (k+1) C0 pl C'->Q .non C'):
 wpO (jC [.cell C0.length,.int t,.int h,.int d,.int r] C) Q:=by
 subst ht hh hd hr
 refine aLZ P.net P.lst (by simp[lim];lia) (q _ ?_)
 have hl:=P.len;have kr:C0.length+1<C.length:=by lia
 have old:∀i,i<C.length->i≠C0.length+1->(C.set (C0.length+1) (Kd.l,(bI k).map (fun j=>T.cell (pc C0.length (j,true)))++[T.cell C.length])++
  [(Kd.o "Pipe" pnm,[T.int (N.t k),T.int (N.h k),T.int (N.d k),T.int (N.c k),T.cell (C.length+1)]),(Kd.o "Pipe" pnm,[T.int (N.h k),T.int (N.t k),T.int (-N.d k),T.int 0,T.cell C.length])])[i]?=C[i]?:=fun i hi hn=>by
  rw[aZ (by simpa using hi),aS (Ne.symm hn)]
 refine⟨fun i hi=>?_,by simp;lia,?_,?_,fun o ho=>?_⟩
 ·rw[old i (by lia) (by lia)];exact P.pre i hi
 ·rw[old _ (by lia) (by lia)];exact P.net
 ·rw[aZ (by simpa using kr),bO kr,aO7,bQ,hl];rfl
 ·by_cases hok:o.1<k
  ·rw[old _ (by unfold pc;split<;>lia) (by unfold pc;lia)]
   exact P.pip o hok
  ·have:o.1=k:=by lia
   obtain⟨j,b⟩:=o;cases this;cases b with
   |true=>
    rw[aNr,bH (by simp;lia)];simp only[cJ,hl,dF,bR];unfold pcell rt rh rd rr;simp[aLI]
   |false=>
    rw[aLI,bH (by simp;lia)];simp only[cJ,hl];rw[show C0.length+2+2*j+1 - (C0.length+2+2*j)=1 by lia];unfold pcell rt rh rd rr;simp[aNr]
noncomputable def fW(ws:List (Int×Int×Int)):Wk:=⟨fun i=>((ws[i]?).getD (0,0,0)).1,fun i=>((ws[i]?).getD (0,0,0)).2.1,fun i=>((ws[i]?).getD (0,0,0)).2.2⟩
noncomputable def iQ:Nat->List (List Int)->List (Nat×Nat)
 |_,[]=>[]
 |s,l::r=>(l.map fun a=>(a.toNat,s))++iQ (s+1) r
theorem aAB:∀{nd:List (List Int)}{s b j:Nat}{l:List Int}{a:Int},nd[b]?=some l->l[j]?=some a->(iQ s nd)[(iQ s (nd.take b)).length+j]?=some (a.toNat,s+b)
 | [],s,b,j,l,a,h,_=>by simp at h
 |x::nd,s,0,j,l,a,h,h2=>by
  simp at h;subst h;show((x.map fun a=>(a.toNat,s))++iQ (s+1) nd)[0+j]?=_;rw[aOh,aZ (by simpa using(aR.mp h2).1),bK,h2];rfl
 |x::nd,s,b+1,j,l,a,h,h2=>by
  have ih:=aAB (s:=s+1) (b:=b) (nd:=nd) (by simpa using h) h2;show((x.map fun a=>(a.toNat,s))++iQ (s+1) nd)[((x.map fun a=>(a.toNat,s))++iQ (s+1) (nd.take b)).length+j]?=_;rw[aU,aOW,bH (by lia),Nat.add_sub_cancel_left,ih];congr 2;lia
theorem aEM:∀{s b:Nat}{l:List Int},nd[b]?=some l->(iQ s (nd.take (b+1))).length=(iQ s (nd.take b)).length+l.length:=by
 induction nd with
 |nil=>intro s b l h;simp at h
 |cons x nd ih=>
  intro s b l h;cases b with
  |zero=>simp at h;subst h;simp[iQ]
  |succ b=>
   have:=ih (s:=s+1) (b:=b) (by simpa using h);simp only[aPi,iQ,aU,aP]at this|-
   lia
theorem aCs{z:Nat}(h:∀l∈nd,l.length<=z):∀{s:Nat},(iQ s nd).length<=nd.length*z:=by
 induction nd with
 |nil=>intro s;simp[iQ]
 |cons x nd ih=>
  intro s;have h1:=h x bJ;have h2:=ih (fun l hl=>h l (bA _ hl)) (s:=s+1);simp only[iQ,aU,aP,aN,Nat.add_mul,Nat.one_mul]
  lia
theorem aHe{e:Nat×Nat}:∀{s:Nat},e∈iQ s nd->∃b l a,nd[b]?=some l/\a∈l/\e=(a.toNat,s+b):=by
 induction nd with
 |nil=>intro s h;simp[iQ]at h
 |cons x nd ih=>
  intro s h;rcases bM.mp (show e∈(x.map fun a=>(a.toNat,s))++iQ (s+1) nd from h)with h|h
  ·obtain⟨a,ha,rfl⟩:=bL.mp h
   exact⟨0,x,a,rfl,ha,rfl⟩
  ·obtain⟨b,l,a,h1,h2,h3⟩:=ih h
   exact⟨b+1,l,a,by simpa using h1,h2,by rw[h3];congr 1;lia⟩
theorem aIr{b:Nat}{l:List Int}{a:Int}(h:nd[b]?=some l)(ha:a∈l):(a.toNat,b)∈iQ 0 nd:=by
 obtain⟨j,hj⟩:=bT.mp ha;have:=aAB (s:=0) h hj;rw[aOh]at this
 exact bD this
end Lib
namespace Lib
open PySem L2 TL NF
variable{i:Nat}{w:Wk}{es:List (Nat×Nat)}{P:Int}
theorem wP:iI [.int i]=some (.int (2*i+2)):=by
 apply hW;unfold qJ;walk_at "b";simp_arith[if_true]
 refine⟨gJ (by lia) (by lia),?_⟩
 rfl
theorem xZ:iW [.int i]=some (.int (2*i+3)):=by
 apply hW;unfold q9;walk_at "b";simp_arith[if_true]
 refine⟨gJ (by lia) (by lia),?_⟩
 rfl
theorem aC0:pX [.int (2*i+2)]=some (.int i):=by
 apply hW;unfold zW;walk_at "b";simp_arith[if_true]
 refine⟨by decide,?_⟩
 show some (T.int ((2*(i:Int)+2)/2 - 1))=_;congr 2;lia
theorem aIC{n:Nat}(hi:i<n):(net w n es P).t (4*i)=0/\(net w n es P).h (4*i)=2*i+2/\(net w n es P).d (4*i)=0/\(net w n es P).c (4*i)=P:=by
 have h4:4*i<4*n:=by lia
 have hm:4*i%4=0:=by lia
 have hd:4*i/4=i:=by lia
 refine⟨?_,?_,?_,?_⟩<;>simp[net,h4,hm,hd]
theorem aJZ{n:Nat}(hi:i<n):(net w n es P).t (4*i+1)=2*i+2/\(net w n es P).h (4*i+1)=2*i+3/\(net w n es P).d (4*i+1)=w.u i/\(net w n es P).c (4*i+1)=w.p i:=by
 have h4:4*i+1<4*n:=by lia
 have hm:(4*i+1)%4=1:=by lia
 have hd:(4*i+1)/4=i:=by lia
 refine⟨?_,?_,?_,?_⟩<;>simp[net,h4,hm,hd]
theorem aJ9{n:Nat}(hi:i<n):(net w n es P).t (4*i+2)=2*i+2/\(net w n es P).h (4*i+2)=2*i+3/\(net w n es P).d (4*i+2)=w.l i/\(net w n es P).c (4*i+2)=P:=by
 have h4:4*i+2<4*n:=by lia
 have hm:(4*i+2)%4=2:=by lia
 have hd:(4*i+2)/4=i:=by lia
 refine⟨?_,?_,?_,?_⟩<;>simp[net,h4,hm,hd]
theorem aJH{n:Nat}(hi:i<n):(net w n es P).t (4*i+3)=2*i+3/\(net w n es P).h (4*i+3)=1/\(net w n es P).d (4*i+3)=0/\(net w n es P).c (4*i+3)=P:=by
 have h4:4*i+3<4*n:=by lia
 have hm:(4*i+3)%4=3:=by lia
 have hd:(4*i+3)/4=i:=by lia
 refine⟨?_,?_,?_,?_⟩<;>simp[net,h4,hm,hd]
theorem aKp{n:Nat}{j a b:Nat}(hj:es[j]?=some (a,b)):(net w n es P).t (4*n+j)=2*a+3/\(net w n es P).h (4*n+j)=2*b+2/\(net w n es P).d (4*n+j)=0/\(net w n es P).c (4*n+j)=P:=by
 have h4:¬4*n+j<4*n:=by lia
 have hs:4*n+j - 4*n=j:=by lia
 refine⟨?_,?_,?_,?_⟩<;>simp[net,h4,hs,hj]
noncomputable def plenty(ws:List (Int×Int×Int))(bonus:Int):Int:=(ws.map (·.2.2)).sum+bonus+1
def iC(ws:List (Int×Int×Int))(nd:List (List Int))(bonus:Int):Nt:=net (fW ws) ws.length (iQ 0 nd) (plenty ws bonus)
theorem aIa{C:Sto}{c:Nat}{t h d r:Int}{τ:TSt}{QS:TL.Fl->TSt->Sto->Prop}{ft fh fd fr:FE}{pl:T}{e:Nat}(h0:τ[0]?=some (some (.cell c)))(h1:C[c]?=some (.o "Net" nnm,[.cell e,pl]))
 (ht:ft τ C=some (.int t,C))(hh:fh τ C=some (.int h,C))(hd:fd τ C=some (.int d,C))(hr:fr τ C=some (.int r,C))(q:wpO (jC [.cell c,.int t,.int h,.int d,.int r] C) fun _ C'=>QS .nx τ C'):
 wpS (mT (k7 "Net" "lay" 5 jC Y0 (eV ft (eV fh (eV fd (eV fr fF)))))) τ C QS:=by
 refine oY.mpr (mO ?_)
 refine eZ.mpr ⟨_,h0,oM h1 rfl,?_⟩
 refine fE.mpr ⟨_,_,ht,fE.mpr ⟨_,_,hh,fE.mpr ⟨_,_,hd,fE.mpr ⟨_,_,hr,fM.mpr ⟨rfl,q⟩⟩⟩⟩⟩
theorem n4{τ:TSt}{C:Sto}{k:Nat}(h:τ[k]?=some (some (.int i))):fT 1 iI (eV (jQ k) fF) τ C=some (.int (2*i+2),C):=by
 have:wpE (fT 1 iI (eV (jQ k) fF)) τ C fun t C'=>t=.int (2*i+2)/\C'=C:=by
  refine hX.mpr (fE.mpr (eZ.mpr ⟨_,h,fM.mpr ?_⟩))
  exact(fO wP rfl rfl).mpr ⟨rfl,rfl⟩
 obtain⟨t,C',e,rfl,rfl⟩:=this
 exact e
theorem pW{τ:TSt}{C:Sto}{k:Nat}(h:τ[k]?=some (some (.int i))):fT 1 iW (eV (jQ k) fF) τ C=some (.int (2*i+3),C):=by
 have:wpE (fT 1 iW (eV (jQ k) fF)) τ C fun t C'=>t=.int (2*i+3)/\C'=C:=by
  refine hX.mpr (fE.mpr (eZ.mpr ⟨_,h,fM.mpr ?_⟩))
  exact(fO xZ rfl rfl).mpr ⟨rfl,rfl⟩
 obtain⟨t,C',e,rfl,rfl⟩:=this
 exact e
theorem vZ{τ:TSt}{C:Sto}{k:Nat}{t:T}(h:τ[k]?=some (some t)):jQ k τ C=some (t,C):=by unfold jQ;rw[h]
theorem aG5{τ:TSt}{C:Sto}{k:Nat}{w:Int×Int×Int}(h:τ[k]?=some (some (w3 w))):fIx (jQ k) (fI 0) τ C=some (.int w.1,C)/\fIx (jQ k) (fI 1) τ C=some (.int w.2.1,C)/\fIx (jQ k) (fI 2) τ C=some (.int w.2.2,C):=by
 refine⟨?_,?_,?_⟩<;>(show(jQ k τ C).bind _=_;rw[vZ h];rfl)
end Lib
namespace Lib
open PySem L2 TL NF
variable{C0:Sto}{pl bonus:Int}{QS:TL.Fl->TSt->Sto->Prop}{ws:List (Int×Int×Int)}{nd:List (List Int)}
theorem Pre.step{N:Nt}{k:Nat}{C:Sto}(P:Pre N k C0 pl C)(hk:k<90000){t h d r:Int}{τ:TSt}{ft fh fd fr:FE}(h0:τ[0]?=some (some (.cell C0.length)))
 (ht:ft τ C=some (.int t,C))(hh:fh τ C=some (.int h,C))(hd:fd τ C=some (.int d,C))(hr:fr τ C=some (.int r,C))(e:t=N.t k/\h=N.h k/\d=N.d k/\r=N.c k)(q:∀C',Pre N (k+1) C0 pl C'->QS .nx τ C'):
 wpS (mT (k7 "Net" "lay" 5 jC Y0 (eV ft (eV fh (eV fd (eV fr fF)))))) τ C QS:=
 aIa h0 P.net ht hh hd hr (P.lay hk e.1 e.2.1 e.2.2.1 e.2.2.2 fun C' h=>q C' h)
theorem aGb{C:Sto}{i:Nat}{w:Int×Int×Int}{τ:TSt}(hw:ws[i]?=some w)(hl:ws.length<=8)(P:Pre (iC ws nd bonus) (4*i) C0 pl C)
 (h0:τ[0]?=some (some (.cell C0.length)))(h4:τ[4]?=some (some (.int (plenty ws bonus))))(h5:τ[5]?=some (some (.int i)))(h6:τ[6]?=some (some (w3 w)))(q:∀C',Pre (iC ws nd bonus) (4*(i+1)) C0 pl C'->QS .nx τ C'):wpS m6 τ C QS:=by
 have hi:i<ws.length:=(aR.mp hw).1;have eu:(fW ws).u i=w.1:=by simp[fW,hw]
 have el:(fW ws).l i=w.2.1:=by simp[fW,hw]
 have ep:(fW ws).p i=w.2.2:=by simp[fW,hw]
 unfold m6;obtain⟨a1,a2,a3,a4⟩:=aIC (w:=fW ws) (es:=iQ 0 nd) (P:=plenty ws bonus) hi
 refine fN.mpr (P.step (t:=0) (h:=2*i+2) (d:=0) (r:=plenty ws bonus) (by lia) h0 rfl (n4 h5) rfl (vZ h4) ⟨by rw[show(iC ws nd bonus).t (4*i)=0 from a1];rfl,by rw[show(iC ws nd bonus).h (4*i)=_ from a2];simp,by rw[show(iC ws nd bonus).d (4*i)=_ from a3],by rw[show(iC ws nd bonus).c (4*i)=_ from a4]⟩ fun C1 P1=>?_)
 obtain⟨a1,a2,a3,a4⟩:=aJZ (w:=fW ws) (es:=iQ 0 nd) (P:=plenty ws bonus) hi
 refine gW.mpr (fN.mpr (P1.step (t:=2*i+2) (h:=2*i+3) (d:=w.1) (r:=w.2.2) (by lia) h0 (n4 h5) (pW h5) (aG5 h6).1 (aG5 h6).2.2 ⟨by rw[show(iC ws nd bonus).t (4*i+1)=_ from a1];simp,by rw[show(iC ws nd bonus).h (4*i+1)=_ from a2];simp,by rw[show(iC ws nd bonus).d (4*i+1)=_ from a3,eu],by rw[show(iC ws nd bonus).c (4*i+1)=_ from a4,ep]⟩ fun C2 P2=>?_))
 obtain⟨a1,a2,a3,a4⟩:=aJ9 (w:=fW ws) (es:=iQ 0 nd) (P:=plenty ws bonus) hi
 refine gW.mpr (fN.mpr (P2.step (t:=2*i+2) (h:=2*i+3) (d:=w.2.1) (r:=plenty ws bonus) (by lia) h0 (n4 h5) (pW h5) (aG5 h6).2.1 (vZ h4) ⟨by rw[show(iC ws nd bonus).t (4*i+1+1)=_ from a1];simp,by rw[show(iC ws nd bonus).h (4*i+1+1)=_ from a2];simp,by rw[show(iC ws nd bonus).d (4*i+1+1)=_ from a3,el],by rw[show(iC ws nd bonus).c (4*i+1+1)=_ from a4]⟩ fun C3 P3=>?_))
 obtain⟨a1,a2,a3,a4⟩:=aJH (w:=fW ws) (es:=iQ 0 nd) (P:=plenty ws bonus) hi
 refine gW.mpr (P3.step (t:=2*i+3) (h:=1) (d:=0) (r:=plenty ws bonus) (by lia) h0 (pW h5) rfl rfl (vZ h4) ⟨by rw[show(iC ws nd bonus).t (4*i+1+1+1)=_ from a1];simp,by rw[show(iC ws nd bonus).h (4*i+1+1+1)=_ from a2];rfl,by rw[show(iC ws nd bonus).d (4*i+1+1+1)=_ from a3],by rw[show(iC ws nd bonus).c (4*i+1+1+1)=_ from a4]⟩ fun C4 P4=>q C4 ?_)
 rw[show 4*(i+1)=4*i+1+1+1+1 by lia];exact P4
theorem aEV{C:Sto}{b:Nat}{l:List Int}{τ:TSt}(hb:nd[b]?=some l)(hnn:∀a∈l,0<=a)(hsz:4*ws.length+(iQ 0 nd).length<90000)(P:Pre (iC ws nd bonus) (4*ws.length+(iQ 0 (nd.take b)).length) C0 pl C)
 (nq:τ.length=10)(h0:τ[0]?=some (some (.cell C0.length)))(h4:τ[4]?=some (some (.int (plenty ws bonus))))(h7:τ[7]?=some (some (.int b)))(h8:τ[8]?=some (some (iT l)))
 (q:∀ag C',(∀i,i<7->ag[i]?=τ[i]?)->ag.length=10->Pre (iC ws nd bonus) (4*ws.length+(iQ 0 (nd.take (b+1))).length) C0 pl C'->QS .nx ag C'):wpS m4 τ C QS:=by
 unfold m4
 refine lQ.mpr (eZ.mpr ⟨_,h8,l.map T.int,rfl,?_⟩)
 refine iR (en:=T.int) (xs:=l) (fun j ag C'=>(∀i,i<9->ag[i]?=τ[i]?)/\ag.length=10/\Pre (iC ws nd bonus) (4*ws.length+(iQ 0 (nd.take b)).length+j) C0 pl C') ⟨fun _ _=>rfl,nq,P⟩ ?_ ?_
 ·rintro j a ag C' hj ⟨e1,e2,P'⟩;have he:=aAB (s:=0) hb hj;rw[aOh]at he;have bo:(iQ 0 (nd.take b)).length+j<(iQ 0 nd).length:=(aR.mp he).1;have ha:0<=a:=hnn a (bD hj);obtain⟨a1,a2,a3,a4⟩:=aKp (w:=fW ws) (n:=ws.length) (P:=plenty ws bonus) he
  refine f8.mpr ?_
  have g0:(ag.set 9 (some (T.int a)))[0]?=some (some (.cell C0.length)):=by rw[aS (by decide),e1 0 (by decide)];exact h0
  have g4:(ag.set 9 (some (T.int a)))[4]?=some (some (.int (plenty ws bonus))):=by rw[aS (by decide),e1 4 (by decide)];exact h4
  have g7:(ag.set 9 (some (T.int a)))[7]?=some (some (.int b)):=by rw[aS (by decide),e1 7 (by decide)];exact h7
  have g9:(ag.set 9 (some (T.int a)))[9]?=some (some (.int (a.toNat:Int))):=by rw[bO (by rw[e2];decide),bN ha]
  unfold t9
  refine P'.step (t:=2*a.toNat+3) (h:=2*b+2) (d:=0) (r:=plenty ws bonus) (by lia) g0 (pW g9) (n4 g7) rfl (vZ g4) ?_ fun C2 P2=>⟨trivial,fun i hi=>?_,by simpa using e2,by rw[aOW]at P2;exact P2⟩
  ·rw[aOW]
   exact⟨by rw[show(iC ws nd bonus).t _=_ from a1];simp,by rw[show(iC ws nd bonus).h _=_ from a2];simp,by rw[show(iC ws nd bonus).d _=_ from a3],by rw[show(iC ws nd bonus).c _=_ from a4]⟩
  ·rw[aS (by lia)];exact e1 i hi
 ·rintro ag C' ⟨e1,e2,P'⟩
  refine q ag C' (fun i hi=>e1 i (by lia)) e2 ?_
  rw[aEM hb,<-aOW];exact P'
end Lib
namespace Lib
open PySem L2 TL NF
theorem aCG{ws:List (Int×Int×Int)}{ps:List (Int×Int)}{nd:List (List Int)}{bonus:Int}{C0:Sto}(hl:ws.length<=8)(hp:ps.length<=1000)(hw:InW ws.length ps)(hN:gM [.int ws.length,.lst (ps.map pT)]=some (.lst (nd.map iT)))(gy:Nd ps ws.length nd){Q:T->Sto->Prop}
 (q:∀C',Pre (iC ws nd bonus) (iC ws nd bonus).m C0 (2*ws.length+2) C'->Q .non C'):wpO (nG [.cell C0.length,.lst (ws.map w3),.lst (ps.map pT),.int bonus] (C0++[(.o "Net" [],[])])) Q:=by
 have hsz:4*ws.length+(iQ 0 nd).length<90000:=by
  have:=aCs (nd:=nd) (z:=1000) (fun l hl=>?_) (s:=0)
  ·rw[gy.1]at this;have h2:ws.length*1000<=8*1000:=aPg _ hl
   lia
  ·obtain⟨b,hb⟩:=bT.mp hl
   exact cB (gy.2 b l hb).1 hp
 refine iL ?_
 unfold zT;walk_at "b"
 refine fN.mpr (mB ?_)
 try simp_arith[if_true]
 refine⟨by decide,?_⟩
 have f1:(C0++[(Kd.o "Net" [],[])]++[(Kd.l,[])])[C0.length]?=some (Kd.o "Net" [],[]):=by simp
 refine⟨_,kX f1 (by decide) rfl rfl,?_⟩
 have f2:(C0++[(Kd.o "Net" [],[])]++[(Kd.l,[])]).set C0.length (Kd.o "Net" ["pipes"],[T.cell (C0.length+1)])=C0++[(Kd.o "Net" ["pipes"],[T.cell (C0.length+1)]),(Kd.l,[])]:=by
  rw[cP,b8 _ _ (bG _),dF];rfl
 have f0:(C0++[(Kd.o "Net" [],([]:List T))]).length=C0.length+1:=by simp
 rw[f0];rw[show pn ("pipes":Str) []=[("pipes":Str)]from rfl,show TL.pv ("pipes":Str) (T.cell (C0.length+1)) [] []=[T.cell (C0.length+1)]from rfl,f2]
 refine mB ?_
 try simp_arith[if_true]
 refine⟨gJ (by lia) (by lia),?_⟩
 have f3:(C0++[(Kd.o "Net" ["pipes"],[T.cell (C0.length+1)]),(Kd.l,[])])[C0.length]?=some (Kd.o "Net" ["pipes"],[T.cell (C0.length+1)]):=by simp
 refine⟨_,kX f3 (by decide) rfl rfl,?_⟩
 have f4:∀x:T,(C0++[(Kd.o "Net" ["pipes"],[T.cell (C0.length+1)]),(Kd.l,[])]).set C0.length (Kd.o "Net" (pn ("places":Str) ["pipes"]),TL.pv ("places":Str) x ["pipes"] [T.cell (C0.length+1)])=C0++[(Kd.o "Net" nnm,[T.cell (C0.length+1),x]),(Kd.l,[])]:=fun x=>by
  rw[b8 _ _ (bG _),dF];rfl
 rw[f4];try simp_arith[if_true]
 rw[aP]
 refine⟨by simp[lim];lia,?_⟩
 refine gG (xs:=ws) (en:=w3) (fun w=>T.int w.2.2) (fun w _=>?_) ?_
 ·try simp_arith[if_true]
  exact⟨_,rfl,_,rfl,_,rfl,rfl⟩
 refine⟨_,pJ (f:=fun w:Int×Int×Int=>w.2.2),?_⟩
 have P0:Pre (iC ws nd bonus) (4*0) C0 (2*ws.length+2) (C0++[(Kd.o "Net" nnm,[T.cell (C0.length+1),T.int (2*ws.length+2)]),(Kd.l,[])]):=by
  refine⟨fun i hi=>aZ hi,by simp,by simp,?_,fun o ho=>by lia⟩
  rw[bH (by lia),show C0.length+1 - C0.length=1 by lia];rfl
 refine aCf.mpr ?_
 try simp_arith[if_true]
 rw[aBI]
 refine iR (xs:=ws.zipIdx) (fun i τ C=>τ.length=10/\τ[0]?=some (some (.cell C0.length))/\τ[1]?=some (some (.lst (ws.map w3)))/\τ[2]?=some (some (.lst (ps.map pT)))/\τ[4]?=some (some (.int (plenty ws bonus)))/\Pre (iC ws nd bonus) (4*i) C0 (2*ws.length+2) C) ⟨rfl,rfl,rfl,rfl,rfl,P0⟩ ?_ ?_
 ·rintro i ⟨w,k⟩ τ C hi ⟨t1,t2,t3,t4,t5,P⟩;rw[aOz]at hi;obtain⟨w',cb,e⟩:=aL.mp hi;cases e;rw[aOh]
  refine yO.mpr ⟨_,rfl,rfl,?_⟩
  show wpS m6 ((τ.set 5 (some (T.int i))).set 6 (some (w3 w))) C _
  refine aGb cb hl P ?_ ?_ ?_ ?_ fun C' P'=>⟨?_,?_,?_,?_,?_,?_,P'⟩
  ·rw[aS (by decide),aS (by decide)];exact t2
  ·rw[aS (by decide),aS (by decide)];exact t5
  ·rw[aS (by decide),bO (by rw[t1];decide)]
  ·rw[bO (by rw[cJ,t1];decide)]
  ·trivial
  ·simpa using t1
  ·rw[aS (by decide),aS (by decide)];exact t2
  ·rw[aS (by decide),aS (by decide)];exact t3
  ·rw[aS (by decide),aS (by decide)];exact t4
  ·rw[aS (by decide),aS (by decide)];exact t5
 ·rintro τ C ⟨t1,t2,t3,t4,t5,P⟩;rw[aPn]at P
  refine gW.mpr (aCf.mpr ?_)
  refine hX.mpr (fE.mpr ?_)
  refine hX.mpr (fE.mpr (eZ.mpr ⟨_,t3,fM.mpr ?_⟩))
  refine aAU.mpr ⟨_,rfl,fE.mpr (eZ.mpr ⟨_,t4,fM.mpr ?_⟩)⟩
  rw[aP]
  refine(fO hN rfl (by walk_at "c";rw[lN];rfl)).mpr ⟨_,rfl,?_⟩
  rw[aBI]
  refine iR (xs:=nd.zipIdx) (fun b τ C=>τ.length=10/\τ[0]?=some (some (.cell C0.length))/\τ[4]?=some (some (.int (plenty ws bonus)))/\Pre (iC ws nd bonus) (4*ws.length+(iQ 0 (nd.take b)).length) C0 (2*ws.length+2) C) ⟨t1,t2,t5,P⟩ ?_ ?_
  ·rintro b ⟨l,k⟩ τ C hi ⟨t1,t2,t5,P⟩;rw[aOz]at hi;obtain⟨l',dw,e⟩:=aL.mp hi;cases e;rw[aOh]
   refine yO.mpr ⟨_,rfl,rfl,?_⟩
   show wpS m4 ((τ.set 7 (some (T.int b))).set 8 (some (iT l))) C _
   refine aEV dw (fun a ha=>?_) hsz P (by simpa using t1) ?_ ?_ ?_ ?_ fun ag C' e1 e2 P'=>⟨trivial,e2,?_,?_,P'⟩
   ·exact(hw _ (((gy.2 b l dw).2 a).mp ha)).1.1
   ·rw[aS (by decide),aS (by decide)];exact t2
   ·rw[aS (by decide),aS (by decide)];exact t5
   ·rw[aS (by decide),bO (by rw[t1];decide)]
   ·rw[bO (by rw[cJ,t1];decide)]
   ·rw[e1 0 (by decide),aS (by decide),aS (by decide)];exact t2
   ·rw[e1 4 (by decide),aS (by decide),aS (by decide)];exact t5
  ·rintro τ C ⟨t1,t2,t5,P⟩;rw[aPn,cV]at P
   exact q C P
end Lib
namespace Lib
open PySem L2 TL NF
variable{N:Nt}{pl:Int}{c:Nat}{C':Sto}{o:Nat×Bool}{Q:T->Sto->Prop}
structure iA(N:Nt)(f:Nat->Int)(c:Nat)(pl:Int)(C:Sto):Prop where
 net:C[c]?=some (.o "Net" nnm,[.cell (c+1),.int pl])
 lst:C[c+1]?=some (.l,(bI N.m).map fun j=>.cell (pc c (j,true)))
 pip:∀o:Nat×Bool,o.1<N.m->C[pc c o]?=some (pcell N f c o)
theorem Pre.at{C0 C:Sto}(P:Pre N N.m C0 pl C):iA N (fun _=>0) C0.length pl C:=⟨P.net,P.lst,P.pip⟩
theorem iA.mono{f:Nat->Int}{C:Sto}(A:iA N f c pl C)(h:∀i,c<=i->i<c+2+2*N.m->C'[i]?=C[i]?):iA N f c pl C':=
 ⟨by rw[h c (by lia) (by lia)];exact A.net,by rw[h (c+1) (by lia) (by lia)];exact A.lst,fun o ho=>by rw[h _ (by unfold pc;lia) (by unfold pc;split<;>lia)];exact A.pip o ho⟩
theorem iA.app{f:Nat->Int}{C G:Sto}(A:iA N f c pl C)(hc:c+2+2*N.m<=C.length):iA N f c pl (C++G):=A.mono fun i _ h=>aZ (by lia)
theorem iA.len{f:Nat->Int}{C:Sto}(A:iA N f c pl C):c+2+2*N.m<=C.length:=by
 by_cases h:N.m=0
 ·have:=lB A.lst;lia
 ·have:=lB (A.pip (N.m - 1,false) (by show N.m - 1<N.m;lia));rw[aLI]at this;lia
theorem iA.fld{f:Nat->Int}{C:Sto}(A:iA N f c pl C)(ho:o.1<N.m):nJ "Pipe" "tail" C (.cell (pc c o))=some (.int (rt N o))/\nJ "Pipe" "head" C (.cell (pc c o))=some (.int (rh N o))/\
 nJ "Pipe" "hours" C (.cell (pc c o))=some (.int (rd N o))/\nJ "Pipe" "room" C (.cell (pc c o))=some (.int (rr N f o))/\nJ "Pipe" "back" C (.cell (pc c o))=some (.cell (pc c (o.1,!o.2))):=
 ⟨kL (A.pip o ho) rfl,kL (A.pip o ho) rfl,kL (A.pip o ho) rfl,kL (A.pip o ho) rfl,kL (A.pip o ho) rfl⟩
noncomputable def both(N:Nt):List (Nat×Bool):=(bI N.m).map (fun k=>(k,true))++(bI N.m).map fun k=>(k,false)
def opn(N:Nt)(f:Nat->Int):List (Nat×Bool):=(both N).filter fun o=>decide (0<rr N f o)
theorem aEB:o∈both N↔o.1<N.m:=by
 obtain⟨k,b⟩:=o;unfold both;cases b<;>simp
theorem oK{f:Nat->Int}:o∈opn N f↔Open N f o:=by
 unfold opn Open;rw[dB,aEB,decide_eq_true_iff]
theorem fQ{f:FE}{τ:TSt}{C:Sto}{t:T}(e:f τ C=some (t,C'))(q:Q t C'):wpE f τ C Q:=⟨t,C',e,q⟩
theorem i7{cls:String}{f:Str}{τ:TSt}{C:Sto}{k:Nat}{t u:T}(h:τ[k]?=some (some t))(e:nJ cls f C t=some u):kW cls f (jQ k) τ C=some (u,C):=by
 have:wpE (kW cls f (jQ k)) τ C fun x C'=>x=u/\C'=C:=aAp.mpr (eZ.mpr ⟨_,h,_,e,rfl,rfl⟩)
 obtain⟨_,_,e',rfl,rfl⟩:=this
 exact e'
theorem qI{f:Nat->Int}{C:Sto}(A:iA N f c pl C)(hm:N.m<40000)(q:Q (.lst ((opn N f).map fun o=>.cell (pc c o))) C):wpO (i0 [.cell c] C) Q:=by
 have hf:nJ "Net" "pipes" C (.cell c)=some (.cell (c+1)):=kL A.net rfl;have hl:lc C (c+1)=some ((bI N.m).map fun j=>.cell (pc c (j,true))):=gS.mpr A.lst
 refine iL ?_
 unfold nL;walk_at "b"
 refine fN.mpr (f6.mpr (gF.mpr (nQ.mpr ?_)))
 refine fQ (i7 rfl hf) (gF.mpr (j4.mpr (fQ (i7 rfl hf) ⟨_,hl,by simp[lim];lia,?_⟩)))
 refine gG (xs:=bI N.m) (en:=fun j=>T.cell (pc c (j,true))) (fun j=>T.cell (pc c (j,false))) (fun j hj=>?_) ?_
 ·refine f8.mpr (fQ (i7 (t:=.cell (pc c (j,true))) rfl (A.fld (o:=(j,true)) (cW.mp hj)).2.2.2.2) ⟨rfl,rfl⟩)
 refine p6.mpr ⟨_,hl,_,rfl,by simp[lim];lia,?_⟩
 refine f8.mpr (gW.mpr (iV.mpr (gF.mpr (j4.mpr (eZ.mpr ⟨_,rfl,_,rfl,by simp[lim];lia,?_⟩)))))
 have eb:((bI N.m).map (fun j=>T.cell (pc c (j,true)))++(bI N.m).map fun j=>T.cell (pc c (j,false)))=(both N).map fun o=>T.cell (pc c o):=by
  unfold both;rw[bQ,b7,b7];rfl
 rw[eb]
 refine u3 (xs:=both N) (en:=fun o=>T.cell (pc c o)) (fun o=>decide (0<rr N f o)) (fun o=>T.cell (pc c o)) (fun o ho=>?_) q
 have hr:=(A.fld (aEB.mp ho)).2.2.2.1
 refine f8.mpr (jZ.mpr (gA.mpr (fQ (i7 (t:=.cell (pc c o)) rfl hr) (jW.mpr (nT.mpr ⟨_,rfl,rfl,?_,fun _=>eZ.mpr ⟨_,rfl,rfl,rfl⟩⟩)))))
 rfl
end Lib
namespace TL
open PySem L2
theorem xC{τ:TSt}{C:Sto}{c:FB}{F:FS}{Q:Fl->TSt->Sto->Prop}(J:Nat->TSt->Sto->Prop){n m:Nat}(hm:m<n)(h0:J m τ C)
 (hs:∀m τ C,J m τ C->wpB c τ C fun b C1=>if b=true then wpS F τ C1 (fun l ao C2=>match l with
  | .nx=>∃m',m'<m/\J m' ao C2
  | .ct=>∃m',m'<m/\J m' ao C2
  | .bk=>Q .nx ao C2
  | .rt v=>Q (.rt v) ao C2
  | .ex v=>Q (.ex v) ao C2)else Q .nx τ C1):wpS (lH c F n) τ C Q:=by
 induction n generalizing m τ C with
 |zero=>lia
 |succ d ih=>
  obtain⟨b,C1,e1,h⟩:=hs m τ C h0;cases b with
  |false=>
   rw[if_neg (by simp)]at h
   exact⟨.nx,τ,C1,by unfold lH;rw[e1];rfl,h⟩
  |true=>
   rw[if_pos rfl]at h;obtain⟨l,ao,C2,e2,h⟩:=h;cases l with
   |nx=>
    obtain⟨m',h1,h2⟩:=h;obtain⟨l,ag,C',e,q⟩:=ih (m:=m') (by lia) h2
    exact⟨l,ag,C',by unfold lH;rw[e1,aX,if_pos rfl,e2,aX];exact e,q⟩
   |ct=>
    obtain⟨m',h1,h2⟩:=h;obtain⟨l,ag,C',e,q⟩:=ih (m:=m') (by lia) h2
    exact⟨l,ag,C',by unfold lH;rw[e1,aX,if_pos rfl,e2,aX];exact e,q⟩
   |bk=>exact⟨.nx,ao,C2,by unfold lH;rw[e1,aX,if_pos rfl,e2];rfl,h⟩
   |rt v=>exact⟨.rt v,ao,C2,by unfold lH;rw[e1,aX,if_pos rfl,e2];rfl,h⟩
   |ex v=>exact⟨.ex v,ao,C2,by unfold lH;rw[e1,aX,if_pos rfl,e2];rfl,h⟩
end TL
namespace Lib
open PySem L2 TL NF
variable{N:Nt}{c mq:Nat}{pl:Int}
noncomputable def kH(n:Nat)(x:Nat->Int):List T:=(bI n).map fun v=>T.int (x v)
theorem rD{n:Nat}{x:Nat->Int}:(kH n x).length=n:=by simp[kH]
theorem sG{n:Nat}{x:Nat->Int}{v:Nat}(h:v<n):(kH n x)[v]?=some (.int (x v)):=by simp[kH,h]
theorem aDV{n:Nat}{x:Nat->Int}{v:Nat}(h:v<n):atI (kH n x) (v:Int)=some (.int (x v)):=aD2 (sG h)
theorem aDE{n:Nat}{x:Nat->Int}{v:Nat}(h:v<n):ixN (kH n x).length (v:Int)=some v:=by
 unfold ixN;rw[rD];simp[h]
theorem aBH{n:Nat}{x:Nat->Int}{v:Nat}{y:Int}:(kH n x).set v (.int y)=kH n (up x v y):=by
 apply aPu;intro i;by_cases hi:i<n
 ·by_cases hv:v=i
  ·subst hv;rw[bO (by rw[rD];exact hi),sG hi,zQ]
  ·rw[aS hv,sG hi,sG hi,xU (Ne.symm hv)]
 ·rw[cK (by rw[cJ,rD];lia),cK (by rw[rD];lia)]
theorem iA.mom{f:Nat->Int}{C:Sto}(A:iA N f c pl C)(h:mq<c\/c+2+2*N.m<=mq)(y:Cl):iA N f c pl (C.set mq y):=A.mono fun i h1 h2=>aS (by lia)
theorem pE{f:FE}{τ:TSt}{C:Sto}{t:T}(h:wpE f τ C fun t' C'=>t'=t/\C'=C):f τ C=some (t,C):=by
 obtain⟨_,_,e,rfl,rfl⟩:=h
 exact e
theorem aA3{τ:TSt}{C:Sto}{a k n v:Nat}{x:Nat->Int}{p:T}{fl:Str}(h0:τ[a]?=some (some (.cell mq)))(h3:τ[k]?=some (some p))(hl:lc C mq=some (kH n x))(hf:nJ "Pipe" fl C p=some (.int v))(hv:v<n):
 fIx (jQ a) (kW "Pipe" fl (jQ k)) τ C=some (.int (x v),C):=
 pE (gA.mpr (eZ.mpr ⟨_,h0,fQ (i7 h3 hf) (lY.mpr ⟨_,hl,_,aDV hv,rfl,rfl⟩)⟩))
theorem aGf{f:Nat->Int}{n:Nat}{C:Sto}{x:Nat->Int}{os:List (Nat×Bool)}(A:iA N f c pl C)(hi:In N n)(ol:mq<c\/c+2+2*N.m<=mq)(e:C[mq]?=some (.l,kH n x))(ho:∀o∈os,Open N f o){Q:T->Sto->Prop}
 (q:∀r x',(∀s0,Ris N n f s0 x->Ris N n f s0 x')->(r=false->x'=x/\∀o∈os,x (rt N o)+rd N o<=x (rh N o))->(r=true->sm n x<sm n x')->Q (.bl r) (C.set mq (.l,kH n x'))):
 wpO (kK [.cell mq,.lst (os.map fun o=>.cell (pc c o))] C) Q:=by
 have bo:=lB e
 refine iL ?_
 unfold oO;walk_at "b";simp_arith[if_true]
 refine iR (xs:=os) (en:=fun o=>T.cell (pc c o)) (fun j τ C'=>∃x' r a b,τ=[some (.cell mq),some (.lst (os.map fun o=>.cell (pc c o))),some (.bl r),a,b]/\C'=C.set mq (.l,kH n x')/\(∀s0,Ris N n f s0 x->Ris N n f s0 x')/\
  (r=false->x'=x/\∀o∈os.take j,x (rt N o)+rd N o<=x (rh N o))/\(r=true->sm n x<sm n x')/\sm n x<=sm n x') ?_ ?_ ?_
 ·refine⟨x,false,_,_,rfl,?_,fun s0 h=>h,fun _=>⟨rfl,by simp⟩,(fun h=>by cases h),bZ _⟩
  obtain⟨h1,h2⟩:=aR.mp e;rw[<-h2,eQ]
 ·rintro j o τ C' hj ⟨x',r,a,b,rfl,rfl,h1,h2,h3,h4⟩;have bw:=ho o (bD hj);have hk:rt N o<n/\rh N o<n:=by
   obtain⟨k,d⟩:=o;have:=hi k bw.1;unfold rt rh;cases d<;>simp<;>lia
  have A':=A.mom ol (.l,kH n x');obtain⟨f1,f2,f3,f4,f5⟩:=A'.fld bw.1;have gn:lc (C.set mq (.l,kH n x')) mq=some (kH n x'):=gS.mpr (mQ bo);have tk:∀P:Nat×Bool->Prop,(∀o∈os.take j,P o)->P o->∀o∈os.take (j+1),P o:=fun P ha hb z hz=>by
   rw[aOe,hj]at hz;rcases bM.mp hz with hz|hz
   ·exact ha z hz
   ·have:z=o:=by simpa using hz
    rw[this];exact hb
  unfold m7
  refine f8.mpr (fN.mpr (f6.mpr (gA.mpr ?_)))
  refine fQ (aA3 (k:=3) (p:=.cell (pc c o)) rfl rfl gn f1 hk.1) ?_
  refine fQ (i7 rfl f3) (nT.mpr (f8.mpr (gW.mpr (mN.mpr (jZ.mpr (gA.mpr ?_))))))
  refine eZ.mpr ⟨_,rfl,?_⟩
  refine fQ (aA3 (k:=3) (p:=.cell (pc c o)) rfl rfl gn f2 hk.2) (nT.mpr ⟨_,rfl,?_⟩)
  by_cases hr:x' (rh N o)<x' (rt N o)+rd N o
  ·rw[if_pos (decide_eq_true hr)]
   refine fN.mpr (qZ.mpr (eZ.mpr ⟨_,rfl,eZ.mpr ⟨_,rfl,fQ (i7 rfl f2) ⟨_,_,rfl,rfl,_,gn,_,aDE hk.2,?_⟩⟩⟩))
   refine gW.mpr (f6.mpr (jW.mpr (f8.mpr ⟨trivial,_,true,_,_,rfl,?_,fun s0 h=>(h1 s0 h).raise bw hk.1 hr,(fun z=>by cases z),fun _=>?_,?_⟩)))
   ·rw[aBH,eG]
   ·have:=y0 (N:=N) (x:=x') (o:=o) hk.2 hr;lia
   ·have:=y0 (N:=N) (x:=x') (o:=o) hk.2 hr;lia
  ·rw[if_neg (by rw[decide_eq_false hr];simp)]
   refine i6.mpr ⟨trivial,x',r,_,_,rfl,rfl,h1,fun z=>⟨(h2 z).1,tk _ (h2 z).2 ?_⟩,h3,h4⟩
   have:=(h2 z).1;subst this
   lia
 ·rintro τ C' ⟨x',r,a,b,rfl,rfl,h1,h2,h3,h4⟩;rw[cV]at h2;simp_arith[if_true]
  exact q r x' h1 h2 h3
end Lib
namespace Lib
open PySem L2 TL NF
noncomputable def st1(e:Int)(v:Nat):Int:=if v=1 then e else 0
theorem aCJ{N:Nt}{f:Nat->Int}{c n:Nat}{C:Sto}{e:Int}(A:iA N f c n C)(hm:N.m<40000)(hi:In N n)(hn:1<n)(yd:n<50000){y:Nat->Int}(hy:∀v,v<n->st1 e v<=y v)(hp:Pot N f y)(hb:sm n y - sm n (st1 e)<10^199){Q:T->Sto->Prop}
 (q:∀p,Least N n f (st1 e) p->Q (.cell C.length) (C++[(.l,kH n p)])):wpO (jX [.cell c,.int e] C) Q:=by
 have ah:=A.len;have hf:nJ "Net" "places" C (.cell c)=some (.int n):=kL A.net rfl
 refine iL ?_
 unfold qC;walk_at "b"
 refine fN.mpr (f6.mpr (j5.mpr (oG.mpr (fQ (i7 rfl hf) ⟨_,rfl,⟨by lia,by lia⟩,?_⟩))))
 rw[nX,cF]
 refine gG (xs:=bI n) (fun _=>T.int 0) (fun j _=>f8.mpr (jW.mpr ⟨rfl,rfl⟩)) ?_
 have e0:(bI n).map (fun _=>T.int 0)=kH n fun _=>0:=rfl
 rw[e0];have yk:lc (C++[(Kd.l,kH n fun _=>0)]) C.length=some (kH n fun _=>0):=gS.mpr (by simp)
 refine f8.mpr (gW.mpr (fN.mpr (qZ.mpr (eZ.mpr ⟨_,rfl,eZ.mpr ⟨_,rfl,jW.mpr ⟨_,_,rfl,rfl,_,yk,_,aDE (v:=1) hn,?_⟩⟩⟩))))
 have e1:(C++[(Kd.l,kH n fun _=>0)]).set C.length (Kd.l,(kH n fun _=>0).set 1 (.int e))=C++[(Kd.l,kH n (st1 e))]:=by
  rw[b8 _ _ (bG _),dF,aBH];rfl
 rw[e1];have A1:iA N f c n (C++[(Kd.l,kH n (st1 e))]):=A.app ah
 refine gW.mpr (fN.mpr (f6.mpr (mO (eZ.mpr ⟨_,rfl,oM A1.net rfl,fM.mpr ⟨rfl,qI A1 hm ?_⟩⟩))))
 refine f8.mpr (gW.mpr (fN.mpr ?_))
 refine xC (fun m τ C'=>∃x,τ=[some (.cell c),some (.int e),some (.cell C.length),some (.lst ((opn N f).map fun o=>.cell (pc c o)))]/\C'=C++[(Kd.l,kH n x)]/\Ris N n f (st1 e) x/\sm n y - sm n x<=(m:Int)) (m:=(sm n y - sm n (st1 e)).toNat) (by
  have:(sm n y - sm n (st1 e)).toNat<10^199:=by lia
  exact bP this (aOA (by decide) (by decide))) ⟨st1 e,rfl,rfl,Ris.start,by lia⟩ ?_
 rintro m τ C' ⟨x,rfl,rfl,hR,yf⟩;have A2:iA N f c n (C++[(Kd.l,kH n x)]):=A.app ah
 refine p5.mpr (jB.mpr (fE.mpr (eZ.mpr ⟨_,rfl,fE.mpr (eZ.mpr ⟨_,rfl,fM.mpr ⟨rfl,?_⟩⟩)⟩)))
 refine aGf (x:=x) A2 hi (.inr ah) (by simp) (fun o ho=>oK.mp ho) fun r x' h1 h2 h3=>⟨r,rfl,?_⟩
 have e2:(C++[(Kd.l,kH n x)]).set C.length (Kd.l,kH n x')=C++[(Kd.l,kH n x')]:=by
  rw[b8 _ _ (bG _),dF];rfl
 rw[e2];cases r with
 |true=>
  rw[if_pos rfl];have s1:=h3 rfl;have s2:=(h1 _ hR).sum_le hy hp
  refine i6.mpr ⟨(sm n y - sm n x').toNat,by lia,x',rfl,rfl,h1 _ hR,by lia⟩
 |false=>
  rw[if_neg (by simp)];obtain⟨rfl,h5⟩:=h2 rfl
  exact gW.mpr (iV.mpr (eZ.mpr ⟨_,rfl,q _ (hR.done fun o ho=>h5 o (oK.mpr ho))⟩))
end Lib
namespace Lib
open PySem L2 TL NF
section
variable {α β κ:Type}[DecidableEq α][DecidableEq κ]{kf:α->κ}{vf:β->T}
variable{p:α×β}{rs:List (α×β)}{b:β}
noncomputable def lk(rs:List (α×β))(a:α):Option β:=(rs.find? fun p=>decide (p.1=a)).map (·.2)
noncomputable def l4(rs:List (α×β))(a:α)(b:β):List (α×β):=if a∈rs.map (·.1)then rs.map (fun p=>if p.1=a then(p.1,b)else p)else rs++[(a,b)]
theorem aMr{a:α}:lk ([]:List (α×β)) a=none:=rfl
theorem mE{a:α}:lk (p::rs) a=if p.1=a then some p.2 else lk rs a:=by
 unfold lk;rw[dC];by_cases h:p.1=a
 ·rw[if_pos h,decide_eq_true h];rfl
 ·rw[if_neg h,decide_eq_false h]
theorem aAm{a:α}{b:β}:∀{rs:List (α×β)},lk rs a=some b->(a,b)∈rs
 | [],h=>by cases h
 |p::rs,h=>by
  rw[mE]at h;split at h
  ·rename_i e;cases h;subst e;exact bJ
  ·exact bA _ (aAm h)
theorem oE{a:α}:∀{rs:List (α×β)},(lk rs a).isSome=true↔a∈rs.map (·.1)
 | []=>by simp[aMr]
 |p::rs=>by
  rw[mE,aM,bE];by_cases h:p.1=a
  ·rw[if_pos h];simp[h]
  ·rw[if_neg h,oE];constructor
   ·exact .inr
   ·rintro(z|z)
    ·exact absurd z.symm h
    ·exact z
theorem aCL(inj:∀a b,kf a=kf b->a=b){a:α}:∀{rs:List (α×β)},vl ((rs.map fun p=>kf p.1).zip (rs.map fun p=>vf p.2)) (kf a)=(lk rs a).map vf
 | []=>rfl
 |p::rs=>by
  rw[aM,aM,cE,mE];unfold vl;rw[dC];by_cases h:p.1=a
  ·rw[if_pos h,show decide ((kf p.1,vf p.2).1=kf a)=true from decide_eq_true (by rw[h])];rfl
  ·rw[if_neg h,show decide ((kf p.1,vf p.2).1=kf a)=false from decide_eq_false (fun z=>h (inj _ _ z))]
   exact aCL inj
theorem aAn(inj:∀a b,kf a=kf b->a=b){a:α}:kf a∈(rs.map fun p=>kf p.1)↔a∈rs.map (·.1):=by
 constructor
 ·intro h;obtain⟨p,hp,e⟩:=bL.mp h
  exact bL.mpr ⟨p,hp,inj _ _ e⟩
 ·intro h;obtain⟨p,hp,e⟩:=bL.mp h
  exact bL.mpr ⟨p,hp,by rw[e]⟩
theorem aA6(inj:∀a b,kf a=kf b->a=b){a:α}:pkK (kf a) (rs.map fun p=>kf p.1)=((l4 rs a b).map fun p=>kf p.1)/\pvK (kf a) (vf b) (rs.map fun p=>kf p.1) (rs.map fun p=>vf p.2)=(l4 rs a b).map fun p=>vf p.2:=by
 unfold pkK pvK l4;by_cases h:a∈rs.map (·.1)
 ·rw[if_pos ((aAn inj).mpr h),if_pos ((aAn inj).mpr h),if_pos h];have hz:∀rs:List (α×β),(rs.map fun p=>kf p.1).zip (rs.map fun p=>vf p.2)=rs.map fun p=>(kf p.1,vf p.2):=fun rs=>by rw[List.zip_map']
  constructor
  ·rw[b7];apply cI;intro p _;simp only[d4];split<;>rfl
  ·rw[hz,b7,b7];apply cI;intro p _;simp only[d4];by_cases e:p.1=a
   ·rw[if_pos e,if_pos (by rw[e])]
   ·rw[if_neg e,if_neg (fun z=>e (inj _ _ z))]
 ·rw[if_neg (fun z=>h ((aAn inj).mp z)),if_neg (fun z=>h ((aAn inj).mp z)),if_neg h,bQ,bQ]
  exact⟨rfl,rfl⟩
theorem z6{a:α}:(l4 rs a b).map (·.1)=if a∈rs.map (·.1)then rs.map (·.1)else rs.map (·.1)++[a]:=by
 unfold l4;split
 ·rw[b7];apply cI;intro p _;simp only[d4];split<;>rfl
 ·rw[bQ];rfl
theorem aJ6{a:α}(h:(rs.map (·.1)).Nodup):((l4 rs a b).map (·.1)).Nodup:=by
 rw[z6];split
 ·exact h
 ·rename_i hn
  refine dX.mpr ⟨h,by simp,fun x hx y hy=>?_⟩
  rw[bU.mp hy];rintro rfl;exact hn hx
theorem aHj{a:α}(h:p∈l4 rs a b):p=(a,b)\/p∈rs:=by
 unfold l4 at h;split at h
 ·obtain⟨q,hq,e⟩:=bL.mp h;split at e
  ·rename_i z;rw[<-e,z];exact .inl rfl
  ·rw[<-e];exact .inr hq
 ·rcases bM.mp h with h|h
  ·exact .inr h
  ·exact .inl (bU.mp h)
theorem wN{a x:α}:x∈(l4 rs a b).map (·.1)↔x=a\/x∈rs.map (·.1):=by
 rw[z6];split
 ·rename_i h;constructor
  ·exact .inr
  ·rintro(z|z)
   ·rw[z];exact h
   ·exact z
 ·rw[bM,bU,or_comm]
end
variable{c d:Nat}{rs:List (Nat×List (Nat×Bool))}
theorem aDz{α β:Type}[DecidableEq α]{kf:α->Key}{vf:β->T}(inj:∀a b,kf a=kf b->a=b):∀{fs rs:List (α×β)},(fs.map (·.1)).Nodup->(∀a∈fs.map (·.1),a∉rs.map (·.1))->
 mrgK (fs.map fun p=>kf p.1) (fs.map fun p=>vf p.2) ((rs.map fun p=>kf p.1),(rs.map fun p=>vf p.2))=(((rs++fs).map fun p=>kf p.1),((rs++fs).map fun p=>vf p.2))
 | [],rs,_,_=>by simp[mrgK]
 |p::fs,rs,hn,hd=>by
  rw[aM,bX]at hn;rw[aM,aM];unfold mrgK;dsimp only;obtain⟨e1,e2⟩:=aA6 (vf:=vf) inj (a:=p.1) (b:=p.2) (rs:=rs);have hp:p.1∉rs.map (·.1):=hd _ (by simp);rw[e1,e2];have e3:l4 rs p.1 p.2=rs++[p]:=by unfold l4;rw[if_neg hp]
  rw[e3,aDz inj hn.2 (fun a ha=>?_),cP]
  ·rfl
  ·rw[bQ,bM,aM,bC,bU];rintro(z|z)
   ·exact hd a (by rw[aM];exact bA _ ha) z
   ·rw[z]at ha;exact hn.1 ha
noncomputable def kyN(v:Nat):Key:=.inl (v:Int)
theorem rZ(a b:Nat)(h:kyN a=kyN b):a=b:=by
 have:(a:Int)=b:=Sum.inl.inj h
 lia
def rtT(c:Nat)(r:List (Nat×Bool)):T:=.lst (r.map fun o=>.cell (pc c o))
def mD(c:Nat)(rs:List (Nat×List (Nat×Bool))):Cl:=(.dk (rs.map fun p=>kyN p.1),rs.map fun p=>rtT c p.2)
theorem uU{C:Sto}{v:Nat}(e:C[d]?=some (mD c rs)):dval C (.cell d) (.int v)=some ((lk rs v).map (rtT c)):=by
 unfold dval;rw[sZ e];show some (vl _ (kyN v))=_;rw[aCL rZ]
theorem aJl{C:Sto}{v:Nat}{r:List (Nat×Bool)}(e:C[d]?=some (mD c rs))(hl:rs.length<lim):dput C (.cell d) (.int v) (rtT c r)=some (C.set d (mD c (l4 rs v r))):=by
 unfold dput;rw[sZ e];show(if _ then some (C.set d (.dk (pkK (kyN v) _),pvK (kyN v) _ _ _))else none)=_;rw[if_pos (by simpa using hl)];obtain⟨e1,e2⟩:=aA6 (vf:=rtT c) rZ (a:=v) (b:=r) (rs:=rs);rw[e1,e2];rfl
end Lib
namespace Lib
open PySem L2 TL NF
theorem aGU{α β:Type}[DecidableEq α]{rs:List (α×β)}{a:α}{b:β}:(l4 rs a b).length<=rs.length+1:=by
 unfold l4;split
 ·simp
 ·simp
theorem xE{N:Nt}{f:Nat->Int}{c d:Nat}{pl:Int}{C:Sto}{rs:List (Nat×List (Nat×Bool))}{ts:List (Nat×Bool)}(A:iA N f c pl C)(e:C[d]?=some (mD c rs))(ht:∀o∈ts,o.1<N.m)(hl:ts.length<90000)(hr:∀p∈rs,p.2.length<=1000){Q:T->Sto->Prop}
 (q:∀fs:List (Nat×List (Nat×Bool)),(fs.map (·.1)).Nodup->(∀a∈fs.map (·.1),a∉rs.map (·.1))->(∀p∈fs,∃o∈ts,∃r0,(rt N o,r0)∈rs/\p=(rh N o,r0++[o]))->(∀o∈ts,rt N o∈rs.map (·.1)->rh N o∉rs.map (·.1)->rh N o∈fs.map (·.1))->Q (.cell C.length) (C++[mD c fs])):
 wpO (lU [.cell d,.lst (ts.map fun o=>.cell (pc c o))] C) Q:=by
 have ah:=A.len;have hd:=lB e
 refine iL ?_
 unfold qN;walk_at "b"
 refine fN.mpr (f6.mpr (aBJ.mpr (f8.mpr (gW.mpr (fN.mpr (lQ.mpr (eZ.mpr ⟨_,rfl,_,rfl,?_⟩)))))))
 refine iR (xs:=ts) (en:=fun o=>T.cell (pc c o)) (fun j τ C'=>∃fs a,τ=[some (.cell d),some (.lst (ts.map fun o=>.cell (pc c o))),some (.cell C.length),a]/\C'=C++[mD c fs]/\fs.length<=j/\(fs.map (·.1)).Nodup/\(∀a∈fs.map (·.1),a∉rs.map (·.1))/\
  (∀p∈fs,∃o∈ts,∃r0,(rt N o,r0)∈rs/\p=(rh N o,r0++[o]))/\∀o∈ts.take j,rt N o∈rs.map (·.1)->rh N o∉rs.map (·.1)->rh N o∈fs.map (·.1)) ?_ ?_ ?_
 ·exact⟨[],_,rfl,rfl,bG _,by simp,by simp,by simp,by simp⟩
 ·rintro j o τ C' hj ⟨fs,a,rfl,rfl,h1,h2,h3,h4,h5⟩;have hot:=bD hj;have hjl:j<ts.length:=(aR.mp hj).1;have A':iA N f c pl (C++[mD c fs]):=A.app ah;obtain⟨f1,f2,f3,f4,f5⟩:=A'.fld (ht o hot);have e':(C++[mD c fs])[d]?=some (mD c rs):=by rw[aZ hd];exact e
  have eF:(C++[mD c fs])[C.length]?=some (mD c fs):=by simp
  have v1:=uU (v:=rt N o) e';have v2:=uU (v:=rh N o) e';have tk:∀P:Nat×Bool->Prop,(∀o∈ts.take j,P o)->P o->∀o∈ts.take (j+1),P o:=fun P ha hb z hz=>by
   rw[aOe,hj]at hz;rcases bM.mp hz with hz|hz
   ·exact ha z hz
   ·have:z=o:=by simpa using hz
    rw[this];exact hb
  unfold oT
  refine f8.mpr (mN.mpr (aAo.mpr (jZ.mpr (gA.mpr ?_))))
  refine fQ (i7 (t:=.cell (pc c o)) rfl f1) (eZ.mpr ⟨_,rfl,aAc.mpr ⟨_,v1,_,rfl,?_⟩⟩)
  cases l1:lk rs (rt N o)with
  |none=>
   rw[if_neg (by simp),if_neg (by simp)]
   refine i6.mpr ⟨trivial,fs,_,rfl,rfl,by lia,h2,h3,h4,tk _ h5 fun z=>?_⟩
   have:=oE.mpr z;rw[l1]at this;cases this
  |some r0=>
   rw[if_pos (by simp)]
   refine jZ.mpr (gA.mpr ?_)
   refine fQ (i7 (t:=.cell (pc c o)) rfl f2) (eZ.mpr ⟨_,rfl,aAc.mpr ⟨_,v2,_,rfl,?_⟩⟩)
   cases l2:lk rs (rh N o)with
   |some r1=>
    rw[if_neg (by simp)]
    refine i6.mpr ⟨trivial,fs,_,rfl,rfl,by lia,h2,h3,h4,tk _ h5 fun _ z=>?_⟩
    exact absurd (oE.mp (by rw[l2];rfl)) z
   |none=>
    rw[if_pos (by simp)];have hn:rh N o∉rs.map (·.1):=fun z=>by
     have:=oE.mpr z;rw[l2]at this;cases this
    have jg:r0.length<=1000:=hr _ (aAm l1)
    refine aBF (gF.mpr (nQ.mpr (gA.mpr (eZ.mpr ⟨_,rfl,?_⟩))))
    refine fQ (i7 (t:=.cell (pc c o)) rfl f1) (rX.mpr ⟨rtT c r0,by rw[v1,l1];rfl,?_⟩)
    refine gF.mpr (jO.mpr (fE.mpr (eZ.mpr ⟨_,rfl,fM.mpr ⟨by simp[lim],?_⟩⟩)))
    refine p6.mpr ⟨_,rfl,_,rfl,by simp[lim];lia,eZ.mpr ⟨_,rfl,?_⟩⟩
    refine fQ (i7 (t:=.cell (pc c o)) rfl f2) ?_
    have er:(.lst ((r0.map fun o=>T.cell (pc c o))++[T.cell (pc c o)]):T)=rtT c (r0++[o]):=by unfold rtT;rw[bQ];rfl
    refine⟨_,by rw[er];exact aJl eF (by simp[lim];lia),trivial,l4 fs (rh N o) (r0++[o]),_,rfl,?_,?_,aJ6 h2,?_,?_,?_⟩
    ·rw[b8 _ _ (bG _),dF];rfl
    ·exact cB aGU (by lia)
    ·intro a ha;rcases wN.mp ha with rfl|ha
     ·exact hn
     ·exact h3 a ha
    ·intro p hp;rcases aHj hp with rfl|hp
     ·exact⟨o,hot,r0,aAm l1,rfl⟩
     ·exact h4 p hp
    ·exact tk _ (fun z hz z1 z2=>wN.mpr (.inr (h5 z hz z1 z2))) fun _ _=>wN.mpr (.inl rfl)
 ·rintro τ C' ⟨fs,a,rfl,rfl,h1,h2,h3,h4,h5⟩;rw[cV]at h5
  exact gW.mpr (iV.mpr (eZ.mpr ⟨_,rfl,q fs h2 h3 h4 h5⟩))
end Lib
namespace Lib
open PySem L2 TL NF
variable{Q:T->Sto->Prop}{N:Nt}{p:Nat->Int}
theorem aET{τ:TSt}{C:Sto}{fo fv:FE}{c1:Nat}(h:wpE fo τ C fun td C1=>td=.cell c1/\isDc C1 td=true/\wpE fv τ C1 fun te C2=>∃c2 ks ks' ts cm,te=.cell c2/\C2[c1]?=some (.dk ks,ts)/\C2[c2]?=some (.dk ks',cm)/\c1≠c2/\ks.length+ks'.length<=lim/\
 Q .non (C2.set c1 (.dk (mrgK ks' cm (ks,ts)).1,(mrgK ks' cm (ks,ts)).2))):wpE (v3 fo fv) τ C Q:=by
 obtain⟨td,C1,e1,rfl,hd,te,C2,e2,c2,ks,ks',ts,cm,rfl,e3,e4,hn,hl,q⟩:=h
 exact aFR ⟨_,C1,e1,rfl,hd,_,C2,e2,rfl,e3,e4,hn,hl,q⟩
theorem mP:∀(n:Nat)(l:List Nat),l.Nodup->(∀a∈l,a<n)->l.length<=n
 |0,l,_,h=>by
  cases l with
  |nil=>exact bG _
  |cons a l=>exact absurd (h a bJ) (by lia)
 |n+1,l,hn,h=>by
  have h1:=mP n (l.erase n) (hn.erase n) fun a ha=>by
   have hm:=(List.Nodup.mem_erase_iff hn).mp ha;have:=h a hm.2;have:=hm.1
   lia
  by_cases hm:n∈l
  ·rw[aOn hm]at h1;lia
  ·rw[List.erase_of_not_mem hm]at h1;lia
structure Rts(N:Nt)(n:Nat)(f p:Nat->Int)(rs:List (Nat×List (Nat×Bool))):Prop where
 nd:(rs.map (·.1)).Nodup
 lt:∀a∈rs.map (·.1),a<n
 z:0∈rs.map (·.1)
 rte:∀x∈rs,Rte N f p x.2 x.1/\(∀v∈x.2.map (rh N),v∈rs.map (·.1))
theorem Rts.len{n:Nat}{f:Nat->Int}{rs:List (Nat×List (Nat×Bool))}(R:Rts N n f p rs){x:Nat×List (Nat×Bool)}(hx:x∈rs):x.2.length<=n:=by
 obtain⟨h1,h2⟩:=R.rte x hx;have:=mP n _ (bX.mp h1.nd).2 fun a ha=>R.lt a (h2 a ha)
 simpa using this
theorem wV{f:Nat->Int}{c n mq:Nat}{pl:Int}{C:Sto}(A:iA N f c pl C)(hm:N.m<40000)(hi:In N n)(hn:n<40)(ye:0<n)(ol:C[mq]?=some (.l,kH n p))
 (reach:∀R:Nat->Prop,R 0->(∀o,Open N f o->R (rt N o)->p (rt N o)+rd N o=p (rh N o)->R (rh N o))->R 1)(q:∀r G,Rte N f p r 1->Q (rtT c r) (C++G)):
 wpO (lS [.lst ((opn N f).map fun o=>.cell (pc c o)),.cell mq] C) Q:=by
 have ah:=A.len;have gn:lc C mq=some (kH n p):=gS.mpr ol;have cv:∀o:Nat×Bool,o.1<N.m->rt N o<n/\rh N o<n:=fun o ho=>by
  obtain⟨k,d⟩:=o;have:=hi k ho;unfold rt rh;cases d<;>simp<;>lia
 have hol:(opn N f).length<90000:=by
  have:(opn N f).length<=(both N).length:=aOu _ _;have h2:(both N).length=N.m+N.m:=by simp[both]
  lia
 refine iL ?_
 unfold qL;walk_at "b"
 refine fN.mpr (f6.mpr (gF.mpr (j4.mpr (eZ.mpr ⟨_,rfl,_,rfl,by simp[lim];lia,?_⟩))))
 refine u3 (xs:=opn N f) (en:=fun o=>T.cell (pc c o)) (fun o=>decide (p (rt N o)+rd N o=p (rh N o))) (fun o=>T.cell (pc c o)) (fun o ho=>?_) ?_
 ·have bw:=oK.mp ho;obtain⟨f1,f2,f3,f4,f5⟩:=A.fld bw.1;obtain⟨k1,k2⟩:=cv o bw.1
  refine f8.mpr (jZ.mpr (gA.mpr (gA.mpr ?_)))
  refine fQ (aA3 (a:=1) (k:=0) (p:=.cell (pc c o)) rfl rfl gn f1 k1) ?_
  refine fQ (i7 rfl f3) (nT.mpr ?_)
  refine fQ (aA3 (a:=1) (k:=0) (p:=.cell (pc c o)) rfl rfl gn f2 k2) ?_
  refine aA7.mpr ⟨_,rfl,rfl,rfl,fun _=>eZ.mpr ⟨_,rfl,rfl,rfl⟩⟩
 refine f8.mpr (gW.mpr (fN.mpr (f6.mpr (aFA (k:=kyN 0) (x:=rtT c []) ?_))))
 refine jW.mpr ⟨rfl,gF.mpr (jO.mpr (fM.mpr ⟨by decide,rfl,by simp,?_⟩))⟩
 have e0:(C++[(Kd.dk [],[])]).set C.length (Kd.dk [kyN 0],[rtT c []])=C++[mD c [(0,[])]]:=by
  rw[b8 _ _ (bG _),dF];rfl
 rw[e0]
 refine f8.mpr (gW.mpr (fN.mpr ?_))
 refine xC (fun m τ C'=>∃rs G,τ=[some (.lst ((opn N f).map fun o=>.cell (pc c o))),some (.cell mq),some (.lst (((opn N f).filter fun o=>decide (p (rt N o)+rd N o=p (rh N o))).map fun o=>.cell (pc c o))),some (.cell C.length)]/\C'=C++mD c rs::G/\Rts N n f p rs/\n - rs.length<=m) (m:=n) (by lia) ?_ ?_
 ·refine⟨[(0,[])],[],rfl,rfl,⟨by simp,by simpa using ye,by simp,fun x hx=>?_⟩,by lia⟩
  have:x=(0,[]):=by simpa using hx
  subst this
  exact⟨Rte.nil,by simp⟩
 rintro m τ C' ⟨rs,G,rfl,rfl,R,yf⟩;have eD:(C++mD c rs::G)[C.length]?=some (mD c rs):=by simp
 have A':iA N f c pl (C++mD c rs::G):=A.app ah
 refine jZ.mpr (gA.mpr (jW.mpr (eZ.mpr ⟨_,rfl,aAc.mpr ⟨_,uU (v:=1) eD,_,rfl,?_⟩⟩)))
 cases l1:lk rs 1 with
 |some r=>
  rw[if_neg (by simp)]
  refine gW.mpr (iV.mpr (gA.mpr (eZ.mpr ⟨_,rfl,jW.mpr (rX.mpr ⟨rtT c r,?_,?_⟩)⟩)))
  ·have:=uU (v:=1) eD;rw[l1]at this;exact this
  ·exact q r _ (R.rte _ (aAm l1)).1
 |none=>
  rw[if_pos (by simp)];unfold oR
  refine oY.mpr (aET (c1:=C.length) (eZ.mpr ⟨_,rfl,rfl,by unfold isDc;rw[sZ eD];rfl,jB.mpr (fE.mpr (eZ.mpr ⟨_,rfl,fE.mpr (eZ.mpr ⟨_,rfl,fM.mpr ⟨rfl,?_⟩⟩)⟩))⟩))
  refine xE A' eD (fun o ho=>(oK.mp ((dB.mp ho).1)).1) (eB (aOu _ _) hol) (fun x hx=>cB (R.len hx) (by lia)) fun fs h1 h2 h3 h4=>?_
  have bo:∀a∈fs.map (·.1),a<n:=fun a ha=>by
   obtain⟨x,hx,rfl⟩:=bL.mp ha;obtain⟨o,ho,r0,_,e⟩:=h3 x hx;rw[e];exact(cv o (oK.mp ((dB.mp ho).1)).1).2
  have R':Rts N n f p (rs++fs):=by
   refine⟨?_,fun a ha=>?_,?_,fun x hx=>?_⟩
   ·rw[bQ]
    exact dX.mpr ⟨R.nd,h1,fun a ha b hb z=>h2 b hb (z ▸ ha)⟩
   ·rw[bQ]at ha;rcases bM.mp ha with ha|ha
    ·exact R.lt a ha
    ·exact bo a ha
   ·rw[bQ];exact bM.mpr (.inl R.z)
   ·rcases bM.mp hx with hx|hx
    ·refine⟨(R.rte x hx).1,fun v hv=>?_⟩
     rw[bQ];exact bM.mpr (.inl ((R.rte x hx).2 v hv))
    ·obtain⟨o,ho,r0,xv,e⟩:=h3 x hx;have bw:=oK.mp ((dB.mp ho).1);have htg:p (rt N o)+rd N o=p (rh N o):=of_decide_eq_true (dB.mp ho).2;have lx:=h2 x.1 (cM hx);obtain⟨g1,g2⟩:=R.rte _ xv;rw[e]at lx|-
     refine⟨g1.snoc bw rfl htg fun z=>?_,fun v hv=>?_⟩
     ·rcases bE.mp z with z|z
      ·exact lx (by rw[z];exact R.z)
      ·exact lx (g2 _ z)
     ·rw[bQ]at hv;rw[bQ];rcases bM.mp hv with hv|hv
      ·exact bM.mpr (.inl (g2 v hv))
      ·have:v=rh N o:=by simpa using hv
       rw[this]
       exact bM.mpr (.inr (bL.mpr ⟨x,hx,by rw[e]⟩))
  have ay:fs≠[]:=fun z=>by
   subst z;have:=reach (fun v=>v∈rs.map (·.1)) R.z fun o ho h5 h6=>by
    by_cases h7:rh N o∈rs.map (·.1)
    ·exact h7
    ·exact absurd (h4 o (dB.mpr ⟨oK.mpr ho,decide_eq_true h6⟩) h5 h7) (by simp)
   have h8:=oE.mpr this;rw[l1]at h8;cases h8
  have hfl:fs.length<=n:=by
   have:=mP n _ h1 bo;simpa using this
  have jg:(rs++fs).length<=n:=by
   have:=mP n _ R'.nd R'.lt;simpa using this
  have hrl2:rs.length<=n:=by rw[aU]at jg;lia
  have hf1:0<fs.length:=aOl.mpr ay
  refine⟨_,rs.map (fun x=>kyN x.1),fs.map (fun x=>kyN x.1),rs.map (fun x=>rtT c x.2),fs.map (fun x=>rtT c x.2),rfl,?_,?_,?_,?_,?_⟩
  ·exact(by simp:(C++mD c rs::G++[mD c fs])[C.length]?=some (mD c rs))
  ·exact(by simp:(C++mD c rs::G++[mD c fs])[(C++mD c rs::G).length]?=some (mD c fs))
  ·simp
  ·rw[aP,aP];simp[lim];lia
  ·rw[aDz rZ h1 h2]
   refine⟨n - (rs++fs).length,?_,rs++fs,G++[mD c fs],rfl,?_,R',bG _⟩
   ·rw[aU]at jg|-;lia
   ·rw[cP,b8 _ _ (bG _),dF];rfl
end Lib
namespace Lib
open PySem L2 TL NF
variable{N:Nt}{r:List (Nat×Bool)}{o:Nat×Bool}{c:Nat}{pl:Int}
def rmin(N:Nt)(f:Nat->Int)(r:List (Nat×Bool)):Int:=tM (r.map (rr N f))
theorem xW:∀{ns:List Int},ns≠[]->tM ns∈ns/\∀a∈ns,tM ns<=a:=by
 have key:∀(ns:List Int)(n:Int),(ns.foldl (fun a b=>if b<a then b else a) n=n\/ns.foldl (fun a b=>if b<a then b else a) n∈ns)/\ns.foldl (fun a b=>if b<a then b else a) n<=n/\∀a∈ns,ns.foldl (fun a b=>if b<a then b else a) n<=a:=by
  intro ns;induction ns with
  |nil=>intro n;exact⟨.inl rfl,bZ _,fun a h=>nomatch h⟩
  |cons m ns ih=>
   intro n;rw[aOC];obtain⟨h1,h2,h3⟩:=ih (if m<n then m else n);by_cases hm:m<n
   ·rw[if_pos hm]at h1 h2 h3|-
    refine⟨?_,by lia,fun a ha=>?_⟩
    ·rcases h1 with h1|h1
     ·rw[h1];simp
     ·exact .inr (bA _ h1)
    ·rcases bE.mp ha with rfl|ha
     ·exact h2
     ·exact h3 a ha
   ·rw[if_neg hm]at h1 h2 h3|-
    refine⟨?_,h2,fun a ha=>?_⟩
    ·rcases h1 with h1|h1
     ·exact .inl h1
     ·exact .inr (bA _ h1)
    ·rcases bE.mp ha with rfl|ha
     ·lia
     ·exact h3 a ha
 intro ns ay;cases ns with
 |nil=>exact absurd rfl ay
 |cons n ns=>
  obtain⟨h1,h2,h3⟩:=key ns n
  refine⟨?_,fun a ha=>?_⟩
  ·rcases h1 with h1|h1
   ·show aPk (fun a b=>if b<a then b else a) n ns∈n::ns;rw[h1];simp
   ·exact bA _ h1
  ·rcases bE.mp ha with rfl|ha
   ·exact h2
   ·exact h3 a ha
theorem aKa{f:Nat->Int}(ho:o∈r):rmin N f r<=rr N f o:=
 (xW (ns:=r.map (rr N f)) (by rintro z;have:=aOF.mp z;subst this;cases ho)).2 _ (cM ho)
theorem aGP{f:Nat->Int}(hr:r≠[])(ho:∀o∈r,Open N f o):0<rmin N f r:=by
 obtain⟨h1,h2⟩:=xW (ns:=r.map (rr N f)) (by rintro z;exact hr (aOF.mp z));obtain⟨o,bw,e⟩:=bL.mp h1;unfold rmin;rw[<-e];exact(ho o bw).2
theorem aDk{f:Nat->Int}{C:Sto}(A:iA N f c pl C)(hr:r≠[])(ho:∀o∈r,o.1<N.m)(hl:r.length<1000){Q:T->Sto->Prop}(q:Q (.int (rmin N f r)) C):wpO (pY [rtT c r] C) Q:=by
 refine iL ?_
 unfold zY;walk_at "b"
 refine iV.mpr (hX.mpr (fE.mpr (gF.mpr (j4.mpr (eZ.mpr ⟨_,rfl,_,rfl,by simp[lim];lia,?_⟩)))))
 refine gG (xs:=r) (en:=fun o=>T.cell (pc c o)) (fun o=>T.int (rr N f o)) (fun o bw=>f8.mpr (fQ (i7 (t:=.cell (pc c o)) rfl (A.fld (ho o bw)).2.2.2.1) ⟨rfl,rfl⟩)) ?_
 refine fM.mpr (r9.mpr ⟨_,rfl,_,pJ (f:=rr N f),?_,q⟩)
 cases r with
 |nil=>exact absurd rfl hr
 |cons o r=>rfl
theorem iA.pour1{f:Nat->Int}{C:Sto}(A:iA N f c pl C)(ho:o.1<N.m)(x:Int):
 iA N (up f o.1 (f o.1+if o.2 then x else -x)) c pl ((C.set (pc c o) (.o "Pipe" pnm,[.int (rt N o),.int (rh N o),.int (rd N o),.int (rr N f o - x),.cell (pc c (o.1,!o.2))])).set (pc c (o.1,!o.2)) (.o "Pipe" pnm,[.int (rt N (o.1,!o.2)),.int (rh N (o.1,!o.2)),.int (rd N (o.1,!o.2)),.int (rr N f (o.1,!o.2)+x),.cell (pc c (o.1,!!o.2))])):=by
 have l1:=lB (A.pip o ho);have l2:=lB (A.pip (o.1,!o.2) ho);obtain⟨k,b⟩:=o;have ay:pc c (k,b)≠pc c (k,!b):=by unfold pc;cases b<;>simp
 have low:∀i,i<c+2->i≠pc c (k,b)/\i≠pc c (k,!b):=fun i hi=>by unfold pc;constructor<;>lia
 refine⟨?_,?_,fun o' ir=>?_⟩
 ·rw[aS (Ne.symm (low c (by lia)).2),aS (Ne.symm (low c (by lia)).1)];exact A.net
 ·rw[aS (Ne.symm (low (c+1) (by lia)).2),aS (Ne.symm (low (c+1) (by lia)).1)];exact A.lst
 ·obtain⟨k',b'⟩:=o';by_cases hk:k'=k
  ·subst hk;by_cases hb:b'=b
   ·subst hb;rw[aS (Ne.symm ay),mQ l1];unfold pcell rr;rw[zQ];cases b'<;>simp<;>lia
   ·have ua:b'= !b:=by cases b<;>cases b'<;>simp_all
    subst ua;rw[mQ (by rw[cJ];exact l2)];unfold pcell rr;rw[zQ];cases b<;>simp<;>lia
  ·have n1:pc c (k',b')≠pc c (k,b):=by unfold pc;dsimp only;split<;>split<;>lia
   have n2:pc c (k',b')≠pc c (k,!b):=by unfold pc;dsimp only;split<;>split<;>lia
   rw[aS (Ne.symm n2),aS (Ne.symm n1),A.pip (k',b') ir];unfold pcell rr;rw[xU hk]
theorem aKu{x:Int}:∀{r:List (Nat×Bool)}{f:Nat->Int}{C:Sto},iA N f c pl C->(∀o∈r,o.1<N.m)->∀{Q:T->Sto->Prop},(∀C',iA N (pr r x f) c pl C'->C'.length=C.length->(∀i,i<c\/c+2+2*N.m<=i->C'[i]?=C[i]?)->Q .non C')->wpO (aA2 [rtT c r,.int x] C) Q:=by
 intro r f C A ho Q q
 refine iL ?_
 unfold aHR;walk_at "b"
 refine lQ.mpr (eZ.mpr ⟨_,rfl,_,rfl,?_⟩)
 refine iR (xs:=r) (en:=fun o=>T.cell (pc c o)) (fun j τ C'=>∃a,τ=[some (rtT c r),some (.int x),a]/\iA N (pr (r.take j) x f) c pl C'/\C'.length=C.length/\∀i,i<c\/c+2+2*N.m<=i->C'[i]?=C[i]?) ⟨_,rfl,A,rfl,fun _ _=>rfl⟩ ?_ ?_
 ·rintro j o τ C' hj ⟨a,rfl,A',hl,oq⟩;have bw:=ho o (bD hj);obtain⟨f1,f2,f3,f4,f5⟩:=A'.fld bw;have A2:=A'.pour1 bw x;have l2:=lB (A'.pip (o.1,!o.2) bw);have ay:pc c o≠pc c (o.1,!o.2):=by obtain⟨k,b⟩:=o;unfold pc;cases b<;>simp
  have hpr:∀(r:List (Nat×Bool))(f:Nat->Int),pr (r++[o]) x f=up (pr r x f) o.1 (pr r x f o.1+if o.2 then x else -x):=fun r=>by
   induction r with
   |nil=>intro f;rfl
   |cons e r ih=>intro f;show pr (r++[o]) x _=_;rw[ih];rfl
  unfold aCm
  refine f8.mpr (fN.mpr (wK (i:=rr N (pr (r.take j) x f) o) (j:=x) (eZ.mpr ⟨_,rfl,f4,eZ.mpr ⟨_,rfl,rfl,_,kX (A'.pip o bw) (by decide) rfl rfl,?_⟩⟩)))
  have g5:nJ "Pipe" "back" (C'.set (pc c o) (.o "Pipe" pnm,[.int (rt N o),.int (rh N o),.int (rd N o),.int (rr N (pr (r.take j) x f) o - x),.cell (pc c (o.1,!o.2))])) (.cell (pc c o))=some (.cell (pc c (o.1,!o.2))):=kL (mQ (lB (A'.pip o bw))) rfl;have g6:(C'.set (pc c o) (.o "Pipe" pnm,[.int (rt N o),.int (rh N o),.int (rd N o),.int (rr N (pr (r.take j) x f) o - x),.cell (pc c (o.1,!o.2))]))[pc c (o.1,!o.2)]?=some (pcell N (pr (r.take j) x f) c (o.1,!o.2)):=by
   rw[aS ay];exact A'.pip (o.1,!o.2) bw
  refine gW.mpr (wK (i:=rr N (pr (r.take j) x f) (o.1,!o.2)) (j:=x) (fQ (i7 (t:=.cell (pc c o)) rfl g5) ⟨kL g6 rfl,eZ.mpr ⟨_,rfl,rfl,_,kX g6 (by decide) rfl rfl,trivial,_,rfl,?_,?_,?_⟩⟩))
  ·rw[aOe,hj,dI,hpr]
   exact A2
  ·rw[cJ,cJ];exact hl
  ·intro i hi;rw[aS (by unfold pc;split<;>lia),aS (by unfold pc;split<;>lia)]
   exact oq i hi
 ·rintro τ C' ⟨a,rfl,A',hl,oq⟩;rw[cV]at A'
  exact q C' A' hl oq
end Lib
namespace Lib
open PySem L2 TL NF
variable{w:Wk}{es:List (Nat×Nat)}{P:Int}{p:Nat->Int}{c:Nat}{Q:T->Sto->Prop}
structure Wel(w:Wk)(n:Nat)(es:List (Nat×Nat))(P:Int):Prop where
 n8:n<=8
 m:(net w n es P).m<40000
 ein:∀e∈es,e.1<n/\e.2<n
 rk:∃r:Nat->Int,(∀i,i<n->0<=r i/\r i<n)/\∀e∈es,r e.1<r e.2
 l0:∀i,i<n->0<=w.l i
 pP:sm n w.p<P
 big:sm n w.p<10^199
theorem Wel.open{n:Nat}(W:Wel w n es P){f:Nat->Int}{a:Int}(G:Good w n es P f a p)(ha:a<P):∀k,k<(net w n es P).m->isU n k=false->f k<(net w n es P).c k:=fun k hk hu=>by
 obtain⟨r,h1,h2⟩:=W.rk
 exact NF.plenty G.flo G.cap h1 h2 W.ein ha hk hu
theorem aIl:st1 0=fun _=>0:=by funext v;unfold st1;split<;>rfl
theorem aN7{n:Nat}:sm n (fun _=>0)=0:=m5 fun _ _=>rfl
theorem moments0{n:Nat}(W:Wel w n es P){f:Nat->Int}{a:Int}{C:Sto}(A:iA (net w n es P) f c (2*n+2:Nat) C)(G:Good w n es P f a p)(hb:sm (2*n+2) p<10^199)
 (q:∀p',Least (net w n es P) (2*n+2) f (fun _=>0) p'->Good w n es P f a p'->(∀v,v<2*n+2->p' v<=p v)->Q (.cell C.length) (C++[(.l,kH (2*n+2) p')])):wpO (jX [.cell c,.int 0] C) Q:=by
 refine aCJ A W.m (aAY W.ein) (by lia) (by have:=W.n8;lia) (y:=p) (fun v hv=>by rw[aIl];exact G.ge v hv) G.pot (by rw[aIl,aN7];lia) fun p' L=>?_
 rw[aIl]at L;obtain⟨G',h⟩:=G.least L
 exact q p' L G' h
structure Filled(w:Wk)(n:Nat)(es:List (Nat×Nat))(P:Int)(e:Int)(f0:Nat->Int)(a0:Int)(p0 f p:Nat->Int)(a:Int):Prop where
 good:Good w n es P f a p
 least:Least (net w n es P) (2*n+2) f (fun _=>0) p
 le:∀v,v<2*n+2->p v<=p0 v
 ready:p 1<=e
 how:f=f0\/a0<a/\∃q,Good w n es P f a q/\e<q 1/\∀v,v<2*n+2->q v<=p0 v
theorem aJz{n:Nat}(W:Wel w n es P){E e:Int}{b:Nat->Int}(TM:Tim n es E b w.l)(hE:E<=e)(he0:0<=e){f0 p0:Nat->Int}{a0:Int}(G0:Good w n es P f0 a0 p0)(jy:a0<=sm n w.p)(a00:0<=a0)(hb:sm (2*n+2) p0<10^199)
 {C:Sto}(A:iA (net w n es P) f0 c (2*n+2:Nat) C)
 (q:∀f p a C',Filled w n es P e f0 a0 p0 f p a->a<=sm n w.p->a0<=a->iA (net w n es P) f c (2*n+2:Nat) C'->C.length<=C'.length->(∀i,i<C.length->(i<c\/c+2+2*(net w n es P).m<=i)->C'[i]?=C[i]?)->Q .non C'):
 wpO (oB [.cell c,.int e] C) Q:=by
 have ah:=A.len;have hn8:=W.n8
 refine iL ?_
 unfold wY;walk_at "b"
 refine fN.mpr (f6.mpr (mO (eZ.mpr ⟨_,rfl,oM A.net rfl,fE.mpr (jW.mpr (fM.mpr ⟨rfl,moments0 W A G0 hb fun p1 L1 G1 h1=>?_⟩))⟩)))
 refine f8.mpr (gW.mpr ?_)
 refine xC (fun m τ C'=>∃f p a mq x,τ=[some (.cell c),some (.int e),some (.cell mq),x]/\C'[mq]?=some (.l,kH (2*n+2) p)/\iA (net w n es P) f c (2*n+2:Nat) C'/\Good w n es P f a p/\Least (net w n es P) (2*n+2) f (fun _=>0) p/\(∀v,v<2*n+2->p v<=p0 v)/\
  a<=sm n w.p/\a0<=a/\(f=f0\/a0<a/\∃q,Good w n es P f a q/\e<q 1/\∀v,v<2*n+2->q v<=p0 v)/\C.length<=C'.length/\(∀i,i<C.length->(i<c\/c+2+2*(net w n es P).m<=i)->C'[i]?=C[i]?)/\sm n w.p+1 - a<=(m:Int)) (m:=(sm n w.p+1 - a0).toNat) ?_ ?_ ?_
 ·have h2:=W.big;have h3:(sm n w.p+1 - a0).toNat<=10^199:=by lia
  exact eB h3 (Nat.pow_lt_pow_right (by decide) (by decide))
 ·refine⟨f0,p1,a0,C.length,_,rfl,by simp,A.app ah,G1,L1,h1,jy,bZ _,.inl rfl,by simp,fun i hi _=>aZ hi,by lia⟩
 rintro m τ C' ⟨f,p,a,mq,x,rfl,ol,A',G,L,hle,ha,zc,how,hCl,oq,yf⟩;have gn:lc C' mq=some (kH (2*n+2) p):=gS.mpr ol
 refine jZ.mpr (gA.mpr (gA.mpr (eZ.mpr ⟨_,rfl,jW.mpr (lY.mpr ⟨_,gn,_,aDV (v:=1) (by lia),eZ.mpr ⟨_,rfl,nT.mpr ⟨_,rfl,?_⟩⟩⟩)⟩)))
 by_cases hp:e<p 1
 ·rw[if_pos (decide_eq_true hp)];have ye:0<n:=by
   rcases Nat.eq_zero_or_pos n with z|z
   ·exfalso;have hm0:(net w n es P).m=0:=by
     show 4*n+es.length=0;have:es=[]:=by
      cases es with
      |nil=>rfl
      |cons x r=>have:=(W.ein x bJ).1;lia
     rw[this,z];rfl
    have:=L.le (fun _=>0) (fun _ _=>bZ _) (fun k hk=>by lia) 1 (by lia)
    lia
   ·exact z
  have ho:=W.open G (eI ha W.pP);have su:=A'.len;unfold rM
  refine fN.mpr (f6.mpr (jB.mpr (fE.mpr (mO (eZ.mpr ⟨_,rfl,oM A'.net rfl,fM.mpr ⟨rfl,qI A' W.m ?_⟩⟩)))))
  refine fE.mpr (eZ.mpr ⟨_,rfl,fM.mpr ⟨rfl,?_⟩⟩)
  refine wV A' W.m (aAY W.ein) (by lia) (by lia) ol (fun R r0 hc=>G.route L ho W.ein W.l0 ye R r0 hc) fun r G2 hr=>?_
  have A2:iA (net w n es P) f c (2*n+2:Nat) (C'++G2):=A'.app su;have ay:r≠[]:=fun z=>by
   subst z;have:=hr.wk
   exact absurd (show(0:Nat)=1 from this) (by decide)
  have vc:∀o∈r,o.1<(net w n es P).m:=fun o bw=>(hr.op o bw).1
  have cv:=aAY (w:=w) (P:=P) W.ein;have jg:r.length<1000:=by
   have h5:=mP (2*n+2) _ (bX.mp hr.nd).2 fun v hv=>by
    obtain⟨⟨k,d⟩,bw,rfl⟩:=bL.mp hv;have:=cv k (hr.op _ bw).1;unfold rh;cases d<;>simp<;>lia
   rw[aP]at h5
   lia
  refine f8.mpr (gW.mpr (fN.mpr (oY.mpr (jB.mpr (fE.mpr (eZ.mpr ⟨_,rfl,fE.mpr (jB.mpr (fE.mpr (eZ.mpr ⟨_,rfl,fM.mpr ⟨rfl,aDk A2 ay vc jg (fM.mpr ⟨rfl,?_⟩)⟩⟩)))⟩))))))
  refine aKu A2 vc fun C3 A3 hl3 hf3=>?_
  have hx:=aGP ay hr.op;have G3:Good w n es P (pr r (rmin (net w n es P) f r) f) (a+rmin (net w n es P) f r) p:=G.pour hr.wk hr.pipes hr.tg (by lia) fun o bw=>aKa bw
  have hb3:=G3.bound TM (by lia);have ii:sm (2*n+2) p<10^199:=eI (zM hle) hb
  refine gW.mpr (f6.mpr (mO (eZ.mpr ⟨_,rfl,oM A3.net rfl,fE.mpr (jW.mpr (fM.mpr ⟨rfl,moments0 W A3 G3 ii fun p4 L4 G4 h4=>?_⟩))⟩)))
  have hl5:C'.length<=C3.length:=by rw[hl3];simp
  refine f8.mpr ⟨(sm n w.p+1 - (a+rmin (net w n es P) f r)).toNat,by lia,_,p4,_,C3.length,_,rfl,by simp,A3.app A3.len,G4,L4,fun v hv=>dZ (h4 v hv) (hle v hv),hb3,by lia,.inr ⟨by lia,p,G3,hp,hle⟩,by rw[aU];lia,fun i hi hic=>?_,by lia⟩
  rw[aZ (by lia),hf3 i hic,aZ (by lia)]
  exact oq i hi hic
 ·rw[if_neg (by rw[decide_eq_false hp];simp)]
  exact q f p a C' ⟨G,L,hle,by lia,how⟩ ha zc A' hCl oq
end Lib
namespace Lib
open PySem L2 TL NF
variable{d:Nat}{s:Nat×Nat}{L:NF.Fl}{Q:T->Sto->Prop}
def ky2(s:Nat×Nat):List Key:=[kyN s.1,kyN s.2]
theorem aEi(a b:Nat×Nat)(h:ky2 a=ky2 b):a=b:=by
 have h1:=aPP.inj h;have h2:=aPP.inj h1.2
 exact aP1 (rZ _ _ h1.1) (rZ _ _ h2.1)
noncomputable def stT(s:Nat×Nat):T:=.tup [.int s.1,.int s.2]
def lX(L:NF.Fl):Cl:=(.dt (L.map fun p=>ky2 p.1),L.map fun p=>.int p.2)
def aID(L:NF.Fl):Cl:=(.dz (L.map fun p=>ky2 p.1),L.map fun p=>.int p.2)
theorem uY{C:Sto}(e:C[d]?=some (lX L)\/C[d]?=some (aID L)):dval C (.cell d) (stT s)=some ((lk L s).map T.int):=by
 unfold dval;rw[aF9 e,aGj e];show some (vl _ (ky2 s))=_;rw[aCL (vf:=fun i:Int=>T.int i) aEi]
theorem aDS{C:Sto}{v:Int}(e:C[d]?=some (lX L))(hl:L.length<lim):dput C (.cell d) (stT s) (.int v)=some (C.set d (lX (l4 L s v))):=by
 unfold dput;rw[aF9 (.inl e),aG4 e];show(if _ then some (C.set d (.dt (pkK (ky2 s) _),pvK (ky2 s) _ _ _))else none)=_;rw[if_pos (by simpa using hl)];obtain⟨e1,e2⟩:=aA6 (vf:=fun i:Int=>T.int i) aEi (a:=s) (b:=v) (rs:=L);rw[e1,e2];rfl
theorem qB:(lk L s).getD 0=at_ L s:=by
 unfold at_;congr 1;induction L with
 |nil=>rfl
 |cons e L ih=>
  obtain⟨k,v⟩:=e;rw[mE,b4];by_cases h:k=s
  ·rw[if_pos h,show(s==k)=true from beq_iff_eq.mpr h.symm]
  ·rw[if_neg h,show(s==k)=false from beq_eq_false_iff_ne.mpr (Ne.symm h)];exact ih
theorem aA0{p:(Nat×Nat)×Int}{v:Int}(h:¬p.1=s):l4 (p::L) s v=p::l4 L s v:=by
 unfold l4;rw[aM];by_cases hs:s∈L.map (·.1)
 ·rw[if_pos (bA _ hs),if_pos hs,aM,if_neg h]
 ·rw[if_neg (fun z=>by rcases bE.mp z with z|z;·exact h z.symm
                       ·exact hs z),if_neg hs];rfl
theorem aCU{g:(Nat×Nat)×Int->(Nat×Nat)×Int}(h:s∉L.map (·.1)):L.map (fun p=>if p.1=s then g p else p)=L:=by
 induction L with
 |nil=>rfl
 |cons e L ih=>
  rw[aM,bE,not_or]at h;rw[aM,ih h.2,if_neg (fun z=>h.1 z.symm)]
theorem aDN{s:Nat×Nat}{v:Int}:∀{L:NF.Fl},(L.map (·.1)).Nodup->l4 L s (at_ L s+v)=ad s v L
 | [],_=>by simp[l4,ad,at_]
 | (k,x)::L,hn=>by
   rw[aM,bX]at hn;unfold ad;by_cases h:k=s
   ·subst h;have e:at_ ((k,x)::L) k=x:=by rw[<-qB,mE,if_pos rfl];rfl
    rw[e,if_pos rfl];unfold l4;rw[if_pos (by simp),aM,if_pos rfl,aCU hn.1]
   ·have e:at_ ((k,x)::L) s=at_ L s:=by rw[<-qB,mE,if_neg h,qB]
    rw[e,if_neg h,aA0 h,aDN hn.2]
theorem aJ1{x:Int}(hn:(L.map (·.1)).Nodup)(hs:s∈L.map (·.1)):l4 L s (at_ L s - x)=tk x s L:=by
 unfold l4;rw[if_pos hs];unfold tk;induction L with
 |nil=>rfl
 |cons e L ih=>
  obtain⟨k,y⟩:=e;rw[aM,bX]at hn;rw[aM,aM];by_cases h:k=s
  ·subst h;have e:at_ ((k,y)::L) k=y:=by rw[<-qB,mE,if_pos rfl];rfl
   rw[e,if_pos rfl,aCU hn.1,aCU (g:=fun e=>(e.1,e.2 - x)) hn.1]
  ·have e:at_ ((k,y)::L) s=at_ L s:=by rw[<-qB,mE,if_neg h,qB]
   rw[aM]at hs;rw[e,if_neg h,if_neg h,ih hn.2 ((bE.mp hs).resolve_left (Ne.symm h))]
theorem aKW{e:(Nat×Nat)×Int}(hn:(L.map (·.1)).Nodup)(he:e∈L):lk L e.1=some e.2:=by
 induction L with
 |nil=>cases he
 |cons p L ih=>
  rw[aM,bX]at hn;rw[mE];rcases bE.mp he with rfl|he
  ·rw[if_pos rfl]
  ·rw[if_neg (fun z=>hn.1 (by rw[z];exact cM he)),ih hn.2 he]
noncomputable def outs(L:NF.Fl)(v:Nat):List (Nat×Nat):=(L.filter fun e=>decide (e.1.1=v)&&decide (0<e.2)).map (·.1)
theorem qG{C:Sto}{v:Nat}(e:C[d]?=some (lX L))(hn:(L.map (·.1)).Nodup)(hl:L.length<90000)(q:Q (.lst ((outs L v).map stT)) C):wpO (lE [.int v,.cell d] C) Q:=by
 have hd:=lB e
 refine iL ?_
 unfold sB;walk_at "b"
 refine iV.mpr (gF.mpr (aFQ (c:=d) (ks:=L.map fun p:(Nat×Nat)×Int=>ky2 p.1) (ts:=L.map fun p:(Nat×Nat)×Int=>T.int p.2) (eZ.mpr ⟨_,rfl,rfl,e,by simp,by simp[lim];lia,?_⟩)))
 have hz:(C.set d (aID L))[d]?=some (aID L):=mQ hd;rw[b7,show(aGg ∘ fun p:(Nat×Nat)×Int=>ky2 p.1)=fun p=>stT p.1 from rfl]
 refine u3 (xs:=L) (en:=fun p=>stT p.1) (fun e=>decide (e.1.1=v)&&decide (0<e.2)) (fun p=>stT p.1) (fun x hx=>?_) ?_
 ·refine f8.mpr (aAo.mpr (jZ.mpr (gA.mpr (gA.mpr ?_))))
  refine eZ.mpr ⟨stT x.1,rfl,?_⟩
  refine jW.mpr (lY.mpr ⟨[.int x.1.1,.int x.1.2],rfl,.int x.1.1,rfl,?_⟩)
  refine eZ.mpr ⟨.int v,rfl,?_⟩
  refine aA7.mpr ⟨_,rfl,?_⟩
  have hv:((x.1.1:Int)=v)↔x.1.1=v:=by lia
  by_cases h:x.1.1=v
  ·rw[if_pos (decide_eq_true (hv.mpr h))];have hg:=uY (s:=x.1) (L:=L) (C:=C.set d (aID L)) (.inr hz);rw[aKW hn hx]at hg
   refine jZ.mpr (gA.mpr (gA.mpr (eZ.mpr ⟨_,rfl,eZ.mpr ⟨_,rfl,rX.mpr ⟨_,hg,jW.mpr (nT.mpr ⟨_,rfl,rfl,?_,fun _=>eZ.mpr ⟨_,rfl,rfl,rfl⟩⟩)⟩⟩⟩)))
   rw[decide_eq_true h,Bool.true_and]
  ·rw[if_neg (by rw[decide_eq_false (fun z=>h (hv.mp z))];simp)]
   refine⟨rfl,by rw[decide_eq_false h,aPb],fun z=>?_⟩
   rw[decide_eq_false h,aPb]at z;cases z
 ·have:(L.filter fun e=>decide (e.1.1=v)&&decide (0<e.2)).map (fun p=>stT p.1)=(outs L v).map stT:=by unfold outs;rw[b7];rfl
  rw[this]
  exact⟨rfl,q⟩
theorem aBC{x:Int}{s:Nat×Nat}:∀{r:List (Nat×Nat)}{L:NF.Fl},tks x (r++[s]) L=tk x s (tks x r L)
 | [],L=>rfl
 |a::r,L=>by show tks x (r++[s]) (tk x a L)=_;rw[aBC];rfl
theorem aBQ{C:Sto}{rc:Nat}{r:List (Nat×Nat)}(e:C[d]?=some (lX L))(e2:C[rc]?=some (.l,r.map stT))(hn:(L.map (·.1)).Nodup)(hl:L.length<90000)(hr:r≠[])(jg:r.length<1000)(hk:∀s∈r,s∈L.map (·.1))
 (q:Q (.int (tM (r.map (at_ L)))) (C.set d (lX (tks (tM (r.map (at_ L))) r L)))):wpO (nZ [.cell d,.cell rc] C) Q:=by
 have hd:=lB e;have yx:d≠rc:=fun z=>by subst z;rw[e]at e2;cases e2
 have gn:lc C rc=some (r.map stT):=gS.mpr e2;have lkk:∀(L':NF.Fl)(s:Nat×Nat),s∈L'.map (·.1)->lk L' s=some (at_ L' s):=fun L' s hs=>by
  obtain⟨v,hv⟩:=cT.mp (oE.mpr hs);rw[hv,<-qB,hv];rfl
 generalize hx:tM (r.map (at_ L))=x at q
 refine iL ?_
 unfold wT;walk_at "b"
 refine fN.mpr (f6.mpr (hX.mpr (fE.mpr (gF.mpr (j4.mpr (eZ.mpr ⟨_,rfl,_,gn,by simp[lim];lia,?_⟩))))))
 refine gG (xs:=r) (en:=stT) (fun s=>T.int (at_ L s)) (fun s hs=>f8.mpr (gA.mpr (eZ.mpr ⟨_,rfl,eZ.mpr ⟨_,rfl,rX.mpr ⟨_,by rw[uY (.inl e),lkk L s (hk s hs)];rfl,rfl,rfl⟩⟩⟩))) ?_
 refine fM.mpr (r9.mpr ⟨_,rfl,_,pJ (f:=at_ L),?_,?_⟩)
 ·cases r with
  |nil=>exact absurd rfl hr
  |cons s r=>rfl
 rw[show tM (r.map (at_ L))=x from hx]
 refine f8.mpr (gW.mpr (fN.mpr (lQ.mpr (eZ.mpr ⟨_,rfl,_,gn,?_⟩))))
 refine iR (xs:=r) (en:=stT) (fun j τ C'=>∃y,τ=[some (.cell d),some (.cell rc),some (.int x),y]/\C'=C.set d (lX (tks x (r.take j) L))) ⟨_,rfl,?_⟩ ?_ ?_
 ·obtain⟨h1,h2⟩:=aR.mp e;show C=C.set d (lX L);rw[<-h2,eQ]
 ·rintro j s τ C' hj ⟨y,rfl,rfl⟩;have hs:=hk s (bD hj);have oe:s∈(tks x (r.take j) L).map (·.1):=by rw[nH];exact hs
  have kq:((tks x (r.take j) L).map (·.1)).Nodup:=by rw[nH];exact hn
  have dw:(tks x (r.take j) L).length<90000:=by
   have:=congrArg aPF (nH (x:=x) (r:=r.take j) (L:=L));rw[aP,aP]at this;lia
  have e':(C.set d (lX (tks x (r.take j) L)))[d]?=some (lX (tks x (r.take j) L)):=mQ hd;unfold sI
  refine f8.mpr (aHn (i:=at_ (tks x (r.take j) L) s) (j:=x) (eZ.mpr ⟨_,rfl,eZ.mpr ⟨_,rfl,by rw[uY (.inl e'),lkk _ s oe];rfl,eZ.mpr ⟨_,rfl,rfl,_,aDS e' (by simp[lim];lia),?_,_,rfl,?_⟩⟩⟩))
  ·show lc _ rc=_;rw[gS,eG,aS yx];exact e2
  ·rw[eG,aJ1 kq oe,aOe,hj,dI,aBC]
 ·rintro τ C' ⟨y,rfl,rfl⟩;rw[cV]
  exact gW.mpr (iV.mpr (eZ.mpr ⟨_,rfl,q⟩))
end Lib
namespace Lib
open PySem L2 TL NF
variable{L:NF.Fl}{e:(Nat×Nat)×Int}
structure Flw(L:NF.Fl)(a:Int)(ρ:Nat->Int):Prop where
 con:Con L a
 nn:∀e∈L,0<=e.2
 nd:(L.map (·.1)).Nodup
 hz:∀e∈L,e.1.2≠0
 rk:∀e∈L,ρ e.1.1<ρ e.1.2
 h1:∀e∈L,ρ e.1.2<=ρ 1
 h0:∀e∈L,ρ 0<=ρ e.1.1
 small:ρ 1 - ρ 0<=30
 le:ρ 0<=ρ 1
 len:L.length<90000
theorem aGn{x:T}{l:List T}:atI (x::l) 0=some x:=aD2 (j:=0) rfl
theorem SW.snoc:∀{r:List (Nat×Nat)}{u v:Nat}{s:Nat×Nat},SW r u v->s.1=v->SW (r++[s]) u s.2
 | [],u,v,s,h,e=>by cases h;exact⟨e,rfl⟩
 |a::r,u,v,s,⟨h1,h2⟩,e=>⟨h1,SW.snoc h2 e⟩
theorem aIf{v:Nat}{s:Nat×Nat}(h:s∈outs L v):∃e∈L,e.1=s/\s.1=v/\0<e.2:=by
 unfold outs at h;obtain⟨e,he,rfl⟩:=bL.mp h;obtain⟨h1,h2⟩:=dB.mp he;rw[eS,decide_eq_true_iff,decide_eq_true_iff]at h2
 exact⟨e,h1,rfl,h2.1,h2.2⟩
theorem aBi{v:Nat}(h:outs L v=[])(he:e∈L)(hv:e.1.1=v):¬0<e.2:=fun hp=>by
 have:e.1∈outs L v:=by
  unfold outs
  refine cM (dB.mpr ⟨he,?_⟩)
  rw[eS,decide_eq_true_iff,decide_eq_true_iff]
  exact⟨hv,hp⟩
 rw[h]at this;cases this
theorem aCd(hn:(L.map (·.1)).Nodup)(he:e∈L):at_ L e.1=e.2:=by rw[<-qB,aKW hn he];rfl
theorem wU{a:Int}{ρ:Nat->Int}(F:Flw L a ρ){C:Sto}{d:Nat}(e:C[d]?=some (lX L)){Q:T->Sto->Prop}
 (q:∀r:List (Nat×Nat),(r=[]/\a<=0)\/(r≠[]/\SW r 0 1/\r.Nodup/\r.length<1000/\∀s∈r,s∈L.map (·.1)/\0<at_ L s)->Q (.cell C.length) (C++[(.l,r.map stT)])):wpO (jV [.cell d] C) Q:=by
 have hd:=lB e;have e':∀x:Cl,(C++[x])[d]?=some (lX L):=fun x=>by rw[aZ hd];exact e
 refine iL ?_
 unfold oQ;walk_at "b"
 refine fN.mpr (f6.mpr (j5.mpr (jO.mpr (fM.mpr ⟨by decide,?_⟩))))
 refine f8.mpr (gW.mpr (fN.mpr (f6.mpr (jB.mpr (fE.mpr (jW.mpr (fE.mpr ?_)))))))
 refine eZ.mpr ⟨_,rfl,fM.mpr ⟨rfl,?_⟩⟩
 refine qG (v:=0) (e' _) F.nd F.len (f8.mpr (gW.mpr (fN.mpr ?_)))
 refine xC (fun m τ C'=>∃r u,τ=[some (.cell d),some (.cell C.length),some (.lst ((outs L u).map stT))]/\C'=C++[(.l,r.map stT)]/\SW r 0 u/\(r=[]/\u=0\/r≠[]/\∃e∈L,e.1.2=u/\0<e.2)/\(∀s∈r,s∈L.map (·.1)/\0<at_ L s)/\r.Nodup/\(∀s∈r,ρ s.1<ρ u)/\
  (r.length:Int)<=ρ u - ρ 0/\ρ u<=ρ 1/\ρ 1 - ρ u<=(m:Int)) (m:=30) (by decide) ?_ ?_
 ·exact⟨[],0,rfl,rfl,rfl,.inl ⟨rfl,rfl⟩,by simp,by simp,by simp,by simp,F.le,F.small⟩
 rintro m τ C' ⟨r,u,rfl,rfl,h1,h2,h3,h4,h5,h6,h7,h8⟩
 refine p5.mpr (eZ.mpr ⟨_,rfl,_,rfl,?_⟩)
 have hsm:=F.small;cases ho:outs L u with
 |nil=>
  rw[bC];rw[if_neg (by simp)]
  refine gW.mpr (iV.mpr (eZ.mpr ⟨_,rfl,q r ?_⟩))
  rcases h2 with⟨rfl,rfl⟩| ⟨ay,x,hx,hu,hp⟩
  ·refine .inl ⟨rfl,?_⟩
   by_cases ha:0<a
   ·obtain⟨y,hy,jt,xo⟩:=aIt F.con F.nn F.hz ha
    exact absurd xo (aBi ho hy jt)
   ·lia
  ·refine .inr ⟨ay,?_,h4,by lia,h3⟩
   have hu1:u=1:=by
    by_cases z:u=1
    ·exact z
    ·obtain⟨y,hy,jt,xo⟩:=aIX F.con F.nn (v:=u) (by rw[<-hu];exact F.hz x hx) z hx hu hp
     exact absurd xo (aBi ho hy jt)
   rw[hu1]at h1;exact h1
 |cons s os=>
  obtain⟨x,hx,fq,va,hxp⟩:=aIf (L:=L) (v:=u) (s:=s) (by rw[ho];exact bJ);have cr:=F.rk x hx;have rj:=F.h1 x hx;rw[fq,va]at cr;rw[fq]at rj;rw[aM,if_pos (by simp)];have gn:lc (C++[(Kd.l,r.map stT)]) C.length=some (r.map stT):=gS.mpr (by simp);unfold nC
  refine fN.mpr (vC.mpr (eZ.mpr ⟨_,rfl,fE.mpr (gA.mpr ?_)⟩))
  refine eZ.mpr ⟨_,rfl,jW.mpr (lY.mpr ⟨stT s::os.map stT,rfl,stT s,aGn,?_⟩)⟩
  refine fM.mpr ⟨_,rfl,by rw[gn];rfl,_,gn,u9.mpr ⟨by simp[lim];lia,?_⟩⟩
  have es:(C++[(Kd.l,r.map stT)]).set C.length (Kd.l,r.map stT++[stT s])=C++[(Kd.l,(r++[s]).map stT)]:=by
   rw[b8 _ _ (bG _),dF,bQ];rfl
  rw[es]
  refine gW.mpr (f6.mpr (jB.mpr (fE.mpr (gA.mpr (gA.mpr ?_)))))
  refine eZ.mpr ⟨_,rfl,jW.mpr (lY.mpr ⟨stT s::os.map stT,rfl,stT s,aGn,?_⟩)⟩
  refine jW.mpr (lY.mpr ⟨[.int s.1,.int s.2],rfl,.int s.2,rfl,fE.mpr ?_⟩)
  refine eZ.mpr ⟨_,rfl,fM.mpr ⟨rfl,?_⟩⟩
  refine qG (v:=s.2) (e' _) F.nd F.len (f8.mpr ⟨(ρ 1 - ρ s.2).toNat,by lia,r++[s],s.2,rfl,rfl,SW.snoc h1 va,.inr ⟨by simp,x,hx,by rw[fq],hxp⟩,fun z hz=>?_,?_,fun z hz=>?_,?_,rj,by lia⟩)
  ·rcases bM.mp hz with hz|hz
   ·exact h3 z hz
   ·have:z=s:=by simpa using hz
    subst this
    exact⟨by rw[<-fq];exact cM hx,by rw[<-fq,aCd F.nd hx];exact hxp⟩
  ·refine dX.mpr ⟨h4,by simp,fun y hy z hz=>?_⟩
   have:z=s:=by simpa using hz
   subst this;rintro rfl;have:=h5 y hy;rw[va]at this;lia
  ·rcases bM.mp hz with hz|hz
   ·have:=h5 z hz;lia
   ·have:z=s:=by simpa using hz
    subst this;rw[va];exact cr
  ·rw[aU];simp;lia
end Lib
namespace Lib
open PySem L2 TL NF
variable{r:List (Nat×Nat)}{L:NF.Fl}
theorem aGW{α β:Type}{g:α->β}:∀{l:List α},TL.od (l.map g)=(NF.od l).map g
 | []=>by simp[TL.od,NF.od]
 | [_]=>by simp[TL.od,NF.od]
 |a::b::r=>by
  have ih:=aGW (g:=g) (l:=r);simp only[aM,TL.od,NF.od];rw[ih]
theorem aHi{α:Type}:∀{l:List α},(NF.od l).length<=l.length
 | []=>by simp[NF.od]
 | [_]=>by simp[NF.od]
 |a::b::r=>by
  have ih:=aHi (l:=r);simp only[NF.od,aN]
  lia
theorem aBK{C:Sto}{rc:Nat}{is:List Nat}(e:C[rc]?=some (.l,r.map stT))(hl:r.length<1000)(hi:NF.od r=is.map stw){Q:T->Sto->Prop}(q:Q (.lst (is.map fun i:Nat=>T.int (i:Int))) C):wpO (oA [.cell rc] C) Q:=by
 have yo:is.length<1000:=by
  have h1:=aHi (l:=r);rw[hi,aP]at h1
  lia
 refine iL ?_
 unfold vH;walk_at "b"
 refine iV.mpr (gF.mpr (j4.mpr (gF.mpr (aIA.mpr (eZ.mpr ⟨_,rfl,_,gS.mpr e,?_⟩)))))
 rw[aGW,hi,b7]
 refine⟨_,rfl,by simp[lim];lia,?_⟩
 refine gG (xs:=is) (en:=stT ∘ stw) (fun i:Nat=>T.int (i:Int)) (fun i _=>?_) q
 refine yO.mpr ⟨_,rfl,rfl,?_⟩
 refine hX.mpr (fE.mpr (eZ.mpr ⟨.int ((2*i+2:Nat):Int),rfl,fM.mpr ?_⟩))
 rw[show((2*i+2:Nat):Int)=2*(i:Int)+2 by lia]
 exact(fO aC0 rfl rfl).mpr ⟨rfl,rfl⟩
theorem vB{x:Int}:∀{r:List (Nat×Nat)}{L:NF.Fl},tks x r L=L.map fun e=>(e.1,e.2 - x*(r.count e.1:Int))
 | [],L=>by simp[tks]
 |s::r,L=>by
  unfold tks;rw[vB];unfold tk;rw[b7];apply cI;intro e _;simp only[d4];by_cases h:e.1=s
  ·rw[if_pos h];dsimp only;rw[h,List.count_cons_self,aPD,aPG,aP2];congr 1;lia
  ·rw[if_neg h,List.count_cons_of_ne (Ne.symm h)]
theorem Flw.take{a:Int}{ρ:Nat->Int}(F:Flw L a ρ){x:Int}(w:SW r 0 1)(hn:r.Nodup)(hx:∀s∈r,s∈L.map (·.1)/\x<=at_ L s):Flw (tks x r L) (a - x) ρ:=by
 have key:∀e'∈tks x r L,∃e∈L,e.1=e'.1/\e'.2=e.2 - x*(r.count e.1:Int):=fun e' he=>by
  rw[vB]at he;obtain⟨e,h1,rfl⟩:=bL.mp he
  exact⟨e,h1,rfl,rfl⟩
 refine⟨F.con.take F.nd (fun s hs=>(hx s hs).1) w,fun e' he=>?_,by rw[nH];exact F.nd,fun e' he=>?_,fun e' he=>?_,fun e' he=>?_,fun e' he=>?_,F.small,F.le,?_⟩
 ·obtain⟨e,h1,h2,h3⟩:=key e' he;have h4:=F.nn e h1;rw[h3];by_cases hs:e.1∈r
  ·rw[hn.count,if_pos hs];have:=(hx e.1 hs).2;rw[aCd F.nd h1]at this;simp;lia
  ·rw[aOM.mpr hs];simp;exact h4
 ·obtain⟨e,h1,h2,h3⟩:=key e' he;rw[<-h2];exact F.hz e h1
 ·obtain⟨e,h1,h2,h3⟩:=key e' he;rw[<-h2];exact F.rk e h1
 ·obtain⟨e,h1,h2,h3⟩:=key e' he;rw[<-h2];exact F.h1 e h1
 ·obtain⟨e,h1,h2,h3⟩:=key e' he;rw[<-h2];exact F.h0 e h1
 ·rw[vB,aP];exact F.len
theorem Flw.le_a{a:Int}{ρ:Nat->Int}(F:Flw L a ρ){e:(Nat×Nat)×Int}(he:e∈L):e.2<=a:=
 aJF F.con F.nn ρ F.rk he (by have:=F.rk e he;have:=F.h0 e he;lia) (F.h1 e he)
theorem aND{s:Nat×Nat}(h:s∉L.map (·.1)):at_ L s=0:=by
 rw[<-qB];cases e:lk L s with
 |none=>rfl
 |some v=>exact absurd (oE.mp (by rw[e];rfl)) h
theorem Flw.zero{a:Int}{ρ:Nat->Int}(F:Flw L a ρ)(ha:a<=0)(s:Nat×Nat):at_ L s=0:=by
 by_cases h:s∈L.map (·.1)
 ·obtain⟨e,he,rfl⟩:=bL.mp h;rw[aCd F.nd he];have:=F.le_a he;have:=F.nn e he
  lia
 ·exact aND h
end Lib
namespace Lib
open PySem L2 TL NF
variable{L:NF.Fl}{s:Nat×Nat}
theorem aG1{s:Nat×Nat}{v:Int}:∀{L:NF.Fl},(ad s v L).length<=L.length+1
 | []=>by simp[ad]
 |e::L=>by
  have:=aG1 (s:=s) (v:=v) (L:=L);unfold ad;split<;>simp<;>lia
theorem oF{N:Nt}{f:Nat->Int}:∀{k:Nat},(stp N f k).length<=k
 |0=>by simp[stp]
 |k+1=>by
  have h1:=oF (N:=N) (f:=f) (k:=k);have h2:=aG1 (s:=(N.t k,N.h k)) (v:=f k) (L:=stp N f k);unfold stp;lia
theorem aJD:((lk L s).map T.int).getD (.int 0)=.int (at_ L s):=by
 rw[<-qB];cases lk L s<;>rfl
theorem zS{α:Type}{p q:α->Bool}:∀{l:List α},(∀e∈l,q e=true->p e=true)->(l.filter q).length<=(l.filter p).length/\((∃e∈l,p e=true/\q e=false)->(l.filter q).length<(l.filter p).length)
 | [],_=>⟨bG _,fun⟨e,he,_⟩=>by cases he⟩
 |a::l,h=>by
  obtain⟨h1,h2⟩:=zS (p:=p) (q:=q) (l:=l) fun e he=>h e (bA _ he)
  have h3:=h a bJ;rw[aPE,aPE];cases hq:q a<;>cases hp:p a
  ·simp only[b9,if_false]
   refine⟨h1,fun⟨e,he,e1,e2⟩=>?_⟩
   rcases bE.mp he with rfl|he
   ·rw[hp]at e1;cases e1
   ·exact h2 ⟨e,he,e1,e2⟩
  ·simp only[b9,if_false,if_true,aN]
   exact⟨by lia,fun _=>by lia⟩
  ·rw[h3 hq]at hp;cases hp
  ·simp only[if_true,aN]
   refine⟨by lia,fun⟨e,he,e1,e2⟩=>?_⟩
   rcases bE.mp he with rfl|he
   ·rw[hq]at e2;cases e2
   ·have:=h2 ⟨e,he,e1,e2⟩;lia
noncomputable def posn(L:NF.Fl):Nat:=(L.filter fun e=>decide (0<e.2)).length
theorem aFG{r:List (Nat×Nat)}{x:Int}(hn:(L.map (·.1)).Nodup)(hr:r.Nodup)(hx:0<x)(hs:s∈r)(hk:s∈L.map (·.1))(he:at_ L s=x):posn (tks x r L)<posn L:=by
 unfold posn;rw[vB,List.filter_map,aP]
 refine(zS fun e hel h=>?_).2 ?_
 ·simp only[d4,decide_eq_true_eq]at h|-;have:0<=x*(r.count e.1:Int):=dA (by lia) (by lia)
  lia
 ·obtain⟨e,h1,rfl⟩:=bL.mp hk;rw[aCd hn h1]at he
  refine⟨e,h1,decide_eq_true (by lia),?_⟩
  simp only[d4,decide_eq_false_iff_not];rw[hr.count,if_pos hs,he];simp
structure wJ(n:Nat)(es:List (Nat×Nat))(L0:NF.Fl)(a0:Int)(rl:List (Nat×Int×List Nat))(L:NF.Fl)(a:Int):Prop where
 ok:∀z∈rl,1<=z.2.1/\z.2.2≠[]/\(∀i∈z.2.2,i<n)/\NF.Chn es none z.2.2/\∀i,z.2.2.count i<=1
 sum:(rl.map fun z=>z.2.1).sum=a0 - a
 thr:∀i,(rl.map fun z=>z.2.1*(z.2.2.count i:Int)).sum=at_ L0 (stw i) - at_ L (stw i)
noncomputable def aAE(z:Nat×Int×List Nat):Cl:=(.l,.int z.2.1::z.2.2.map fun i:Nat=>T.int (i:Int))
theorem aFE{N:Nt}{f:Nat->Int}{c n:Nat}{es:List (Nat×Nat)}{pl a0:Int}{ρ:Nat->Int}{C:Sto}(A:iA N f c pl C)(hm:N.m<40000)(F0:Flw (stp N f N.m) a0 ρ)(hky:∀s∈(stp N f N.m).map (·.1),Ky n es s)(jy:0<=a0)(oy:a0<10^199){Q:T->Sto->Prop}
 (q:∀rl rw C',rl.length<=N.m->wJ n es (stp N f N.m) a0 rl [] 0->C'[rw]?=some (.l,rl.map fun z=>.cell z.1)->(∀z∈rl,C'[z.1]?=some (aAE z))->Q (.cell rw) C'):wpO (l9 [.cell c] C) Q:=by
 have ah:=A.len;have hf:nJ "Net" "pipes" C (.cell c)=some (.cell (c+1)):=kL A.net rfl
 refine iL ?_
 unfold rJ;walk_at "b"
 refine fN.mpr (f6.mpr (aBJ.mpr (f8.mpr (gW.mpr (fN.mpr (lQ.mpr ?_))))))
 have A1:∀x:Cl,iA N f c pl (C++[x]):=fun x=>A.app ah
 have kr:∀x:Cl,lc (C++[x]) (c+1)=some ((bI N.m).map fun j=>.cell (pc c (j,true))):=fun x=>gS.mpr (A1 x).lst
 refine fQ (i7 rfl (kL (A1 _).net rfl)) ⟨_,kr _,?_⟩
 refine iR (xs:=bI N.m) (en:=fun j=>T.cell (pc c (j,true))) (fun j τ C'=>∃x y,τ=[some (.cell c),some (.cell C.length),x,y,none,none]/\C'=C++[lX (stp N f j)]) ⟨_,_,rfl,rfl⟩ ?_ ?_
 ·rintro j k τ C' hj ⟨x,y,rfl,rfl⟩;have hk:k=j/\j<N.m:=by
   obtain⟨h1,h2⟩:=aR.mp hj;rw[eA]at h2
   exact⟨h2.symm,by simpa using h1⟩
  obtain⟨rfl,vh⟩:=hk;obtain⟨f1,f2,f3,f4,f5⟩:=(A1 (lX (stp N f k))).fld (o:=(k,true)) vh;obtain⟨g1,g2,g3,g4,g5⟩:=(A1 (lX (stp N f k))).fld (o:=(k,false)) vh;have eD:(C++[lX (stp N f k)])[C.length]?=some (lX (stp N f k)):=by simp
  have hsl:=oF (N:=N) (f:=f) (k:=k);unfold pI
  refine f8.mpr (fN.mpr (f6.mpr (fA.mpr (fE.mpr ?_))))
  refine fQ (i7 (t:=.cell (pc c (k,true))) rfl f1) (fE.mpr ?_)
  refine fQ (i7 (t:=.cell (pc c (k,true))) rfl f2) (fM.mpr ⟨by simp[lim],f8.mpr (gW.mpr ?_)⟩)
  refine aBF (gA.mpr (aFP (eZ.mpr ⟨_,rfl,by unfold isDc;rw[aGj (.inl eD)];simp,eZ.mpr ⟨stT (N.t k,N.h k),rfl,jW.mpr ⟨_,uY (.inl eD),?_⟩⟩⟩)))
  rw[aJD]
  refine aAp.mpr (aAp.mpr (eZ.mpr ⟨_,rfl,_,f5,_,g4,nT.mpr ?_⟩))
  refine eZ.mpr ⟨_,rfl,eZ.mpr ⟨stT (N.t k,N.h k),rfl,_,aDS eD (by simp[lim];lia),?_,_,_,rfl,?_⟩⟩
  ·show lc _ (c+1)=_;rw[gS,aS (by lia)];exact(A1 _).lst
  ·rw[b8 _ _ (bG _),dF];show C++[lX (l4 (stp N f k) (N.t k,N.h k) (at_ (stp N f k) (N.t k,N.h k)+rr N f (k,false)))]=_;rw[show rr N f (k,false)=f k from rfl,aDN sW];rfl
 ·rintro τ C' ⟨x,y,rfl,rfl⟩;rw[aOs];have eD:∀z:Cl,(C++[lX (stp N f N.m)]++[z])[C.length]?=some (lX (stp N f N.m)):=fun z=>by simp
  refine gW.mpr (fN.mpr (f6.mpr (j5.mpr (jO.mpr (fM.mpr ⟨by decide,?_⟩)))))
  refine f8.mpr (gW.mpr (fN.mpr (f6.mpr (jB.mpr (fE.mpr ?_)))))
  refine eZ.mpr ⟨_,rfl,fM.mpr ⟨rfl,wU F0 (eD _) fun r0 xv=>?_⟩⟩
  refine f8.mpr (gW.mpr (fN.mpr ?_))
  refine xC (fun m τ C'=>∃rl L a r rc x y,τ=[some (.cell c),some (.cell C.length),x,y,some (.cell (C.length+1)),some (.cell rc)]/\C'[C.length]?=some (lX L)/\C'[C.length+1]?=some (.l,rl.map fun z=>.cell z.1)/\C'[rc]?=some (.l,r.map stT)/\C.length+1<rc/\
   (∀z∈rl,C.length+1<z.1/\C'[z.1]?=some (aAE z))/\rl.length+posn L<=N.m/\Flw L a ρ/\L.map (·.1)=(stp N f N.m).map (·.1)/\wJ n es (stp N f N.m) a0 rl L a/\((r=[]/\a<=0)\/(r≠[]/\SW r 0 1/\r.Nodup/\r.length<1000/\∀s∈r,s∈L.map (·.1)/\0<at_ L s))/\0<=a/\a<=(m:Int)) (m:=a0.toNat) ?_ ?_ ?_
  ·have:a0.toNat<10^199:=by lia
   exact bP this (aOA (by decide) (by decide))
  ·refine⟨[],stp N f N.m,a0,r0,C.length+2,x,y,by simp,?_,?_,?_,by lia,by simp,?_,F0,rfl,⟨by simp,by simp,by simp⟩,xv,jy,by lia⟩
   ·rw[aZ (by simp)];exact eD _
   ·rw[cP,cP,bH (by lia),show C.length+1 - C.length=1 by lia];rfl
   ·rw[cP,cP,bH (by lia),show C.length+2 - C.length=2 by lia];rfl
   ·have h1:posn (stp N f N.m)<=(stp N f N.m).length:=aOu _ _;have h2:=oF (N:=N) (f:=f) (k:=N.m);simp;lia
  rintro m τ C' ⟨rl,L,a,r,rc,x,y,rfl,e1,e2,e3,hrc,ko,lv,F,kt,RO,hr,ha,yf⟩
  refine p5.mpr (eZ.mpr ⟨_,rfl,!(r.map stT).isEmpty,by show(lc C' rc).map _=_;rw[gS.mpr e3];rfl,?_⟩)
  rcases hr with⟨rfl,cy⟩| ⟨ay,ig,xu,jg,cr⟩
  ·rw[if_neg (by simp)]
   refine gW.mpr (iV.mpr (eZ.mpr ⟨_,rfl,q rl (C.length+1) C' (by lia) ⟨RO.ok,?_,fun i=>?_⟩ e2 fun z hz=>(ko z hz).2⟩))
   ·rw[RO.sum];lia
   ·rw[RO.thr i,F.zero cy];rfl
  ·rw[if_pos (by cases r with|nil=>exact absurd rfl ay|cons s r=>rfl)];obtain⟨m1,m2⟩:=xW (ns:=r.map (at_ L)) (by rintro z;exact ay (aOF.mp z));generalize hx:tM (r.map (at_ L))=v at m1 m2;obtain⟨s0,oa,lr⟩:=bL.mp m1;have hv:0<v:=by rw[<-lr];exact(cr s0 oa).2
   have hle:∀s∈r,s∈L.map (·.1)/\v<=at_ L s:=fun s hs=>⟨(cr s hs).1,m2 _ (cM hs)⟩
   have hva:v<=a:=by
    obtain⟨e,he,rfl⟩:=bL.mp (cr s0 oa).1;rw[<-lr,aCd F.nd he];exact F.le_a he
   have F':=F.take ig xu hle;have lz:(tks v r L).map (·.1)=(stp N f N.m).map (·.1):=by rw[nH];exact kt
   obtain⟨is,i1,i2,i3,i4,i5⟩:=aIh (n:=n) (es:=es) r none ig fun s hs=>hky s (by rw[<-kt];exact(cr s hs).1)
   have hpt:=aFG F.nd xu hv oa (cr s0 oa).1 lr;have l1:=lB e1;have l2:=lB e2;have l3:=lB e3;have k3:(C'.set C.length (lX (tks v r L)))[rc]?=some (.l,r.map stT):=by rw[aS (by lia)];exact e3
   unfold pG
   refine fN.mpr (vC.mpr (eZ.mpr ⟨_,rfl,fE.mpr (j5.mpr (nQ.mpr (gF.mpr (jO.mpr (fE.mpr (jB.mpr (fE.mpr ?_)))))))⟩))
   refine eZ.mpr ⟨_,rfl,fE.mpr (eZ.mpr ⟨_,rfl,fM.mpr ⟨rfl,aBQ e1 e3 F.nd F.len ay jg (fun s hs=>(cr s hs).1) ?_⟩⟩)⟩
   rw[hx]
   refine fM.mpr ⟨by simp[lim],jB.mpr (fE.mpr (eZ.mpr ⟨_,rfl,fM.mpr ⟨rfl,aBK k3 jg i1 ?_⟩⟩))⟩
   have yo:is.length<1000:=by
    have h1:=aHi (l:=r);rw[i1,aP]at h1
    lia
   refine p6.mpr ⟨_,rfl,_,rfl,by simp[lim];lia,fM.mpr ⟨_,rfl,by rw[gS.mpr e2];rfl,_,gS.mpr (?_ :_=some (Kd.l,rl.map fun z=>T.cell z.1)),u9.mpr ⟨by simp[lim];lia,?_⟩⟩⟩
   ·rw[aZ (by rw[cJ];exact l2),aS (by lia)];exact e2
   generalize ud:(C'.set C.length (lX (tks v r L))++[(Kd.l,[T.int v]++is.map fun i:Nat=>T.int (i:Int))]).set (C.length+1) (Kd.l,(rl.map fun z=>T.cell z.1)++[T.cell (C'.set C.length (lX (tks v r L))).length])=C2;have lC2:C2.length=C'.length+1:=by rw[<-ud];simp
   have old:∀i,i<C'.length->i≠C.length->i≠C.length+1->C2[i]?=C'[i]?:=fun i hi h1 h2=>by
    rw[<-ud,aS (Ne.symm h2),aZ (by rw[cJ];exact hi),aS (Ne.symm h1)]
   have c1:C2[C.length]?=some (lX (tks v r L)):=by
    rw[<-ud,aS (by lia),aZ (by rw[cJ];exact l1)];exact mQ l1
   have c2:C2[C.length+1]?=some (Kd.l,(rl++[(C'.length,v,is)]).map fun z=>T.cell z.1):=by
    rw[<-ud,bO (by simp;lia),bQ,cJ];rfl
   have c3:C2[C'.length]?=some (aAE (C'.length,v,is)):=by
    rw[<-ud,aS (by lia),bH (by simp)];simp[aAE]
   refine gW.mpr (f6.mpr (jB.mpr (fE.mpr (eZ.mpr ⟨_,rfl,fM.mpr ⟨rfl,wU F' c1 fun r2 hr2=>?_⟩⟩))))
   refine f8.mpr ⟨(a - v).toNat,by lia,rl++[(C'.length,v,is)],tks v r L,a - v,r2,C2.length,x,y,rfl,?_,?_,?_,by lia,fun z hz=>?_,?_,F',lz,⟨fun z hz=>?_,?_,fun i=>?_⟩,hr2,by lia,by lia⟩
   ·rw[aZ (by lia)];exact c1
   ·rw[aZ (by lia)];exact c2
   ·simp
   ·rcases bM.mp hz with hz|hz
    ·obtain⟨g1,g2⟩:=ko z hz
     refine⟨g1,?_⟩
     rw[aZ (by have:=lB g2;lia),old _ (lB g2) (by lia) (by lia)];exact g2
    ·have:z=(C'.length,v,is):=by simpa using hz
     subst this
     refine⟨by show C.length+1<C'.length;lia,?_⟩
     rw[aZ (by show C'.length<C2.length;lia)];exact c3
   ·rw[aU];simp;lia
   ·rcases bM.mp hz with hz|hz
    ·exact RO.ok z hz
    ·have:z=(C'.length,v,is):=by simpa using hz
     subst this
     refine⟨by show 1<=v;lia,i4 rfl,i2,i3,fun i=>?_⟩
     show is.count i<=1;rw[<-i5 i];exact d0.mp xu _
   ·rw[bQ,aOD,RO.sum];simp;lia
   ·rw[bQ,aOD,RO.thr i,aGt (fun s hs=>(cr s hs).1)];have:=i5 i;simp;rw[this];lia
end Lib
namespace Lib
open PySem L2 TL
variable{G:FS}{Q:Fl->TSt->Sto->Prop}{ga:FB}{i u z:Int}{ns:List Int}{M:Nat}
def Nb(n:Int):Prop:=0<=n/\n<2^140
def sJ(w:Int×Int×Int):Prop:=0<=w.2.1/\w.2.1<=w.1/\0<=w.2.2/\w.1<2^252/\w.2.2<2^252
def aAM(w:Int×Int×Int):Prop:=0<=w.2.1/\w.2.1<=w.1/\0<=w.2.2/\w.1<2^240/\w.2.2<2^240
theorem aAM.b{w:Int×Int×Int}(h:aAM w):sJ w:=⟨h.1,h.2.1,h.2.2.1,eJ h.2.2.2.1 (by decide),eJ h.2.2.2.2 (by decide)⟩
theorem sqP{F:FS}{τ:TSt}{C:Sto}(P:TSt->Sto->Prop)(h1:wpS F τ C fun l ap C1=>l=.nx/\P ap C1)(h2:∀ap C1,P ap C1->wpS G ap C1 Q):wpS (fJ F G) τ C Q:=by
 obtain⟨l,ap,C1,e,rfl,p⟩:=h1;obtain⟨l2,ao,C2,e2,q⟩:=h2 ap C1 p
 exact fN.mpr ⟨_,_,_,e,l2,ao,C2,e2,q⟩
theorem ifF{F:FS}{τ:TSt}{C:Sto}(h1:wpB ga τ C fun x C1=>x=false/\C1=C)(h2:wpS G τ C Q):wpS (fIf ga F G) τ C Q:=by
 obtain⟨x,C1,e,rfl,rfl⟩:=h1
 exact mN.mpr ⟨_,_,e,h2⟩
theorem ifT{F:FS}{τ:TSt}{C:Sto}(h1:wpB ga τ C fun x C1=>x=true/\C1=C)(h2:wpS F τ C Q):wpS (fIf ga F G) τ C Q:=by
 obtain⟨x,C1,e,rfl,rfl⟩:=h1
 exact mN.mpr ⟨_,_,e,h2⟩
theorem sqA{a:FE}{i:Nat}{t:T}{τ:TSt}{C:Sto}(h1:wpE a τ C fun x C1=>x=t/\C1=C)(h2:wpS G (τ.set i (some t)) C Q):wpS (fJ (fU a (gN i)) G) τ C Q:=by
 obtain⟨x,C1,e,rfl,rfl⟩:=h1
 exact fN.mpr (f6.mpr ⟨_,_,e,f8.mpr (gW.mpr h2)⟩)
theorem aED{a b c k:Int}(ha:Sm a)(hb:Sm b)(hc:Sm c)(hu:0<=u)(qz:u<=2^100):∃t,qY [.int a,.int b,.int c,.int k,.int u]=some t/\∃w,t=w3 w/\aAM w:=by
 apply kY;unfold aDP;have au:0<=a*u:=dA ha.1 hu;have bu:0<=b*u:=dA hb.1 hu;have cu:0<=c*u:=dA hc.1 hu;have au2:a*u<=2147483587*2^100:=aON (aO2 ha.2) qz hu (by decide);have bu2:b*u<=2147483587*2^100:=aON (aO2 hb.2) qz hu (by decide);have cu2:c*u<=2147483587*2^100:=aON (aO2 hc.2) qz hu (by decide);have e5:=iK (x:=a) (m:=5) (by decide);have e97:=iK (x:=b) (m:=97) (by decide);have e6:=iK (x:=b) (m:=6) (by decide);have e3:=iK (x:=b) (m:=3) (by decide);have e50:=iK (x:=b/3) (m:=50) (by decide);have ec5:=iK (x:=c) (m:=5) (by decide);have e89:=iK (x:=a) (m:=89) (by decide);have h0:Nb 0:=⟨by decide,by decide⟩;have h1:Nb (a%5):=⟨e5.1,by lia⟩;have h2:Nb (a*u+b%97):=⟨by lia,by lia⟩;have m1:Nb (b%6):=⟨e6.1,by lia⟩;have m2:Nb (b*u*(if decide (0<b%4)=true then 1 else 0)):=by split<;>exact⟨by lia,by lia⟩
 have m3:Nb (b%3*(b/3%50)):=⟨dA e3.1 e50.1,by
  have:b%3*(b/3%50)<=3*50:=aON (by lia) (by lia) e50.1 (by decide)
  lia⟩
 have p1:Nb (c%5):=⟨ec5.1,by lia⟩;have p2:Nb (c*u+a%89):=⟨by lia,by lia⟩;have hq:=iK (x:=c/64) (m:=4) (by lia);obtain⟨z,ez,p3⟩:∃z:Int,atI [T.int 0,T.int 3,T.int 3,T.int (1+c%40)] (c/64%4)=some (.int z)/\Nb z:=by
  obtain⟨t,ht,et⟩:=aAQ (xs:=[T.int 0,T.int 3,T.int 3,T.int (1+c%40)]) hq.1 (by simpa using hq.2);have:=iK (x:=c) (m:=40) (by decide);simp only[bE,cA,or_false]at ht;rcases ht with rfl|rfl|rfl|rfl
  ·exact⟨0,et,by decide,by decide⟩
  ·exact⟨3,et,by decide,by decide⟩
  ·exact⟨3,et,by decide,by decide⟩
  ·exact⟨_,et,by lia,by lia⟩
 have fin:∀{l mq p:Int},Nb l->Nb mq->Nb p->∃t,dr 3 [] (T.lst [.int (l+mq),.int l,.int p])=some t/\∃w,t=w3 w/\aAM w:=fun {l mq p} h1 h2 h3=>⟨_,iZ (by walk_at "c"),(l+mq,l,p),rfl,h1.1,by show l<=l+mq;have:=h2.1;lia,h3.1,by show l+mq<2^240;have:=h1.2;have:=h2.2;lia,by show p<2^240;have:=h3.2;lia⟩
 have k1:jY a u=true:=fZ (ha.bt.mono (by decide));have k2:jY b u=true:=fZ (hb.bt.mono (by decide));have k3:jY c u=true:=fZ (hc.bt.mono (by decide));have k4:jY (b*u) (if decide (0<b%4)=true then 1 else 0)=true:=by split<;>walk_at "a"
 have k5:jY (b%3) (b/3%50)=true:=fZ ((Bt.mod (k:=10) (by decide) (by decide)).mono (by decide));walk_at "b"
 refine sqP (fun τ C=>C=[]/\τ=[some (.int a),some (.int b),some (.int c),some (.int k),some (.int u),some (.int (a%5)),none,none]) (by simp_arith[↓fB,↓fA];decide) ?_
 rintro _ _ ⟨rfl,rfl⟩
 refine sqP (fun τ C=>C=[]/\τ=[some (.int a),some (.int b),some (.int c),some (.int k),some (.int u),some (.int (a%5)),some (.int (b%6)),none]) (by simp_arith[↓fB,↓fA];decide) ?_
 rintro _ _ ⟨rfl,rfl⟩
 refine sqP (fun τ C=>C=[]/\τ=[some (.int a),some (.int b),some (.int c),some (.int k),some (.int u),some (.int (a%5)),some (.int (b%6)),some (.int (c%5))]) (by simp_arith[↓fB,↓fA];decide) ?_
 rintro _ _ ⟨rfl,rfl⟩
 refine sqP (fun τ C=>C=[]/\∃l m p,Nb l/\Nb m/\Nb p/\τ=[some (.int a),some (.int b),some (.int c),some (.int k),some (.int u),some (.int l),some (.int m),some (.int p)]) ?_ ?_
 ·by_cases hk:k=1
  ·refine ifT (by simp_arith[↓fB,↓fA];simp[hk]) ?_
   refine sqP (fun τ C=>C=[]/\τ=[some (.int a),some (.int b),some (.int c),some (.int k),some (.int u),some (.int (a*u+b%97)),some (.int (b%6)),some (.int (c%5))]) (by simp_arith[↓fB,↓fA];exact⟨k1,by decide⟩) ?_
   rintro _ _ ⟨rfl,rfl⟩
   refine sqP (fun τ C=>C=[]/\τ=[some (.int a),some (.int b),some (.int c),some (.int k),some (.int u),some (.int (a*u+b%97)),some (.int (b*u*(if decide (0<b%4)=true then 1 else 0))),some (.int (c%5))]) (by simp_arith[↓fB,↓fA];exact⟨k2,by decide,k4⟩) ?_
   rintro _ _ ⟨rfl,rfl⟩;simp_arith[↓fB,↓fA]
   exact⟨k3,by decide,_,h2,_,m2,_,p2,rfl⟩
  ·exact ifF (by simp_arith[↓fB,↓fA];simp[hk]) (i6.mpr ⟨rfl,rfl,_,_,_,h1,m1,p1,rfl⟩)
 rintro _ _ ⟨rfl,l,m,p,hl,hm,hp,rfl⟩
 refine sqP (fun τ C=>C=[]/\∃l m p,Nb l/\Nb m/\Nb p/\τ=[some (.int a),some (.int b),some (.int c),some (.int k),some (.int u),some (.int l),some (.int m),some (.int p)]) ?_ ?_
 ·by_cases hk:k=2
  ·refine ifT (by simp_arith[↓fB,↓fA];simp[hk]) ?_
   refine sqP (fun τ C=>C=[]/\τ=[some (.int a),some (.int b),some (.int c),some (.int k),some (.int u),some (.int l),some (.int (b%3*(b/3%50))),some (.int p)]) (by simp_arith[↓fB,↓fA];exact⟨by decide,by decide,by decide,k5⟩) ?_
   rintro _ _ ⟨rfl,rfl⟩;simp_arith[↓fB,↓fA,↓fH ez]
   exact⟨by decide,by decide,by decide,by decide,_,hl,_,m3,_,p3,rfl⟩
  ·exact ifF (by simp_arith[↓fB,↓fA];simp[hk]) (i6.mpr ⟨rfl,rfl,_,_,_,hl,hm,hp,rfl⟩)
 rintro _ _ ⟨rfl,l,m,p,hl,hm,hp,rfl⟩
 refine sqP (fun τ C=>C=[]/\∃l m p,Nb l/\Nb m/\Nb p/\τ=[some (.int a),some (.int b),some (.int c),some (.int k),some (.int u),some (.int l),some (.int m),some (.int p)]) ?_ ?_
 ·refine mN.mpr ?_
  simp_arith[↓fB,↓fA];split
  ·refine⟨by decide,?_⟩
   split
   ·exact⟨_,h0,_,hm,_,hp,rfl⟩
   ·exact⟨_,hl,_,hm,_,hp,rfl⟩
  ·exact⟨_,hl,_,hm,_,hp,rfl⟩
 rintro _ _ ⟨rfl,l,m,p,hl,hm,hp,rfl⟩;simp_arith[↓fB,↓fA]
 exact⟨by decide,fin hl hm hp⟩
def LotG(M:Nat)(t:T):Prop:=∃(ws:List (Int×Int×Int))(ps:List (Int×Int)),t=.tup [.lst (ws.map w3),.lst (ps.map pT)]/\ws.length<=M/\ps.length<=20/\(∀w∈ws,aAM w)/\∃rs,Rk ws.length rs/\∀p∈ps,Al rs p
theorem aFd{m:Nat}(ny:0<u)(hu:u<=10^20)(hm:m<=5)(hM:m<=M):∃t,oN [.lst (ns.map T.int),.int m,.int u]=some t/\LotG M t:=by
 apply kY;unfold vQ;walk_at "b";obtain⟨base,jx,hb0,hb1⟩:∃base:Int,(if kD ns 1/576%2=0 then(1:Int)else u*10^aOi 9)=base/\0<base/\base<2^200:=by
  refine⟨_,rfl,?_⟩
  split
  ·decide
  ·rw[show(10:Int)^aOi 9=1000000000 from rfl];lia
 have pick:∀k:Int,0<k->k<10->∃d:Int,atI [T.int k,T.int base] (if decide (1<base)=true then 1 else 0)=some (.int d)/\0<d/\d<2^200:=by
  intro k h1 h2;split
  ·exact⟨base,rfl,hb0,hb1⟩
  ·exact⟨k,rfl,h1,by lia⟩
 obtain⟨d5,e5,h5,h5'⟩:=pick 5 (by decide) (by decide);obtain⟨d6,e6,h6,h6'⟩:=pick 6 (by decide) (by decide);have k9:jY u (10^aOi 9)=true:=gE (Bt.of_lt (by decide) (by decide))
 refine sqA (t:=.int base) (by
  simp_arith[↓fB,↓fA,↓kJ,zX,jx]
  exact⟨by decide,k9,by decide,by decide,by decide⟩) ?_
 dsimp only[c7]
 refine fN.mpr (f6.mpr (j5.mpr (jO.mpr (fM.mpr ⟨by decide,f8.mpr (gW.mpr ?_)⟩))))
 dsimp only[c7,aY,aQ]
 refine fN.mpr (mJ.mpr (eZ.mpr ⟨_,rfl,_,rfl,by lia,lR (fun i τ C=>∃a b d e:Option T,τ=[some (.lst (ns.map T.int)),some (.int m),some (.int u),some (.int base),some (.cell 0),a,b,d,e,none,none,none]/\∃ws:List (Int×Int×Int),C=[(.l,ws.map w3)]/\ws.length=i/\∀w∈ws,aAM w) ⟨_,_,_,_,rfl,[],rfl,rfl,by simp⟩ ?_ ?_⟩))
 ·rintro i τ C hi ⟨_,_,_,_,rfl,ws,rfl,gx,gm⟩;have h3:0<=3+(0+(i:Int)):=by lia
  unfold sA
  refine f8.mpr ?_
  dsimp only[c7]
  refine sqA (t:=.int (kD ns (3+(0+(i:Int))))) (by simp_arith[↓fB,↓fA,↓kJ]) ?_
  dsimp only[c7];generalize kD ns (3+(0+(i:Int)))=z;have a1:=iK (x:=z) h5;have a2:=iK (x:=z/d5) h6;have a3:=iK (x:=z/d5/d6) h5
  refine sqA (t:=.int (z%d5)) (by simp_arith[↓fB,↓fA,↓fH e5];walk_at "a") ?_
  dsimp only[c7];generalize z%d5=z1 at a1
  refine sqA (t:=.int (z/d5)) (by simp_arith[↓fB,↓fA,↓fH e5];walk_at "a") ?_
  dsimp only[c7]
  refine sqA (t:=.int (z/d5%d6)) (by simp_arith[↓fB,↓fA,↓fH e6];walk_at "a") ?_
  dsimp only[c7];generalize z/d5%d6=z2 at a2
  refine sqA (t:=.int (z/d5/d6)) (by simp_arith[↓fB,↓fA,↓fH e6];walk_at "a") ?_
  dsimp only[c7];simp_arith[↓fB,↓fA,↓fH e5];generalize z/d5/d6%d5=z3 at a3
  refine⟨by decide,by walk_at "a",by decide,by walk_at "a",_,_,_,_,rfl,ws++[(z1+z2,z1,z3)],by rw[aI2],by simp[gx],fun w hw=>?_⟩
  rcases bM.mp hw with hw|hw
  ·exact gm w hw
  ·rw[bU.mp hw]
   exact⟨a1.1,by show z1<=z1+z2;lia,a3.1,by show z1+z2<2^240;lia,by show z3<2^240;lia⟩
 rintro τ C ⟨_,_,_,_,rfl,ws,rfl,gx,gm⟩;simp only[cF]at gx
 refine gW.mpr (sqA (t:=.int (kD ns 2)) (by simp_arith[↓fB,↓fA,↓kJ]) ?_)
 dsimp only[c7]
 refine fN.mpr (f6.mpr (j5.mpr (jO.mpr (fM.mpr ⟨by decide,f8.mpr (gW.mpr ?_)⟩))))
 dsimp only[c7,aV,aY,aQ,aN]
 refine fN.mpr (mJ.mpr (eZ.mpr ⟨_,rfl,_,rfl,by lia,lR (fun i τ C=>∃(a b d:Option T)(z:Int),τ=[some (.lst (ns.map T.int)),some (.int m),some (.int u),some (.int base),some (.cell 0),a,some (.int z),b,d,some (.cell 1),none,none]/\∃rs:List Int,C=[(.l,ws.map w3),(.l,rs.map T.int)]/\Rk i rs) ⟨_,_,_,_,rfl,[],rfl,⟨rfl,.nil,by simp⟩⟩ ?_ ?_⟩))
 ·rintro i τ C hi ⟨_,_,_,z,rfl,rs,rfl,hr⟩;have ah:=hr.len;have b2:=iK (x:=z) (m:=0+(i:Int)+1) (by lia);unfold rV;simp_arith[↓fB,↓fA];generalize z%(0+(i:Int)+1)=q at b2
  refine⟨by walk_at "a",⟨by walk_at "a",by lia,by lia⟩,j3 ⟨by lia,by lia⟩,_,_,_,_,rfl,insAt rs q (i:Int),by rw[eE,<-tQ],hr.ins⟩
 rintro τ C ⟨_,_,_,z,rfl,rs,rfl,hr⟩;have cr:Rk m rs:=by simpa using hr
 have ah:=cr.len
 refine gW.mpr (fN.mpr (f6.mpr (j5.mpr (jO.mpr (fM.mpr ⟨by decide,f8.mpr (gW.mpr ?_)⟩)))))
 dsimp only[c7,aV,aY,aQ,aN]
 refine fN.mpr (mJ.mpr (eZ.mpr ⟨_,rfl,_,rfl,by lia,lR (fun i τ C=>∃(a b d e:Option T)(z:Int),τ=[some (.lst (ns.map T.int)),some (.int m),some (.int u),some (.int base),some (.cell 0),a,some (.int z),b,d,some (.cell 1),some (.cell 2),e]/\∃ps:List (Int×Int),C=[(.l,ws.map w3),(.l,rs.map T.int),(.l,ps.map pT)]/\ps.length<=i*4/\∀p∈ps,Al rs p) ⟨_,_,_,_,_,rfl,[],rfl,by simp,by simp⟩ ?_ ?_⟩))
 ·rintro k τ C hk ⟨_,_,_,_,z,rfl,ps,rfl,ju,cy⟩;have hk:k<m:=by lia
  unfold rN;simp_arith[↓fB,↓fA];rw[nM]
  refine iR (fun j τ C=>∃(b d e:Option T)(z:Int),τ=[some (.lst (ns.map T.int)),some (.int m),some (.int u),some (.int base),some (.cell 0),some (.int (0+(k:Int))),some (.int z),b,d,some (.cell 1),some (.cell 2),e]/\∃ps:List (Int×Int),C=[(.l,ws.map w3),(.l,rs.map T.int),(.l,ps.map pT)]/\ps.length<=k*4+j/\∀p∈ps,Al rs p) ⟨_,_,_,_,rfl,ps,rfl,ju,cy⟩ ?_ ?_
  ·rintro j x τ C hj ⟨_,_,_,z,rfl,ps,rfl,ju,cy⟩;rw[aD4 (by lia),show(0+(k:Int)).toNat=k by lia]at hj;obtain⟨hj1,hj2⟩:=aR.mp hj;have vj:j<k:=by simp at hj1;lia
   rw[List.getElem_take]at hj2;have e1:=tZ (ns:=rs) (i:=0+(k:Int)) (by lia) (by lia);unfold rK;simp_arith[↓fB,↓fA,↓fH e1]
   refine⟨by walk_at "a",?_⟩
   split
   ·refine⟨by walk_at "a",by walk_at "a",by decide,trivial,_,_,_,_,rfl,_,by rw[aJu],by simp;lia,fun p hp=>?_⟩
    rcases bM.mp hp with hp|hp
    ·exact cy p hp
    ·rw[bU.mp hp]
     exact⟨j,k,vj,by rw[<-hj2];exact bB (by lia),by rw[bB (by lia)];congr 2;lia⟩
   ·exact⟨by decide,trivial,_,_,_,_,rfl,ps,rfl,by lia,cy⟩
  ·rintro τ C ⟨_,_,_,z,rfl,ps,rfl,ju,cy⟩;have:(uO rs none (some (0+(k:Int)))).length<=4:=by rw[aD4 (by lia),dR];lia
   exact⟨_,_,_,_,_,rfl,ps,rfl,by lia,cy⟩
 rintro τ C ⟨_,_,_,_,z,rfl,ps,rfl,ju,cy⟩;simp only[cF]at ju;simp_arith[↓fB,↓fA]
 refine⟨by walk_at "a",_,aGw (us:=[.lst (ws.map w3),.lst (ps.map pT)]) (jN (pS rfl nE) (jN (aBs rfl) rfl)),ws,ps,rfl,by lia,by lia,gm,rs,by rw[gx];exact cr,cy⟩
theorem pick3{x y:Int}:∃t∈[x,y,z],atI [T.int x,T.int y,T.int z] (i%3)=some (.int t):=by
 have hq:=iK (x:=i) (m:=3) (by decide);obtain⟨t,ht,et⟩:=aAQ (xs:=[x,y,z]) hq.1 hq.2
 exact⟨t,ht,by rw[show[T.int x,T.int y,T.int z]=[x,y,z].map T.int from rfl,aAO,et];rfl⟩
theorem pick4{x y:Int}:∃t∈[x,y,z,u],atI [T.int x,T.int y,T.int z,T.int u] (i%4)=some (.int t):=by
 have hq:=iK (x:=i) (m:=4) (by decide);obtain⟨t,ht,et⟩:=aAQ (xs:=[x,y,z,u]) hq.1 hq.2
 exact⟨t,ht,by rw[show[T.int x,T.int y,T.int z,T.int u]=[x,y,z,u].map T.int from rfl,aAO,et];rfl⟩
theorem aIG(hl:ns.length<=63)(h4:4<=M)(h8:M<=8)(ny:0<u)(hu:u<=10^20):∃t,rY [.lst (ns.map T.int),.int M,.int u]=some t/\LotG M t:=by
 obtain⟨_,e1,xs,rfl,lp,fq⟩:=aBT hl;have w1:∀{C Q},wpO (iF 1 mS [.lst (ns.map T.int)] C) Q↔Q (.lst (xs.map T.int)) C:=fO e1 rfl (by walk_at "c");have pw:∀i:Int,0<=i->i<40->∃x,atI (xs.map T.int) i=some (.int x)/\Sm x:=fun i h1 h2=>⟨_,tZ h1 (by lia),fq _ (dS _)⟩
 apply kY;unfold aKG;walk_at "b"
 refine sqA (t:=.lst (xs.map T.int)) (by simp_arith[↓fB,↓fA,↓w1]) ?_
 dsimp only[c7]
 refine sqA (t:=.int (kD ns 0)) (by simp_arith[↓fB,↓fA,↓kJ]) ?_
 dsimp only[c7];generalize kD ns 0=first
 have rq:=iK (x:=first/4) (m:=min 6 ((M:Int)+1)) (by lia)
 refine sqA (t:=.int (first/4%min 6 ((M:Int)+1))) (by simp_arith[↓fB,↓fA];exact⟨by decide,by walk_at "a"⟩) ?_
 dsimp only[c7];generalize first/4%min 6 ((M:Int)+1)=few at rq
 obtain⟨z,hz,ez⟩:=pick4 (x:=0) (y:=0) (z:=1) (u:=2) (i:=first/4);have q2:=iK (x:=first/4) (m:=3) (by decide);obtain⟨mi,yg,em⟩:=pick4 (x:=few) (y:=(M:Int) - z) (z:=few) (u:=min (M:Int) (3+first/4%3)) (i:=first);simp only[bE,cA,or_false]at hz yg;have hz2:0<=z/\z<=2:=by rcases hz with rfl|rfl|rfl|rfl<;>decide
 have hf6:few<(M:Int)+1:=aOK rq.2 (Int.min_le_right _ _);have hmb:0<=mi/\mi<=M:=by
  rcases yg with h|h|h|h
  ·rw[h];exact⟨rq.1,by lia⟩
  ·rw[h];exact⟨by lia,by lia⟩
  ·rw[h];exact⟨rq.1,by lia⟩
  ·rw[h];exact⟨Int.le_min.mpr ⟨by lia,by lia⟩,aO8 _ _⟩
 clear hz yg hz2 hf6 rq q2;obtain⟨m,rfl,hm⟩:∃m:Nat,mi=m/\m<=M:=⟨mi.toNat,by lia,by lia⟩;clear hmb
 refine sqA (t:=.int m) (by simp_arith[↓fB,↓fA,↓fH ez,↓fH em];decide) ?_
 dsimp only[c7]
 refine sqA (t:=.int (kD ns 1)) (by simp_arith[↓fB,↓fA,↓kJ]) ?_
 dsimp only[c7];generalize kD ns 1=c
 refine fN.mpr ?_
 by_cases hc:c/288%2=1
 ·refine ifT (by simp_arith[↓fB,↓fA,hc];decide) ?_
  obtain⟨k5,ek5,hk3,hk5⟩:∃k:Int,atI [T.int 5,T.int 3] (if decide ((M:Int)<5)=true then 1 else 0)=some (.int k)/\3<=k/\k<=5:=by
   split
   ·exact⟨3,rfl,by decide,by decide⟩
   ·exact⟨5,rfl,by decide,by decide⟩
  obtain⟨j,hj,hj5,vh⟩:∃j:Nat,min (m:Int) k5=j/\j<=5/\j<=M:=⟨(min (m:Int) k5).toNat,by lia,by lia,by lia⟩;obtain⟨t,et,ws,ps,rfl,ht⟩:=aFd (ns:=ns) ny hu hj5 vh;simp_arith[↓fB,↓fA,↓fH ek5,hj];rw[fO (n:=3) et rfl (by walk_at "c")]
  exact⟨by decide,_,iZ (by rw[jU,fL,fL,gB,f9,f9,nE,lN];rfl),ws,ps,rfl,ht⟩
 refine ifF (by simp_arith[↓fB,↓fA,hc];decide) (i6.mpr (gW.mpr ?_))
 have hex:∀i:Nat,∃w:Int×Int×Int,i<m->(∃x y z:Int,atI (xs.map T.int) (0+(i:Int))=some (.int x)/\atI (xs.map T.int) (8+(0+(i:Int)))=some (.int y)/\atI (xs.map T.int) (16+(0+(i:Int)))=some (.int z)/\qY [.int x,.int y,.int z,.int (c%4),.int u]=some (w3 w))/\aAM w:=by
  intro i;by_cases hi:i<m
  ·obtain⟨x,ex,sx⟩:=pw (0+(i:Int)) (by lia) (by lia);obtain⟨y,ey,sy⟩:=pw (8+(0+(i:Int))) (by lia) (by lia);obtain⟨z,ez,sz⟩:=pw (16+(0+(i:Int))) (by lia) (by lia);obtain⟨_,ew,w,rfl,hw⟩:=aED (k:=c%4) (u:=u) sx sy sz (by lia) (by lia)
   exact⟨w,fun _=>⟨⟨x,y,z,ex,ey,ez,ew⟩,hw⟩⟩
  ·exact⟨(0,0,0),fun h=>absurd h hi⟩
 obtain⟨f,hf⟩:=aPQ hex;obtain⟨x39,zi,_⟩:=pw 39 (by decide) (by decide);obtain⟨_,en,rs,rfl,cr⟩:=yX (c:=x39) (m:=m) (by lia);have ah:=cr.len
 refine sqA (t:=.lst (((bI m).map f).map w3)) (gF.mpr (oG.mpr (eZ.mpr ⟨_,rfl,_,rfl,by lia,?_⟩))) ?_
 ·rw[nX,cF]
  refine gG (fun i=>w3 (f i)) (fun i hi=>?_) ⟨by rw[b7];rfl,rfl⟩
  have hi:i<m:=by simpa using hi
  obtain⟨⟨x,y,z,ex,ey,ez,ew⟩,hw⟩:=hf i hi;simp only[scT,aT,aM,bC,aY,aV,aW,bR,bS,cC];simp_arith[↓fB,↓fA,↓fH ex,↓fH ey,↓fH ez];rw[fO (n:=5) ew rfl (by walk_at "c")]
  exact⟨by decide,rfl,rfl⟩
 dsimp only[c7];have gm:∀w∈(bI m).map f,aAM w:=fun w hw=>by
  obtain⟨i,hi,rfl⟩:=bL.mp hw
  exact(hf i (cW.mp hi)).2
 have il:((bI m).map f).length=m:=by simp
 generalize (bI m).map f=ws at gm il
 refine sqA (t:=.lst (rs.map T.int)) (by simp_arith[↓fB,↓fA,↓fH zi];rw[fO (n:=2) en rfl (by walk_at "c")];exact⟨rfl,rfl⟩) ?_
 dsimp only[c7]
 refine fN.mpr (f6.mpr (j5.mpr (jO.mpr (fM.mpr ⟨by decide,f8.mpr (gW.mpr ?_)⟩))))
 dsimp only[c7,aY,aQ];have q4:=iK (x:=c/4) (m:=4) (by decide)
 refine fN.mpr ?_
 simp_arith[↓fB,↓fA];generalize c/4%4=c4 at q4
 refine⟨by decide,by decide,by lia,lR (fun i τ C=>∃(a b d e:Option T),τ=[some (.lst (ns.map T.int)),some (.int M),some (.int u),some (.lst (xs.map T.int)),some (.int first),some (.int few),some (.int m),some (.int c),some (.lst (ws.map w3)),some (.lst (rs.map T.int)),some (.cell 0),a,b,d,e]/\∃ps:List (Int×Int),C=[(.l,ps.map pT)]/\ps.length<=i/\∀p∈ps,Al rs p) ⟨_,_,_,_,rfl,[],rfl,by simp,by simp⟩ ?_ ?_⟩
 ·rintro i τ C hi ⟨_,_,_,_,rfl,ps,rfl,ju,cy⟩;obtain⟨x,ex,sx⟩:=pw (24+(i:Int)) (by lia) (by lia);unfold aD5
  refine f8.mpr ?_
  dsimp only[c7];by_cases h1:(1:Int)<m
  ·refine ifT (by simp_arith[↓fB,↓fA];exact j3 h1) ?_
   have b1:=iK (x:=x) (m:=(m:Int) - 1) (by lia)
   refine sqA (t:=.int (1+x%((m:Int) - 1))) (by simp_arith[↓fB,↓fA,↓fH ex];walk_at "a") ?_
   dsimp only[c7];generalize x%((m:Int) - 1)=y at b1;obtain⟨e3,yv,e3'⟩:=pick3 (x:=1) (y:=2) (z:=8) (i:=c/16);simp only[bE,cA,or_false]at yv;have yi:0<min (1+y) e3:=Int.lt_min.mpr ⟨by lia,by rcases yv with rfl|rfl|rfl<;>decide⟩;have b2:=iK (x:=x/16) yi
   refine sqA (t:=.int (x/16%min (1+y) e3)) (by simp_arith[↓fB,↓fA,↓fH ex,↓fH e3'];exact⟨by decide,by decide,by decide,by decide,j3 yi⟩) ?_
   dsimp only[c7];generalize x/16%min (1+y) e3=bk at b2;have hb1:=b2.1;have hb2:bk<1+y:=aOK b2.2 (aO8 _ _);clear b2 yi yv e3';obtain⟨ia,oo,h0,bo⟩:∃ia:Int,(if c/48%2=0 then 1+y - 1 - bk else bk)=ia/\0<=ia/\ia<1+y:=⟨_,rfl,by split<;>lia,by split<;>lia⟩
   refine sqA (t:=.int ia) (by simp_arith[↓fB,↓fA,zX,oo];decide) ?_
   dsimp only[c7];have b3:=iK (x:=x/256) (m:=(ps.length:Int)+1) (by lia);simp_arith[↓fB,↓fA,↓fH ex,aP,↓fH (tZ (ns:=rs) h0 (by lia)),↓fH (tZ (ns:=rs) (i:=1+y) (by lia) (by lia))];generalize x/256%((ps.length:Int)+1)=at9 at b3
   refine⟨by decide,by walk_at "a",by decide,⟨by walk_at "a",by lia,by lia⟩,_,_,_,_,rfl,insAt ps at9 (_,_),by rw[<-tQ];rfl,by rw[vM];lia,fun p hp=>?_⟩
   rcases bE.mp (tV.mem_iff.mp hp)with hp|hp
   ·rw[hp]
    exact⟨ia.toNat,(1+y).toNat,by lia,bB (by lia),bB (by lia)⟩
   ·exact cy p hp
  ·exact ifF (by simp_arith[↓fB,↓fA];simpa using h1) (i6.mpr ⟨trivial,_,_,_,_,rfl,ps,rfl,by lia,cy⟩)
 ·rintro τ C ⟨_,_,_,_,rfl,ps,rfl,ju,cy⟩;simp_arith[↓fB,↓fA,nM];have ou:(uO ps (some (c/96%3)) none).length<=20:=cB aHs (by lia)
  refine⟨by decide,by decide,by decide,_,iZ (by rw[jU,fL,fL,gB,f9,f9,nE,lN];rfl),ws,_,rfl,by lia,ou,gm,rs,by rw[il];exact cr,fun p hp=>cy p (aBp hp)⟩
end Lib
namespace Lib
open PySem L2 TL NF
variable{ws:List (Int×Int×Int)}{ps:List (Int×Int)}{nd:List (List Int)}{bonus:Int}
theorem aDA{α:Type}{g:α->Int}{d:α}{ws:List α}:∀{k:Nat},k<=ws.length->sm k (fun i=>g ((ws[i]?).getD d))=((ws.take k).map g).sum
 |0,_=>by simp[sm]
 |k+1,hk=>by
  have ih:=aDA (g:=g) (d:=d) (ws:=ws) (k:=k) (by lia);show sm k _+g ((ws[k]?).getD d)=_;rw[ih,aOe,bB (by lia),dI,bQ,aOD];simp
theorem aJY{α:Type}{g:α->Int}{d:α}{ws:List α}:sm ws.length (fun i=>g ((ws[i]?).getD d))=(ws.map g).sum:=by rw[aDA (bG _),cV]
theorem aCb{n:Nat}{x:Int}:sm n (fun _=>x)=n*x:=by
 induction n with
 |zero=>simp[sm]
 |succ n ih=>show sm n _+x=_;rw[ih,aPD,aOd,aPh]
theorem pB{P:Int×Int×Int->Prop}(h:∀w∈ws,P w){i:Nat}(hi:i<ws.length):P ((ws[i]?).getD (0,0,0)):=by
 rw[bB hi]
 exact h _ (dS hi)
theorem yT{m:Nat}(hw:InW m ps)(h:Nd ps m nd){e:Nat×Nat}(he:e∈iQ 0 nd):((e.1:Int),(e.2:Int))∈ps/\e.1<m/\e.2<m:=by
 obtain⟨b,l,a,h1,h2,rfl⟩:=aHe he;have hp:=((h.2 b l h1).2 a).mp h2;have:=hw _ hp
 refine⟨?_,by show a.toNat<m;have:=this.1;dsimp only at this;lia,by show 0+b<m;have:=(aR.mp h1).1;rw[h.1]at this;lia⟩
 show((a.toNat:Int),((0+b:Nat):Int))∈ps;rw[aOh,bN this.1.1];exact hp
theorem aGk{m:Nat}(hw:InW m ps)(h:Nd ps m nd){p:Int×Int}(hp:p∈ps):(p.1.toNat,p.2.toNat)∈iQ 0 nd:=by
 have:=hw p hp;have hb:p.2.toNat<nd.length:=by rw[h.1];lia
 have e:=bB hb
 refine aIr e (((h.2 _ _ e).2 p.1).mpr ?_)
 rw[bN this.2.1];exact hp
theorem aIw{m:Nat}{o:List Int}(t:Topo ps m o):∃r:Nat->Int,(∀i,i<m->0<=r i/\r i<m)/\∀a b:Nat,((a:Int),(b:Int))∈ps->b<m->r a<r b:=by
 refine⟨fun i=>(o.idxOf (i:Int):Int),fun i hi=>⟨Int.natCast_nonneg _,?_⟩,fun a b oy hb=>?_⟩
 ·have:=dP (t.all i hi);rw[t.len]at this;show((o.idxOf (i:Int):Nat):Int)<m
  lia
 ·have hbm:=dP (t.all b hb);have me:o[o.idxOf (b:Int)]?=some (b:Int):=by
   rw[bB hbm,aOO]
  have ha:=t.top _ _ me _ oy;obtain⟨i,hi⟩:=bT.mp ha;have yo:=(aR.mp hi).1;rw[dR]at yo;rw[List.getElem?_take,if_pos (by lia)]at hi;obtain⟨h1,h2⟩:=aR.mp hi;have:o.idxOf (a:Int)=i:=by rw[<-h2];exact t.nd.idxOf_getElem i h1
  show((o.idxOf (a:Int):Nat):Int)<((o.idxOf (b:Int):Nat):Int)
  lia
structure Gvn(ws:List (Int×Int×Int))(ps:List (Int×Int))(nd:List (List Int)):Prop where
 l8:ws.length<=8
 pl:ps.length<=1000
 inw:InW ws.length ps
 acy:Acy ps
 ndd:Nd ps ws.length nd
 need:gM [.int ws.length,.lst (ps.map pT)]=some (.lst (nd.map iT))
 ok:∀w∈ws,sJ w
theorem Gvn.ex(h1:ws.length<=8)(h2:ps.length<=1000)(h3:InW ws.length ps)(h4:Acy ps)(h5:∀w∈ws,sJ w):∃nd,Gvn ws ps nd:=by
 obtain⟨_,e,nd,rfl,gy⟩:=tO (by lia) h2 h3
 exact⟨nd,h1,h2,h3,h4,gy,e,h5⟩
theorem Gvn.rank(G:Gvn ws ps nd):∃r:Nat->Int,(∀i,i<ws.length->0<=r i/\r i<ws.length)/\∀e∈iQ 0 nd,r e.1<r e.2:=by
 obtain⟨_,_,o,_,ho,iq⟩:=vX G.l8 G.pl G.inw G.acy;obtain⟨r,h1,h2⟩:=aIw (iq.topo ho)
 exact⟨r,h1,fun e he=>h2 _ _ (yT G.inw G.ndd he).1 (yT G.inw G.ndd he).2.2⟩
theorem Gvn.price:sm ws.length (fW ws).p=plenty ws bonus - bonus - 1:=by
 show sm ws.length (fun i=>((ws[i]?).getD (0,0,0)).2.2)=_;rw[aJY (g:=fun w:Int×Int×Int=>w.2.2)];unfold plenty;lia
theorem Gvn.sP(G:Gvn ws ps nd):sm ws.length (fW ws).p<=8*2^252:=by
 have h1:sm ws.length (fW ws).p<=sm ws.length fun _=>2^252:=zM fun i hi=>aO2 (pB (P:=sJ) G.ok hi).2.2.2.2
 rw[aCb]at h1;have h3:(ws.length:Int)*2^252<=8*2^252:=cZ (by have:=G.l8;lia) (by decide)
 lia
theorem Gvn.wel(G:Gvn ws ps nd)(hb:0<=bonus):Wel (fW ws) ws.length (iQ 0 nd) (plenty ws bonus):=by
 refine⟨G.l8,?_,fun e he=>(yT G.inw G.ndd he).2,G.rank,fun i hi=>(pB G.ok hi).1,?_,?_⟩
 ·have:=aCs (nd:=nd) (z:=1000) (fun l hl=>?_) (s:=0)
  ·rw[G.ndd.1]at this;have h2:ws.length*1000<=8*1000:=aPg _ G.l8;have h3:=G.l8;show 4*ws.length+(iQ 0 nd).length<40000
   lia
  ·obtain⟨b,hb⟩:=bT.mp hl
   exact cB (G.ndd.2 b l hb).1 G.pl
 ·rw[Gvn.price (bonus:=bonus)];lia
 ·exact eI G.sP (by decide)
theorem Gvn.tim(G:Gvn ws ps nd){bs:List Int}(hE:Early ps (ws.map (·.2.1)) bs):Tim ws.length (iQ 0 nd) (jR 0 (dones bs (ws.map (·.2.1)))) (fun i=>at0 bs i) (fW ws).l:=by
 have hh:∀i:Nat,i<ws.length->at0 (ws.map (·.2.1)) i=(fW ws).l i:=fun i hi=>by
  rw[jH (by simpa using hi)];show _=((ws[i]?).getD (0,0,0)).2.1;rw[bB hi];simp
 refine⟨fun i _=>hE.pos _,fun i hi=>?_,fun x hx=>?_⟩
 ·rw[<-hh i hi]
  exact uZ ((mI hE.len).mpr ⟨i,by simpa using hi,rfl⟩)
 ·obtain⟨h1,h2,h3⟩:=yT G.inw G.ndd hx;rw[<-hh x.1 h2]
  exact hE.ge _ h1
end Lib
namespace Lib
open PySem L2 TL NF
variable{ws:List (Int×Int×Int)}{ps:List (Int×Int)}{nd:List (List Int)}{hs bs:List Int}{e P:Int}{w:Wk}{es:List (Nat×Nat)}
theorem Gvn.timH(G:Gvn ws ps nd)(hE:Early ps hs bs)(hl:hs.length=ws.length):Tim ws.length (iQ 0 nd) (jR 0 (dones bs hs)) (fun i=>at0 bs i) (fun i=>at0 hs i):=by
 refine⟨fun i _=>hE.pos _,fun i hi=>?_,fun x hx=>?_⟩
 ·exact uZ ((mI hE.len).mpr ⟨i,by rw[hl];exact hi,rfl⟩)
 ·exact hE.ge _ (yT G.inw G.ndd hx).1
theorem Gvn.fst(G:Gvn ws ps nd)(hE:Early ps hs bs)(hl:hs.length=ws.length){B:Nat->Int}(he:0<=e)(b0:∀i,i<ws.length->0<=B i)(hB:∀p∈ps,B p.1.toNat+at0 hs p.1<=B p.2.toNat)(hM:∀i:Nat,i<ws.length->B i+at0 hs i<=e):jR 0 (dones bs hs)<=e:=by
 obtain⟨r,h1,h2⟩:=G.rank;have key:∀(k:Nat)(i:Nat),i<ws.length->r i<k->at0 bs i<=B i:=fun k=>by
  induction k with
  |zero=>intro i hi hk;have:=h1 i hi;lia
  |succ k ih=>
   intro i hi hk;have:=b0 i hi;rcases hE.att i (by rw[hl];exact hi)with h| ⟨a,ha,h⟩
   ·lia
   ·have h3:=h2 _ (aGk G.inw G.ndd ha);have oo:=(G.inw _ ha).1;have h4:=hB _ ha;dsimp only at oo h3 h4;rw[cF]at h3 h4;have h5:=ih a.toNat (by lia) (by lia);rw[bN oo.1]at h5
    lia
 rcases pA (d:=0) (ns:=dones bs hs)with⟨_,h⟩|h
 ·rw[h];exact he
 ·obtain⟨w,hw,e⟩:=(mI hE.len).mp h;rw[hl]at hw;have h3:=key (r w+1).toNat w hw (by have:=h1 w hw;lia);have h4:=hM w hw
  lia
theorem Gvn.early_le(G:Gvn ws ps nd)(hE:Early ps hs bs)(hl:hs.length=ws.length){M:Int}(hM:0<=M)(hH:∀i:Nat,i<ws.length->0<=at0 hs i/\at0 hs i<=M):jR 0 (dones bs hs)<=8*M:=by
 obtain⟨r,h1,h2⟩:=G.rank;have hn:=G.l8
 refine G.fst hE hl (B:=fun i=>r i*M) (by lia) (fun i hi=>dA (h1 i hi).1 hM) (fun p hp=>?_) fun i hi=>?_
 ·have h3:=h2 _ (aGk G.inw G.ndd hp);have oo:=(G.inw _ hp).1;have h4:=hH p.1.toNat (by lia);rw[bN oo.1]at h4;have h5:=cZ (show r p.1.toNat+1<=r p.2.toNat from h3) hM;rw[aOd,aPh]at h5
  lia
 ·have h3:=h1 i hi;have h4:=hH i hi;have h5:=cZ (show r i+1<=8 by lia) hM;rw[aOd,aPh]at h5
  lia
theorem aAR{i:Nat}(hi:i<ws.length):at0 (ws.map iH) i=if(fW ws).p i=0 then(fW ws).l i else(fW ws).u i:=by
 rw[jH (by simpa using hi)];show _=if((ws[i]?).getD (0,0,0)).2.2=0 then((ws[i]?).getD (0,0,0)).2.1 else((ws[i]?).getD (0,0,0)).1
 rw[bB hi,d9];rfl
theorem Gvn.free(G:Gvn ws ps nd)(hE:Early ps (ws.map iH) bs){bonus:Int}(hb:0<=bonus):
 jR 0 (dones bs (ws.map iH))<=8*2^252/\∃p0,Good (fW ws) ws.length (iQ 0 nd) (plenty ws bonus) (fun _=>0) 0 p0/\sm (2*ws.length+2) p0<10^198/\p0 1=jR 0 (dones bs (ws.map iH)):=by
 have T:=G.timH hE (by simp);have W:=G.wel hb;have hn:=G.l8;have wo:∀i,i<ws.length->sJ ((ws[i]?).getD (0,0,0)):=fun i hi=>pB (P:=sJ) G.ok hi
 have lu:∀i,i<ws.length->0<=(fW ws).l i/\(fW ws).l i<=(fW ws).u i/\(fW ws).u i<2^252/\0<=(fW ws).p i:=fun i hi=>⟨(wo i hi).1,(wo i hi).2.1,(wo i hi).2.2.2.1,(wo i hi).2.2.1⟩
 have hh:∀i:Nat,i<ws.length->0<=at0 (ws.map iH) i/\at0 (ws.map iH) i<=2^252/\(fW ws).l i<=at0 (ws.map iH) i:=fun i hi=>by
  have:=lu i hi;rw[aAR hi];split<;>lia
 have hM:=G.early_le hE (by simp) (M:=2^252) (by decide) fun i hi=>⟨(hh i hi).1,(hh i hi).2.1⟩
 have hz:0<=jR 0 (dones bs (ws.map iH)):=(hE.mxL fun x hx=>by
  obtain⟨w,hw,rfl⟩:=bL.mp hx;have h:=G.ok w hw;unfold iH;split
  ·exact h.1
  ·exact dZ h.1 h.2.1).1
 refine⟨hM,pf (jR 0 (dones bs (ws.map iH))) (fun i=>at0 bs i) (fun i=>at0 (ws.map iH) i),⟨fun p=>?_,fun k hk=>?_,fun k hk=>⟨fun hc=>?_,fun z=>absurd z (Int.lt_irrefl _)⟩,rfl,fun v hv=>?_⟩,?_,rfl⟩
 ·rw[dY];exact m5 fun k _=>dY _
 ·refine⟨bZ _,?_⟩
  have hP:0<=plenty ws bonus:=by
   have:=W.pP;have h2:0<=sm ws.length (fW ws).p:=nO fun i hi=>(lu i hi).2.2.2
   lia
  cases pipe hk with
  |src i hi e t h d c=>rw[c];exact hP
  |usu i hi e t h d c=>rw[c];exact(lu i hi).2.2.2
  |lea i hi e t h d c=>rw[c];exact hP
  |snk i hi e t h d c=>rw[c];exact hP
  |nee x y j hj e t h d c=>rw[c];exact hP
 ·cases hU:isU ws.length k with
  |false=>exact aAj T (fun i hi=>(hh i hi).2.2) k hk hU
  |true=>
   cases pipe hk with
   |src i hi e=>simp[isU]at hU;lia
   |usu i hi e t h d c=>
    rw[t,h,d,aER,aFB,aAR hi,if_neg (by rw[c]at hc;lia)];lia
   |lea i hi e=>simp[isU]at hU;lia
   |snk i hi e=>simp[isU]at hU;lia
   |nee x y j hj e=>simp[isU]at hU;lia
 ·by_cases v0:v=0
  ·rw[v0];exact bZ _
  ·by_cases v1:v=1
   ·rw[v1];exact hz
   ·by_cases ve:v%2=0
    ·obtain⟨i,rfl⟩:∃i,v=2*i+2:=⟨v/2 - 1,by lia⟩;rw[aER];exact T.b0 i (by lia)
    ·obtain⟨i,rfl⟩:∃i,v=2*i+3:=⟨v/2 - 1,by lia⟩;rw[aFB];have:=T.b0 i (by lia);have:=(hh i (by lia)).1;lia
 ·have h5:sm (2*ws.length+2) (pf (jR 0 (dones bs (ws.map iH))) (fun i=>at0 bs i) (fun i=>at0 (ws.map iH) i))<=sm (2*ws.length+2) fun _=>8*2^252:=zM fun v hv=>by
   unfold pf;split
   ·decide
   ·split
    ·exact hM
    ·have hi:v/2 - 1<ws.length:=by lia
     have h8:=T.e _ hi;have h9:=hh _ hi;dsimp only at h8|-;split<;>lia
  rw[aCb]at h5;have h6:((2*ws.length+2:Nat):Int)*(8*2^252)<=18*(8*2^252):=cZ (by lia) (by decide);have h7:(18*(8*2^252):Int)<10^198:=by decide
  lia
theorem Gvn.zge(G:Gvn ws ps nd)(hE:Early ps (ws.map (·.2.1)) bs):0<=jR 0 (dones bs (ws.map (·.2.1))):=
 (hE.mxL fun x hx=>by
  obtain⟨w,hw,rfl⟩:=bL.mp hx
  exact(G.ok w hw).1).1
theorem yA(G:Gvn ws ps nd)(hE:Early ps (ws.map (·.2.1)) bs)(he:jR 0 (dones bs (ws.map (·.2.1)))<=e){p0:Nat->Int}(G0:Good (fW ws) ws.length (iQ 0 nd) (plenty ws 0) (fun _=>0) 0 p0)(hb:sm (2*ws.length+2) p0<10^198){C:Sto}{Q:T->Sto->Prop}
 (q:∀f p a C',Filled (fW ws) ws.length (iQ 0 nd) (plenty ws 0) e (fun _=>0) 0 p0 f p a->a<=sm ws.length (fW ws).p->0<=a->iA (iC ws nd 0) f C.length (2*ws.length+2:Nat) C'->Q (.cell C.length) C'):
 wpO (l6 [.lst (ws.map w3),.lst (ps.map pT),.int e] C) Q:=by
 have W:=G.wel (bonus:=0) (by decide);have hz:=G.zge hE
 refine iL ?_
 unfold rL;walk_at "b"
 refine fN.mpr (f6.mpr (wC (fE.mpr (eZ.mpr ⟨_,rfl,fE.mpr (eZ.mpr ⟨_,rfl,fM.mpr ⟨rfl,?_⟩⟩)⟩))))
 refine aCG (nd:=nd) G.l8 G.pl G.inw G.need G.ndd fun C1 P1=>⟨rfl,f8.mpr (gW.mpr (fN.mpr (oY.mpr (mO ?_))))⟩
 have A1:iA (iC ws nd 0) (fun _=>0) C.length (2*ws.length+2:Nat) C1:=by
  have:=P1.at;rw[show((2*ws.length+2:Nat):Int)=2*(ws.length:Int)+2 by lia];exact this
 refine eZ.mpr ⟨_,rfl,oM A1.net rfl,fE.mpr (eZ.mpr ⟨_,rfl,fM.mpr ⟨rfl,?_⟩⟩)⟩
 refine aJz W (G.tim hE) he (by lia) G0 (nO fun i hi=>(pB (P:=sJ) G.ok hi).2.2.1) (bZ _) (eJ hb (by decide)) A1 fun f p a C2 F ha jy A2 _ _=>?_
 exact gW.mpr (iV.mpr (eZ.mpr ⟨_,rfl,q f p a C2 F ha jy A2⟩))
theorem aGs{N:Nt}{a:Int}(h:Flo N (fun _=>0) a):a=0:=by
 have:=h fun v=>if v=1 then 1 else 0
 rw[m5 fun k _=>dY _]at this;simp at this
 lia
theorem aGG{n:Nat}{k:Nat}(hk:k<(net w n es P).m):(net w n es P).h k≠0/\(net w n es P).t k≠1:=by
 cases pipe hk with
 |src i hi e t h d c=>rw[t,h];lia
 |usu i hi e t h d c=>rw[t,h];lia
 |lea i hi e t h d c=>rw[t,h];lia
 |snk i hi e t h d c=>rw[t,h];lia
 |nee x y i hi e t h d c=>rw[t,h];lia
theorem aLG{n:Nat}(W:Wel w n es P){f:Nat->Int}{a:Int}(hf:Flo (net w n es P) f a)(hc:Cap (net w n es P) f):∃ρ,Flw (stp (net w n es P) f (net w n es P).m) a ρ:=by
 obtain⟨r,h1,h2⟩:=W.rk;have hn:=W.n8;have hup:=aKV (w:=w) (P:=P) h1 h2;have key:∀e∈stp (net w n es P) f (net w n es P).m,∃j,j<(net w n es P).m/\e.1=((net w n es P).t j,(net w n es P).h j):=fun e he=>v9 (cM he)
 have r1:rk n r 1=2*n:=rfl;have r0:rk n r 0= -1:=rfl
 refine⟨rk n r,aMI hf,xP (fun k hk=>(hc k hk).1) (bG _),sW,fun e he=>?_,fun e he=>?_,fun e he=>?_,fun e he=>?_,by rw[r1,r0];lia,by rw[r1,r0];lia,eB oF (by have:=W.m;lia)⟩
 ·obtain⟨j,hj,e1⟩:=key e he;rw[e1];exact(aGG hj).1
 ·obtain⟨j,hj,e1⟩:=key e he;rw[e1];exact hup j hj
 ·obtain⟨j,hj,e1⟩:=key e he;rw[e1,r1];show rk n r ((net w n es P).h j)<=_;cases pipe hj with
  |src i hi e t h d c=>rw[h,wW];have:=h1 i hi;lia
  |usu i hi e t h d c=>rw[h,uP];have:=h1 i hi;lia
  |lea i hi e t h d c=>rw[h,uP];have:=h1 i hi;lia
  |snk i hi e t h d c=>rw[h,r1];lia
  |nee x y i hi e t h d c=>rw[h,wW];have:=h1 y (W.ein _ (bD hi)).2;lia
 ·obtain⟨j,hj,e1⟩:=key e he;rw[e1,r0];show _<=rk n r ((net w n es P).t j);cases pipe hj with
  |src i hi e t h d c=>rw[t,r0];lia
  |usu i hi e t h d c=>rw[t,wW];have:=h1 i hi;lia
  |lea i hi e t h d c=>rw[t,wW];have:=h1 i hi;lia
  |snk i hi e t h d c=>rw[t,uP];have:=h1 i hi;lia
  |nee x y i hi e t h d c=>rw[t,uP];have:=h1 x (W.ein _ (bD hi)).1;lia
end Lib
namespace TL
open PySem L2
theorem yY{B:FS}{m:Nat}{ts:List T}{Q:T->Sto->Prop}(h:wpS B (st0 m ts) [] fun l ag C'=>match l with
 | .rt r=>Q r C'
 |_=>False):wpO (aB6 B m ts) Q:=by
 obtain⟨l,ag,C',e,q⟩:=h;cases l with
 |rt r=>exact⟨_,C',by unfold aB6;rw[e],q⟩
 |nx=>exact q.elim
 |bk=>exact q.elim
 |ct=>exact q.elim
 |ex c=>exact q.elim
end TL
namespace Lib
open PySem L2 TL NF
theorem Filled.at_e{w:Wk}{n:Nat}{es:List (Nat×Nat)}{P e:Int}{p0 f p:Nat->Int}{a:Int}(F:Filled w n es P e (fun _=>0) 0 p0 f p a)(he0:0<=e):∃pp,Good w n es P f a pp/\pp 1=e:=by
 rcases F.how with rfl| ⟨_,y,Gy,hy,hle⟩
 ·have G:=F.good;have fw:∀o,Open (net w n es P) (fun _=>0) o->o.2=true/\o.1<(net w n es P).m:=fun o ho=>by
   obtain⟨k,b⟩:=o;cases b
   ·exact absurd ho.2 (by unfold rr;simp)
   ·exact⟨rfl,ho.1⟩
  refine⟨up p 1 e,⟨G.flo,G.cap,mC.mpr fun o ho=>?_,?_,fun v hv=>?_⟩,zQ⟩
  ·obtain⟨h1,h2⟩:=fw o ho;have h3:=mC.mp G.pot o ho;obtain⟨k,b⟩:=o;cases h1;have ay:=(aGG h2).2;unfold up;rw[if_neg (show¬rt (net w n es P) (k,true)=1 from ay)];split
   ·rename_i z;rw[z]at h3;have:=F.ready
    lia
   ·exact h3
  ·rw[xU (by decide)];exact G.p0
  ·unfold up;split
   ·exact he0
   ·exact G.ge v hv
 ·exact F.good.amid Gy F.ready (by lia)
theorem aAh{ws:List (Int×Int×Int)}{ps:List (Int×Int)}{nd:List (List Int)}(G:Gvn ws ps nd){bs fs:List Int}(hE:Early ps (ws.map (·.2.1)) bs)(hF:Early ps (ws.map iH) fs)(hL:hJ [.lst (ws.map w3),.lst (ps.map pT)]=some (.int (jR 0 (dones bs (ws.map (·.2.1)))))){e:Int}:
 (e<jR 0 (dones bs (ws.map (·.2.1)))->j9 [.lst (ws.map w3),.lst (ps.map pT),.int e]=some (.non,[]))/\
 (jR 0 (dones bs (ws.map (·.2.1)))<=e->∃f a pp rl rw Cn,j9 [.lst (ws.map w3),.lst (ps.map pT),.int e]=some (.cell rw,Cn)/\Good (fW ws) ws.length (iQ 0 nd) (plenty ws 0) f a pp/\pp 1=e/\a<=sm ws.length (fW ws).p/\rl.length<40000/\
  wJ ws.length (iQ 0 nd) (stp (iC ws nd 0) f (iC ws nd 0).m) a rl [] 0/\Cn[rw]?=some (.l,rl.map fun z=>.cell z.1)/\(∀z∈rl,Cn[z.1]?=some (aAE z))/\(jR 0 (dones fs (ws.map iH))<=e->rl=[])):=by
 have hz:=G.zge hE;have W:=G.wel (bonus:=0) (by decide);obtain⟨_,p0,G0,hb,vd⟩:=G.free hF (bonus:=0) (by decide);have hcf:CFs [T.lst (ws.map w3),T.lst (ps.map pT)]=true:=by rw[fL,fL,gB,f9,f9,nE,lN];rfl
 have test:∀{τ:TSt}{Q:Bool->Sto->Prop},τ[0]?=some (some (.lst (ws.map w3)))->τ[1]?=some (some (.lst (ps.map pT)))->τ[2]?=some (some (.int e))->Q (decide (e<jR 0 (dones bs (ws.map (·.2.1))))) []->wpB (i8 (fLt Y2 (fT 2 hJ (eV Y0 (eV Y1 fF))))) τ [] Q:=fun h0 h1 h2 q=>
  jZ.mpr (gA.mpr (eZ.mpr ⟨_,h2,hX.mpr (fE.mpr (eZ.mpr ⟨_,h0,fE.mpr (eZ.mpr ⟨_,h1,fM.mpr ((fO hL rfl hcf).mpr (nT.mpr ⟨_,rfl,q⟩))⟩)⟩))⟩))
 constructor
 ·intro h;have:wpO (j9 [.lst (ws.map w3),.lst (ps.map pT),.int e]) fun r C=>r=.non/\C=[]:=by
   refine yY ?_
   unfold o5;walk_at "b"
   refine fN.mpr (mN.mpr (test rfl rfl rfl ?_))
   rw[if_pos (decide_eq_true h)]
   exact iV.mpr (jW.mpr ⟨rfl,rfl⟩)
  obtain⟨_,_,e1,rfl,rfl⟩:=this
  exact e1
 ·intro h;have:wpO (j9 [.lst (ws.map w3),.lst (ps.map pT),.int e]) fun r Cn=>∃f a pp rl rw,r=.cell rw/\Good (fW ws) ws.length (iQ 0 nd) (plenty ws 0) f a pp/\pp 1=e/\a<=sm ws.length (fW ws).p/\rl.length<40000/\
   wJ ws.length (iQ 0 nd) (stp (iC ws nd 0) f (iC ws nd 0).m) a rl [] 0/\Cn[rw]?=some (.l,rl.map fun z=>.cell z.1)/\(∀z∈rl,Cn[z.1]?=some (aAE z))/\(jR 0 (dones fs (ws.map iH))<=e->rl=[]):=by
   refine yY ?_
   unfold o5;walk_at "b"
   refine fN.mpr (mN.mpr (test rfl rfl rfl ?_))
   rw[if_neg (by rw[decide_eq_false (by lia)];simp)]
   refine i6.mpr (gW.mpr (iV.mpr (mO (jB.mpr (fE.mpr (eZ.mpr ⟨_,rfl,fE.mpr (eZ.mpr ⟨_,rfl,fE.mpr (eZ.mpr ⟨_,rfl,fM.mpr ⟨rfl,?_⟩⟩)⟩)⟩))))))
   refine yA G hE h G0 hb fun f p a C' F ha jy A=>⟨oM A.net rfl,fM.mpr ⟨rfl,?_⟩⟩
   obtain⟨pp,Gp,hp1⟩:=F.at_e (by lia);obtain⟨ρ,Fl⟩:=aLG W Gp.flo Gp.cap
   refine aFE A W.m Fl (fun s hs=>aM7 hs) jy (by have:=W.big;lia) fun rl rw C2 vc R h1 h2=>?_
   refine⟨f,a,pp,rl,rw,rfl,Gp,hp1,ha,eB vc W.m,R,h1,h2,fun hy=>?_⟩
   have hf:f=fun _=>0:=by
    rcases F.how with h1| ⟨_,q,_,h2,h3⟩
    ·exact h1
    ·have:=h3 1 (by lia)
     lia
   have ha1:a=0:=by
    have:=F.good.flo;rw[hf]at this
    exact aGs this
   cases rl with
   |nil=>rfl
   |cons z rl=>
    exfalso;have hs:=R.sum;have lv:∀l:List (Nat×Int×List Nat),(∀z∈l,1<=z.2.1)->0<=(l.map fun z=>z.2.1).sum:=fun l=>by
     induction l with
     |nil=>intro _;simp
     |cons y l ih=>
      intro hl;have:=hl y bJ;have:=ih fun x hx=>hl x (bA _ hx)
      rw[aM,d7];lia
    have h3:=(R.ok z bJ).1;have h4:=lv rl fun x hx=>(R.ok x (bA _ hx)).1
    rw[aM,d7]at hs
    lia
  obtain⟨_,Cn,e1,f,a,pp,rl,rw,rfl,h1⟩:=this
  exact⟨f,a,pp,rl,rw,Cn,e1,h1⟩
end Lib
namespace Lib
open PySem L2 TL NF
variable{w:Wk}{es:List (Nat×Nat)}{P e:Int}{pp:Nat->Int}
noncomputable def beg(pp:Nat->Int)(i:Nat):Int:=pp (2*i+2)
noncomputable def hrs(w:Wk)(pp:Nat->Int)(i:Nat):Int:=min (w.u i) (pp (2*i+3) - pp (2*i+2))
theorem aJ5{n:Nat}(W:Wel w n es P){f:Nat->Int}{a:Int}(G:Good w n es P f a pp)(he:pp 1=e)(ha:a<P)(gz:∀i,i<n->w.l i<=w.u i):
 (∀i,i<n->0<=beg pp i/\w.l i<=hrs w pp i/\hrs w pp i<=w.u i/\beg pp i+hrs w pp i<=e)/\(∀x∈es,beg pp x.1+hrs w pp x.1<=beg pp x.2)/\sm n (fun i=>w.p i*(w.u i - hrs w pp i))=len (net w n es P) f - a*e:=by
 have ho:=W.open G ha;obtain⟨q1,q2,q3,q4⟩:=aEh G.pot ho G.p0 W.ein
 refine⟨fun i hi=>?_,fun x hx=>?_,?_⟩
 ·have h1:=q1 i hi;have h2:=q2 i hi;have h3:=q3 i hi;have h4:=gz i hi;unfold beg hrs
  refine⟨h1,?_,?_,?_⟩<;>lia
 ·have h1:=q4 x hx;unfold beg hrs
  lia
 ·rw[<-he,G.price ho]
  refine iE fun i _=>?_
  congr 1;unfold hrs NF.pos;split<;>lia
theorem aDx{x u l p:Int}(h:l<=u):(if x<=p then x*u else p*u+(x - p)*l)=min (x*u) (p*(u - l)+x*l):=by
 have e1:x*u - (p*(u - l)+x*l)=(x - p)*(u - l):=by rw[aOB,dD,dD];lia
 have e2:p*u+(x - p)*l=p*(u - l)+x*l:=by rw[aOB,dD];lia
 by_cases hx:x<=p
 ·rw[if_pos hx];have:(x - p)*(u - l)<=0:=Int.mul_nonpos_of_nonpos_of_nonneg (by lia) (by lia)
  lia
 ·rw[if_neg hx,e2];have:0<=(x - p)*(u - l):=dA (by lia) (by lia)
  lia
theorem aDT{n:Nat}{g:Nat->Int}{k:Nat}(hk:k<n):(sm n fun j=>if j=k then g j else 0)=g k:=by
 induction n with
 |zero=>lia
 |succ n ih=>
  show sm n _+(if n=k then g n else 0)=_;by_cases h:n=k
  ·subst h;rw[if_pos rfl,m5 fun j hj=>if_neg (by lia)];lia
  ·rw[if_neg h,ih (by lia)];lia
theorem aMZ{n:Nat}{f:Nat->Int}{i:Nat}(hi:i<n):at_ (stp (net w n es P) f (net w n es P).m) (stw i)=thr f i:=by
 rw[aGr];show sm (4*n+es.length) _=_;have e:∀k,k<4*n+es.length->(if stw i=((net w n es P).t k,(net w n es P).h k)then f k else 0)=(if k=4*i+1 then f k else 0)+if k=4*i+2 then f k else 0:=fun k hk=>by
  have hs:stw i=((net w n es P).t k,(net w n es P).h k)↔(2*i+2=(net w n es P).t k/\2*i+3=(net w n es P).h k):=by unfold stw;rw[aP8.injEq]
  cases pipe (w:=w) (n:=n) (es:=es) (P:=P) (k:=k) hk with
  |src j hj e t h d c=>rw[if_neg (by rw[hs,t,h];lia),if_neg (by lia),if_neg (by lia)];rfl
  |usu j hj e t h d c=>
   by_cases z:j=i
   ·rw[if_pos (by rw[hs,t,h];lia),if_pos (by lia),if_neg (by lia)];lia
   ·rw[if_neg (by rw[hs,t,h];lia),if_neg (by lia),if_neg (by lia)];rfl
  |lea j hj e t h d c=>
   by_cases z:j=i
   ·rw[if_pos (by rw[hs,t,h];lia),if_neg (by lia),if_pos (by lia)];lia
   ·rw[if_neg (by rw[hs,t,h];lia),if_neg (by lia),if_neg (by lia)];rfl
  |snk j hj e t h d c=>rw[if_neg (by rw[hs,t,h];lia),if_neg (by lia),if_neg (by lia)];rfl
  |nee x y j hj e t h d c=>rw[if_neg (by rw[hs,t,h];lia),if_neg (by lia),if_neg (by lia)];rfl
 rw[iE e,aLQ,aDT (by lia),aDT (by lia)];rfl
theorem aCh{n:Nat}{f f2 p2:Nat->Int}{a a2:Int}(G:Good w n es P f a pp)(G2:Good w n es P f2 a2 p2)(h1:pp 1=e)(h2:p2 1=e)(gz:∀i,i<n->w.l i<=w.u i){rl:List (Nat×Int×List Nat)}(R:wJ n es (stp (net w n es P) f2 (net w n es P).m) a2 rl [] 0):
 len (net w n es P) f - a*e=sm n (fun i=>min ((rl.map fun z=>z.2.1*(z.2.2.count i:Int)).sum*w.u i) (w.p i*(w.u i - w.l i)+(rl.map fun z=>z.2.1*(z.2.2.count i:Int)).sum*w.l i)) - e*(rl.map fun z=>z.2.1).sum:=by
 rw[aDo G G2 h1 h2,aHy G2 gz,R.sum,aOj,Int.mul_comm a2 e];congr 1
 refine iE fun i hi=>?_
 have:(rl.map fun z=>z.2.1*(z.2.2.count i:Int)).sum=thr f2 i:=by
  rw[R.thr i,aMZ hi];show thr f2 i - 0=_
  lia
 rw[this]
 exact aDx (gz i hi)
end Lib
namespace K42
open PySem L2 TL Lib
end K42
namespace K42
open PySem L2 TL Lib NF
variable{ws:List (Int×Int×Int)}{i:Nat}
theorem aKI(hi:i<ws.length):(fW ws).u i=ws[i].1/\(fW ws).l i=ws[i].2.1/\(fW ws).p i=ws[i].2.2:=by
 refine⟨?_,?_,?_⟩<;>simp[fW,hi]
theorem aNH(hi:i<ws.length):atI (ws.map w3) (i:Int)=some (w3 ((fW ws).u i,(fW ws).l i,(fW ws).p i)):=by
 obtain⟨h1,h2,h3⟩:=aKI hi;rw[rB,bK,bB hi,h1,h2,h3];rfl
theorem ix1{τ:TSt}{C:Sto}{a:Nat}{row:List T}{j:Int}{r v:T}(h0:τ[a]?=some (some r))(hr:sqT C r=some row)(hv:atI row j=some v):fIx (jQ a) (fC (.int j)) τ C=some (v,C):=
 pE (gA.mpr (eZ.mpr ⟨_,h0,jW.mpr (lY.mpr ⟨_,hr,_,hv,rfl,rfl⟩)⟩))
end K42
namespace K42
open PySem L2 TL Lib NF
noncomputable def nI(is:List Nat):List Int:=is.map fun i:Nat=>(i:Int)
def rI(z:Nat×Int×List Nat):List Int:=z.2.1::nI z.2.2
end K42
namespace K42
open PySem L2 TL Lib NF
end K42
namespace K42
open PySem L2 TL Lib NF
variable{Cn:Sto}
theorem z5{k:Nat}:∀{xs:List Nat},shs k (xs.map T.cell)=(xs.map (k+ ·)).map T.cell
 | []=>by simp[shs]
 |x::xs=>by simp[shs,sh,z5]
theorem aBD{k:Nat}:∀{xs:List Int},shs k (xs.map T.int)=xs.map T.int
 | []=>by simp[shs]
 |x::xs=>by simp[shs,sh,aBD]
theorem aKQ{C:Sto}{c:Nat}{x:Cl}(h:Cn[c]?=some x):(C++Cn.map (shc C.length))[C.length+c]?=some (shc C.length x):=by
 rw[bH (by lia),show C.length+c - C.length=c by lia,bK,h];rfl
structure sN(C:Sto)(k:Nat)(cs:List Nat)(rows:List (List Int)):Prop where
 at_:C[k]?=some (.l,cs.map T.cell)
 rows:cs.length=rows.length/\∀(i:Nat)(c:Nat)(r:List Int),cs[i]?=some c->rows[i]?=some r->C[c]?=some (.l,r.map T.int)/\c≠k
theorem sN.dr{C:Sto}{k:Nat}{cs:List Nat}{rows:List (List Int)}(R:sN C k cs rows):dr 3 C (.cell k)=some (.lst (rows.map iT)):=by
 have h1:mapO (TL.dr 2 C) (cs.map T.cell)=some (rows.map iT):=aDJ (by simp[R.rows.1]) fun i t u ht hu=>by
  rw[bK]at ht hu;obtain⟨c,hc,rfl⟩:=aL.mp ht;obtain⟨r,hr,rfl⟩:=aL.mp hu
  exact mL (gS.mpr (R.rows.2 i c r hc hr).1)
 show(lc C k).bind _=_;rw[gS.mpr R.at_];show(mapO (TL.dr 2 C) _).map _=_;rw[h1];rfl
theorem sN.sh{C:Sto}{k:Nat}{cs:List Nat}{rows:List (List Int)}(R:sN Cn k cs rows):sN (C++Cn.map (shc C.length)) (C.length+k) (cs.map (C.length+ ·)) rows:=by
 refine⟨?_,by simp[R.rows.1],fun i c r hc hr=>?_⟩
 ·rw[aKQ R.at_];show some (Kd.l,shs C.length _)=_;rw[z5]
 ·rw[bK]at hc;obtain⟨c',ow,rfl⟩:=aL.mp hc;obtain⟨h1,h2⟩:=R.rows.2 i c' r ow hr
  refine⟨?_,by lia⟩
  rw[aKQ h1];show some (Kd.l,shs C.length _)=_;rw[aBD]
theorem aES{n:Nat}{G:List T->Option (T×Sto)}{ts:List T}{r:T}{C:Sto}{Q:T->Sto->Prop}(e:G ts=some (r,Cn))(hl:ts.length=n)(hc:CFs ts=true):wpO (qT n G ts C) Q↔Q (TL.sh C.length r) (C++Cn.map (shc C.length)):=by
 have:qT n G ts C=some (TL.sh C.length r,C++Cn.map (shc C.length)):=by
  unfold qT;rw[if_pos ⟨hl,hc⟩,e];rfl
 rw[this];exact nW
theorem aB5{rl:List (Nat×Int×List Nat)}{rw:Nat}(h1:Cn[rw]?=some (.l,rl.map fun z=>T.cell z.1))(h2:∀z∈rl,Cn[z.1]?=some (aAE z)):sN Cn rw (rl.map (·.1)) (rl.map rI):=by
 refine⟨by rw[b7];exact h1,by simp,fun i c r hc hr=>?_⟩
 rw[bK]at hc hr;obtain⟨z,hz,rfl⟩:=aL.mp hc;rw[hz]at hr;cases hr;have h3:=h2 z (bD hz)
 refine⟨?_,fun e=>?_⟩
 ·rw[h3];simp[aAE,rI,nI]
 ·rw[e,h1]at h3;cases rl with
  |nil=>simp at hz
  |cons y rl=>simp[aAE]at h3
end K42
namespace K42
open PySem L2 TL Lib NF
variable{ws:List (Int×Int×Int)}{ps:List (Int×Int)}
theorem aAH{e:Int}:CFs [.lst (ws.map w3),.lst (ps.map pT),.int e]=true:=by rw[fL,fL,fL,gB,f9,f9,f7,nE,lN];rfl
theorem aEc:CFs [.lst (ws.map w3),.lst (ps.map pT)]=true:=by rw[fL,fL,gB,f9,f9,nE,lN];rfl
theorem aDZ{rl:List (Nat×Int×List Nat)}{i:Nat}(h:∀z∈rl,1<=z.2.1/\∀i,z.2.2.count i<=1):0<=(rl.map fun z=>z.2.1*(z.2.2.count i:Int)).sum/\(rl.map fun z=>z.2.1*(z.2.2.count i:Int)).sum<=(rl.map fun z=>z.2.1).sum:=by
 induction rl with
 |nil=>simp
 |cons z rl ih=>
  obtain⟨h1,h2⟩:=ih fun y hy=>h y (bA _ hy)
  obtain⟨h3,h4⟩:=h z bJ;have h5:=h4 i;rw[aM,aM,d7,d7];rcases(show z.2.2.count i=0\/z.2.2.count i=1 by lia)with e|e<;>rw[e]<;>simp<;>lia
theorem mP{n:Nat}{is:List Nat}(h:∀i,is.count i<=1)(hi:∀i∈is,i<n):is.length<=n:=by
 have hn:is.Nodup:=d0.mpr h;have hs:is ⊆ bI n:=fun i h=>cW.mpr (hi i h)
 have:=hn.length_le_of_subset hs;simpa using this
end K42
namespace Lib
open PySem L2 TL NF
variable{ws:List (Int×Int×Int)}{ps:List (Int×Int)}{nd:List (List Int)}{bs fs:List Int}{z:Int}
theorem Gvn.early_mono(G:Gvn ws ps nd){hs gs:List Int}(hE:Early ps hs bs)(hF:Early ps gs fs)(hl:hs.length=ws.length)(gl:gs.length=ws.length)(hH:∀i:Nat,i<ws.length->at0 hs i<=at0 gs i)(hp:∀h∈gs,0<=h):jR 0 (dones bs hs)<=jR 0 (dones fs gs):=by
 obtain⟨n0,n1,n2⟩:=hF.mxL hp
 refine G.fst hE hl (B:=fun i=>at0 fs i) n0 (fun i _=>hF.pos _) (fun p hp=>?_) fun i hi=>?_
 ·have h1:=hF.ge p hp;have h2:=G.inw _ hp;have h3:=hH p.1.toNat (by lia);rw[bN h2.1.1]at h3|-;rw[bN h2.2.1]
  lia
 ·have h4:=hH i hi;have h5:=n1 _ ⟨i,by rw[gl];exact hi,rfl⟩
  lia
structure Lot(ws:List (Int×Int×Int))(ps:List (Int×Int))(nd:List (List Int))(bs fs:List Int)(z y:Int):Prop where
 g:Gvn ws ps nd
 p63:ps.length<=63
 e:Early ps (ws.map (·.2.1)) bs
 f:Early ps (ws.map iH) fs
 zz:jR 0 (dones bs (ws.map (·.2.1)))=z
 yy:jR 0 (dones fs (ws.map iH))=y
 le:hJ [.lst (ws.map w3),.lst (ps.map pT)]=some (.int z)
 fe:lO [.lst (ws.map w3),.lst (ps.map pT)]=some (.int y)
 z0:0<=z
 zy:z<=y
 yb:y<=8*2^252
theorem Lot.of(il:ws.length<=8)(av:ps.length<=63)(jf:InW ws.length ps)(ox:Acy ps)(gm:∀w∈ws,sJ w):∃nd bs fs z y,Lot ws ps nd bs fs z y:=by
 obtain⟨nd,G⟩:=Gvn.ex il (by lia) jf ox gm;have ends:∀f:Int×Int×Int->Int,(∀w∈ws,0<=f w)->∃bs,Early ps (ws.map f) bs/\j8 [.lst ((ws.map f).map T.int),.lst (ps.map pT)]=some (.int (jR 0 (dones bs (ws.map f)))):=by
  intro f hf;have hp:∀h∈ws.map f,0<=h:=fun h hm=>by
   obtain⟨w,hw,rfl⟩:=bL.mp hm
   exact hf w hw
  have yj:(ws.map f).length=ws.length:=aP _;have hw:InW (ws.map f).length ps:=by rw[yj];exact jf
  obtain⟨_,e,bs,rfl,hE⟩:=aBP (hs:=ws.map f) (by lia) (by lia) hw ox hp
  exact⟨bs,hE,aFk e (by rw[hE.len];lia)⟩
 have p1:∀w∈ws,0<=w.2.1:=fun w hw=>(gm w hw).1
 have p2:∀w∈ws,0<=iH w:=fun w hw=>by
  have h:=gm w hw;unfold iH;split
  ·exact h.1
  ·exact dZ h.1 h.2.1
 obtain⟨bs,hE,hz1⟩:=ends (·.2.1) p1;obtain⟨fs,hF,jt⟩:=ends iH p2
 refine⟨nd,bs,fs,_,_,G,av,hE,hF,rfl,rfl,aAT (by lia) hz1,aBU (by lia) jt,G.zge hE,?_,(G.free hF (bonus:=0) (by decide)).1⟩
 refine G.early_mono hE hF (by simp) (by simp) (fun i hi=>?_) fun h hm=>?_
 ·have hw:=gm _ (dS hi);rw[jH (by simpa using hi),jH (by simpa using hi),d9,d9];unfold iH;split
  ·exact bZ _
  ·exact hw.2.1
 ·obtain⟨w,hw,rfl⟩:=bL.mp hm;exact p2 w hw
theorem Lot.fh{y:Int}(L:Lot ws ps nd bs fs z y):∀h∈ws.map iH,0<=h:=fun h hm=>by
 obtain⟨w,hw,rfl⟩:=bL.mp hm;have h:=L.g.ok w hw;unfold iH;split
 ·exact h.1
 ·exact dZ h.1 h.2.1
theorem Lot.en{y:Int}(L:Lot ws ps nd bs fs z y):pV [.lst (ws.map w3),.lst (ps.map pT)]=some (.tup [.int z,.int y]):=by
 have hn:=L.g.l8;have hp:=L.p63;rw[<-L.zz,<-L.yy]
 exact aHO (by lia) (v8 (by simp;lia) (by lia) (by simpa using L.g.inw) L.g.acy (fun h hm=>by
  obtain⟨w,hw,rfl⟩:=bL.mp hm
  exact(L.g.ok w hw).1) L.e) (v8 (by simp;lia) (by lia) (by simpa using L.g.inw) L.g.acy L.fh L.f)
theorem lotM{ns:List Int}(hl:ns.length<=63){M:Nat}(h4:4<=M)(h8:M<=8){u:Int}(ny:0<u)(hu:u<=10^20):∃ws ps nd bs fs z y,rY [.lst (ns.map T.int),.int M,.int u]=some (.tup [.lst (ws.map w3),.lst (ps.map pT)])/\Lot ws ps nd bs fs z y/\ws.length<=M/\ps.length<=20/\∀w∈ws,aAM w:=by
 obtain⟨_,e1,ws,ps,rfl,il,av,gm,rs,cr,cy⟩:=aIG hl h4 h8 ny hu;obtain⟨nd,bs,fs,z,y,L⟩:=Lot.of (ws:=ws) (ps:=ps) (by lia) (by lia) (Al.inW cr cy) (Al.acy cr cy) fun w hw=>(gm w hw).b
 exact⟨ws,ps,nd,bs,fs,z,y,e1,L,il,av,gm⟩
end Lib
namespace Lib
open PySem L2 TL NF
variable{ws:List (Int×Int×Int)}{e:Int}{rl:List (Nat×Int×List Nat)}
theorem aFH{rows:List (Int×List Int)}(hm:ws.length<=100)(hl:rows.length<90000)(hx:∀r∈rows,∀w∈r.2,0<=w/\w<(ws.length:Int))(hw:∀w∈ws,WB w)
 (ht:∀i,Bt 1000 (tH rows i))(ha:Bt 1000 (rows.map (·.1)).sum)(he:Bt 1000 e):
 u6 [.lst (ws.map w3),.lst (rows.map rT),.int e]=some (.int (aCP ws rows e)):=by
 apply hW;unfold aD1;have w1:∀{C Q},wpO (iF 2 mH [.int ws.length,.lst (rows.map rT)] C) Q↔Q (.lst (((bI ws.length).map (tH rows)).map T.int)) C:=aA9 hm hx;walk_at "b";simp_arith[↓fB,↓fA,↓w1,aP,aBw]
 refine⟨xG (by simp;lia),gG (fun p=>T.int (wworth p.1 p.2)) (fun p hp=>?_) ?_⟩
 ·have hp1:=hw p.1 (aOo hp).1;have oh:Bt 1000 p.2:=by
   obtain⟨i,_,e⟩:=bL.mp (aOo hp).2;rw[<-e];exact ht i
  simp only[scT,aT,aM,bC,aY,aV,aW,bR,bS,cC];simp_arith[↓fB,↓fA,↓vG]
 ·rw[pJ]
  refine⟨_,rfl,(by(try simp only[aP]);unfold lim;lia),gG (fun r=>T.int r.1) (fun r _=>?_) ?_⟩
  ·simp only[scT,aT,aM,bC,aY,aV,aW,bR,bS,cC];simp_arith[↓fB,↓fA,rT,↓fH (aCo (α:=T))]
  ·rw[pJ]
   refine⟨_,rfl,xX he ha (by decide),?_⟩
   exact iZ f7
noncomputable def rws(rl:List (Nat×Int×List Nat)):List (Int×List Int):=rl.map fun z=>(z.2.1,z.2.2.map fun i:Nat=>(i:Int))
theorem aNO:(rws rl).map rT=(rl.map K42.rI).map iT:=by
 unfold rws;rw[b7,b7];rfl
theorem aCt{i:Nat}:∀{is:List Nat},(is.map fun i:Nat=>(i:Int)).count (i:Int)=is.count i
 | []=>rfl
 |a::is=>by
  rw[aM,eN,eN,aCt];congr 1;by_cases h:a=i
  ·subst h;simp
  ·rw[if_neg (by simp;lia),if_neg (by simp;lia)]
theorem aEe{i:Nat}:tH (rws rl) i=(rl.map fun z=>z.2.1*(z.2.2.count i:Int)).sum:=by
 unfold tH rws;rw[b7];congr 1
 refine cI fun z _=>?_
 show z.2.1*_=_;rw[aCt]
theorem aEn:((rws rl).map (·.1)).sum=(rl.map fun z=>z.2.1).sum:=by
 unfold rws;rw[b7];rfl
theorem sX{n:Nat}{g:Nat->Int}:((bI n).map g).sum=sm n g:=by
 induction n with
 |zero=>rfl
 |succ n ih=>rw[aO7,bQ,aOD,ih];simp[sm]
theorem aEY(gz:∀i,i<ws.length->(fW ws).l i<=(fW ws).u i):
 aCP ws (rws rl) e=sm ws.length (fun i=>min ((rl.map fun z=>z.2.1*(z.2.2.count i:Int)).sum*(fW ws).u i) ((fW ws).p i*((fW ws).u i - (fW ws).l i)+(rl.map fun z=>z.2.1*(z.2.2.count i:Int)).sum*(fW ws).l i)) - e*(rl.map fun z=>z.2.1).sum:=by
 unfold aCP;rw[aEn];congr 1;rw[<-sX];congr 1;apply aO0
 ·simp
 ·intro i h1 h2;have hi:i<ws.length:=by simpa using h2
  obtain⟨q1,q2,q3⟩:=K42.aKI hi;have:=gz i hi;simp only[d9,List.getElem_zip,eA];rw[aEe];generalize (rl.map fun z=>z.2.1*(z.2.2.count i:Int)).sum=x;rw[<-aDx this];unfold wworth;rw[q1,q2,q3];split
  ·rfl
  ·rw[dD,aOB];lia
def l5(ws:List (Int×Int×Int))(nd:List (List Int))(e q:Int):Prop:=∃f a pp,Good (fW ws) ws.length (iQ 0 nd) (plenty ws 0) f a pp/\pp 1=e/\a<=sm ws.length (fW ws).p/\q=len (iC ws nd 0) f - a*e
theorem lV{ps:List (Int×Int)}{nd:List (List Int)}{bs fs:List Int}{z y:Int}(L:Lot ws ps nd bs fs z y)(he:e<2^300):
 (e<z->jI [.lst (ws.map w3),.lst (ps.map pT),.int e]=some .non)/\
 (z<=e->∃q,jI [.lst (ws.map w3),.lst (ps.map pT),.int e]=some (.int q)/\l5 ws nd e q):=by
 have hz0:=L.z0;have hn:=L.g.l8;obtain⟨S1,S2⟩:=aAh L.g L.e L.f (by rw[L.zz];exact L.le) (e:=e);rw[L.zz]at S1 S2;have w4:∀{C Q},wpO (iF 2 hJ [.lst (ws.map w3),.lst (ps.map pT)] C) Q↔Q (.int z) C:=fO L.le rfl K42.aEc;constructor
 ·intro hez;apply hW;unfold qU;walk_at "b"
  refine fN.mpr (mN.mpr (jZ.mpr (gA.mpr (eZ.mpr ⟨_,rfl,hX.mpr (fE.mpr (eZ.mpr ⟨_,rfl,fE.mpr (eZ.mpr ⟨_,rfl,fM.mpr (w4.mpr (nT.mpr ⟨_,rfl,?_⟩))⟩)⟩))⟩))))
  rw[if_pos (decide_eq_true hez)]
  exact iV.mpr (jW.mpr (iZ rfl))
 ·intro yq;obtain⟨f2,a2,p2,rl,rw,Cn,s1,G2,oh,ha2,jg,RO,c1,c2,_⟩:=S2 yq;have gz:∀i,i<ws.length->(fW ws).l i<=(fW ws).u i:=fun i hi=>(pB (P:=sJ) L.g.ok hi).2.1
  have k4:=aCh G2 G2 oh oh gz RO;have R2:=(K42.aB5 c1 c2).sh (C:=[]);have d2:=R2.dr;have hzz:∀x∈rl,1<=x.2.1/\∀i,x.2.2.count i<=1:=fun x hx=>⟨(RO.ok x hx).1,(RO.ok x hx).2.2.2.2⟩
  have hsP:=L.g.sP;have rg:0<=(rl.map fun z=>z.2.1).sum/\(rl.map fun z=>z.2.1).sum<2^256:=by
   have h1:=K42.aDZ (i:=0) hzz;have h2:=RO.sum
   refine⟨by lia,?_⟩
   have h3:(8*2^252:Int)<2^256:=by decide
   lia
  have eW:=aFH (ws:=ws) (rows:=rws rl) (e:=e) (by lia) (by unfold rws;rw[aP];lia) (fun r hr w hw=>by
   unfold rws at hr;obtain⟨x,hx,rfl⟩:=bL.mp hr;obtain⟨i,hi,rfl⟩:=bL.mp hw;have:=(RO.ok x hx).2.2.1 i hi
   lia) (fun w hw=>by
   have h:=L.g.ok w hw;have hu:0<=w.1:=dZ h.1 h.2.1
   exact⟨Bt.mono (Bt.of_lt hu (eJ h.2.2.2.1 (by decide:(2^252:Int)<2^256))) (by decide),Bt.mono (Bt.of_lt h.1 (eI h.2.1 (eJ h.2.2.2.1 (by decide:(2^252:Int)<2^256)))) (by decide),Bt.mono (Bt.of_lt h.2.2.1 (eJ h.2.2.2.2 (by decide:(2^252:Int)<2^256))) (by decide)⟩) (fun i=>by
   rw[aEe];have h1:=K42.aDZ (i:=i) hzz;have h2:(rl.map fun z=>z.2.1*(z.2.2.count i:Int)).sum<2^256:=by lia
   exact Bt.mono (Bt.of_lt h1.1 h2) (by decide)) (by
   rw[aEn]
   exact Bt.mono (Bt.of_lt rg.1 rg.2) (by decide)) (Bt.mono (Bt.of_lt (by lia) he) (by decide))
  rw[aNO,aEY gz,<-k4]at eW
  refine⟨_,?_,f2,a2,p2,G2,oh,ha2,rfl⟩
  apply hW;unfold qU;walk_at "b"
  refine fN.mpr (mN.mpr (jZ.mpr (gA.mpr (eZ.mpr ⟨_,rfl,hX.mpr (fE.mpr (eZ.mpr ⟨_,rfl,fE.mpr (eZ.mpr ⟨_,rfl,fM.mpr (w4.mpr (nT.mpr ⟨_,rfl,?_⟩))⟩)⟩))⟩))))
  rw[if_neg (by simpa using yq)]
  refine i6.mpr (gW.mpr (iV.mpr ?_))
  refine hX.mpr (fE.mpr (eZ.mpr ⟨_,rfl,fE.mpr (hX.mpr (fE.mpr (eZ.mpr ⟨_,rfl,fE.mpr (eZ.mpr ⟨_,rfl,fE.mpr (eZ.mpr ⟨_,rfl,fM.mpr ((K42.aES s1 rfl K42.aAH).mpr ?_)⟩)⟩)⟩)))⟩))
  refine fE.mpr (eZ.mpr ⟨_,rfl,fM.mpr ?_⟩)
  exact y8 rfl (jN (iZ (by rw[f9,nE])) (jN d2 (jN (iZ f7) aB8))) ⟨_,eW,rfl,iZ f7⟩
end Lib
namespace Lib
open PySem L2 TL NF
structure Pl(ws:List (Int×Int×Int))(ps:List (Int×Int))(e:Int)(b h:Nat->Int):Prop where
 b0:∀i,i<ws.length->0<=b i
 lh:∀i,i<ws.length->(fW ws).l i<=h i
 hu:∀i,i<ws.length->h i<=(fW ws).u i
 en:∀i,i<ws.length->b i+h i<=e
 ne:∀p∈ps,b p.1.toNat+h p.1.toNat<=b p.2.toNat
def cst(ws:List (Int×Int×Int))(h:Nat->Int):Int:=sm ws.length fun i=>(fW ws).p i*((fW ws).u i - h i)
section
variable {ws:List (Int×Int×Int)}{ps:List (Int×Int)}{nd:List (List Int)}{bs fs:List Int}{z y e q:Int}{b h:Nat->Int}
theorem l5.plan(G:Gvn ws ps nd)(A:l5 ws nd e q):∃b h,Pl ws ps e b h/\cst ws h=q:=by
 obtain⟨f,a,pp,g,hp,ha,rfl⟩:=A;have W:=G.wel (bonus:=0) (by decide);obtain⟨k1,k2,k3⟩:=aJ5 W g hp (eI ha W.pP) fun i hi=>(pB (P:=sJ) G.ok hi).2.1
 exact⟨beg pp,hrs (fW ws) pp,⟨fun i hi=>(k1 i hi).1,fun i hi=>(k1 i hi).2.1,fun i hi=>(k1 i hi).2.2.1,fun i hi=>(k1 i hi).2.2.2,fun p hp=>k2 _ (aGk G.inw G.ndd hp)⟩,k3⟩
theorem Pl.tim(G:Gvn ws ps nd)(p:Pl ws ps e b h):Tim ws.length (iQ 0 nd) e b h:=
 ⟨p.b0,p.en,fun x hx=>by
  have:=p.ne _ (yT G.inw G.ndd hx).1;simpa using this⟩
theorem Pl.best(G:Gvn ws ps nd)(p:Pl ws ps e b h){P a:Int}{f:Nat->Int}(hf:Flo (net (fW ws) ws.length (iQ 0 nd) P) f a)(hc:Cap (net (fW ws) ws.length (iQ 0 nd) P) f):len (net (fW ws) ws.length (iQ 0 nd) P) f - a*e<=cst ws h:=by
 refine dZ (NF.best hf hc (p.tim G) p.lh) (aPw (iE fun i hi=>?_))
 have:=p.hu i hi;unfold pos;split
 ·rfl
 ·rw[show(fW ws).u i - h i=0 by lia]
theorem l5.le(G:Gvn ws ps nd)(A:l5 ws nd e q)(p:Pl ws ps e b h):q<=cst ws h:=by
 obtain⟨f,a,pp,g,hp,ha,rfl⟩:=A
 exact p.best G g.flo g.cap
theorem Lot.pl_z(L:Lot ws ps nd bs fs z y)(p:Pl ws ps e b h)(he:0<=e):z<=e:=by
 have ub:∀i:Nat,i<ws.length->at0 (ws.map (·.2.1)) i=(fW ws).l i:=fun i hi=>by
  rw[jH (by simpa using hi),d9];show _=((ws[i]?).getD (0,0,0)).2.1;rw[bB hi];rfl
 rw[<-L.zz]
 refine L.g.fst L.e (aP _) he p.b0 (fun x hx=>?_) fun i hi=>?_
 ·have h1:=p.ne x hx;have h2:=L.g.inw _ hx;have hi:x.1.toNat<ws.length:=by lia
  have h3:=ub _ hi;rw[bN h2.1.1]at h3;have:=p.lh _ hi
  lia
 ·have h4:=p.en i hi;have h5:=p.lh i hi;have h6:=ub i hi
  lia
end
end Lib
namespace Lib
open PySem L2 TL NF
section
variable {ws bj:List (Int×Int×Int)}{ps fj:List (Int×Int)}{nd xa:List (List Int)}{bs fs:List Int}{z y e q q' t:Int}{b h:Nat->Int}
end
end Lib
namespace Lib
open PySem L2 TL NF
variable{rs:List Int}
theorem Rk.surj{m:Nat}(h:Rk m rs){v:Nat}(hv:v<m):(v:Int)∈rs:=cS fun hn=>by
 have h1:((v:Int)::rs).Nodup:=bX.mpr ⟨hn,h.nd⟩;have h2:(((v:Int)::rs).map aOi).Nodup:=by
  refine aPx.mpr (List.Pairwise.imp_of_mem (fun {x y} hx hy ay e=>?_) h1)
  have b:∀x∈(v:Int)::rs,0<=x:=fun x hx=>by
   rcases bE.mp hx with rfl|hx
   ·lia
   ·exact(h.rng x hx).1
  have:=b x hx;have:=b y hy
  exact ay (by lia)
 have h3:=K42.mP (n:=m) (is:=((v:Int)::rs).map aOi) (fun i=>d0.mp h2 i) fun i hi=>by
  obtain⟨x,hx,rfl⟩:=bL.mp hi;rcases bE.mp hx with rfl|hx
  ·lia
  ·have:=h.rng x hx;lia
 rw[aP,aN,h.len]at h3
 lia
theorem Rk.perm{m:Nat}(h:Rk m rs):rs.Perm ((bI m).map fun i:Nat=>(i:Int)):=by
 refine List.perm_iff_count.mpr fun x=>?_
 have hn:((bI m).map fun i:Nat=>(i:Int)).Nodup:=by
  refine aPx.mpr (List.Pairwise.imp_of_mem (fun {a b} _ _ ay e=>ay (by lia)) List.nodup_range)
 by_cases hx:x∈rs
 ·have hr:=h.rng x hx;have hy:x∈((bI m).map fun i:Nat=>(i:Int)):=bL.mpr ⟨x.toNat,by simp;lia,by show((x.toNat:Nat):Int)=x;lia⟩;have h1:=d0.mp h.nd x;have h2:=d0.mp hn x;have h3:=aPo.mpr hx;have h4:=aPo.mpr hy
  lia
 ·have hy:x∉((bI m).map fun i:Nat=>(i:Int)):=fun hy=>by
   obtain⟨i,hi,rfl⟩:=bL.mp hy
   exact hx (h.surj (cW.mp hi))
  rw[aOM.mpr hx,aOM.mpr hy]
theorem aF8{xs ys:List Int}(h:xs.Perm ys):xs.sum=ys.sum:=by
 induction h with
 |nil=>rfl
 |cons x _ ih=>rw[d7,d7,ih]
 |swap x y l=>simp only[d7];lia
 |trans _ _ h1 h2=>exact h1.trans h2
theorem Rk.sum{m:Nat}(h:Rk m rs){g:Nat->Int}:sm m (fun k=>g (at0 rs k).toNat)=sm m g:=by
 have p:=aF8 (h.perm.map fun x:Int=>g x.toNat);rw[b7,show((fun x:Int=>g x.toNat) ∘ fun i:Nat=>(i:Int))=g from funext fun i=>by simp,sX]at p;rw[<-p,<-sX];congr 1;apply aO0
 ·simp[h.len]
 ·intro i h1 h2;have hi:i<rs.length:=by simpa using h2
  simp only[d9,eA];rw[jH hi]
section
variable {ws bj:List (Int×Int×Int)}{ps fj:List (Int×Int)}{nd xa:List (List Int)}{bs fs:List Int}{z y e q q' t:Int}{b h:Nat->Int}{rs:List Int}
structure Ren(rs:List Int)(ws:List (Int×Int×Int))(ps:List (Int×Int))(bj:List (Int×Int×Int))(fj:List (Int×Int)):Prop where
 r:Rk ws.length rs
 l:bj.length=ws.length
 w:∀k,k<ws.length->bj[(at0 rs k).toNat]?=ws[k]?
 p:fj=ps.map fun p=>(at0 rs p.1,at0 rs p.2)
theorem Rk.at{m:Nat}(h:Rk m rs){k:Nat}(hk:k<m):0<=at0 rs k/\(at0 rs k).toNat<m:=by
 have hi:k<rs.length:=by rw[h.len];exact hk
 rw[jH hi];have:=h.rng _ (dS hi)
 lia
theorem Rk.inj{m:Nat}(h:Rk m rs){j k:Nat}(hj:j<m)(hk:k<m)(e:at0 rs j=at0 rs k):j=k:=by
 have jw:j<rs.length:=by rw[h.len];exact hj
 have ym:k<rs.length:=by rw[h.len];exact hk
 rw[jH jw,jH ym]at e
 exact(aOv h.nd).mp e
theorem Ren.wk(R:Ren rs ws ps bj fj){k:Nat}(hk:k<ws.length):(fW bj).u (at0 rs k).toNat=(fW ws).u k/\(fW bj).l (at0 rs k).toNat=(fW ws).l k/\(fW bj).p (at0 rs k).toNat=(fW ws).p k:=by
 have e:=R.w k hk
 exact⟨show(bj[(at0 rs k).toNat]?.getD (0,0,0)).1=_ by rw[e];rfl,show(bj[(at0 rs k).toNat]?.getD (0,0,0)).2.1=_ by rw[e];rfl,show(bj[(at0 rs k).toNat]?.getD (0,0,0)).2.2=_ by rw[e];rfl⟩
noncomputable def bk(rs:List Int)(v:Nat):Nat:=rs.idxOf (v:Int)
theorem aBZ{m:Nat}(h:Rk m rs){k:Nat}(hk:k<m):bk rs (at0 rs k).toNat=k:=by
 have h1:=h.at hk;have hm:((at0 rs k).toNat:Int)∈rs:=h.surj h1.2;have hb:bk rs (at0 rs k).toNat<rs.length:=dP hm
 refine h.inj (by rw[<-h.len];exact hb) hk ?_
 rw[jH hb]
 exact(aOO (x:=((at0 rs k).toNat:Int)) hb).trans (by lia)
theorem aEw{m:Nat}(h:Rk m rs){v:Nat}(hv:v<m):bk rs v<m/\at0 rs (bk rs v:Nat)=v:=by
 have hm:(v:Int)∈rs:=h.surj hv;have hb:bk rs v<rs.length:=dP hm
 refine⟨by rw[<-h.len];exact hb,?_⟩
 rw[jH hb]
 exact aOO _
theorem Ren.to(R:Ren rs ws ps bj fj)(hw:InW ws.length ps)(p:Pl bj fj e b h):Pl ws ps e (fun k=>b (at0 rs k).toNat) (fun k=>h (at0 rs k).toNat)/\cst ws (fun k=>h (at0 rs k).toNat)=cst bj h:=by
 have at':∀i,i<ws.length->(at0 rs i).toNat<bj.length:=fun i hi=>by rw[R.l];exact(R.r.at hi).2
 refine⟨⟨fun i hi=>p.b0 _ (at' i hi),fun i hi=>by rw[<-(R.wk hi).2.1];exact p.lh _ (at' i hi),fun i hi=>by rw[<-(R.wk hi).1];exact p.hu _ (at' i hi),fun i hi=>p.en _ (at' i hi),fun x hx=>?_⟩,?_⟩
 ·have:=p.ne (at0 rs x.1,at0 rs x.2) (by rw[R.p];exact bL.mpr ⟨x,hx,rfl⟩);have nv:=hw x hx;show b (at0 rs ((x.1.toNat:Nat):Int)).toNat+h (at0 rs ((x.1.toNat:Nat):Int)).toNat<=b (at0 rs ((x.2.toNat:Nat):Int)).toNat;rw[bN nv.1.1,bN nv.2.1]
  exact this
 ·unfold cst;rw[R.l,<-R.r.sum (g:=fun v=>(fW bj).p v*((fW bj).u v - h v))]
  refine iE fun i hi=>?_
  rw[(R.wk hi).1,(R.wk hi).2.2]
theorem Ren.back(R:Ren rs ws ps bj fj)(hw:InW ws.length ps)(p:Pl ws ps e b h):Pl bj fj e (fun v=>b (bk rs v)) (fun v=>h (bk rs v))/\cst bj (fun v=>h (bk rs v))=cst ws h:=by
 have ng:∀v,v<bj.length->bk rs v<ws.length/\(fW bj).u v=(fW ws).u (bk rs v)/\(fW bj).l v=(fW ws).l (bk rs v):=fun v hv=>by
  rw[R.l]at hv;have h1:=aEw R.r hv;have h2:=R.wk h1.1;rw[h1.2,cF]at h2
  exact⟨h1.1,h2.1,h2.2.1⟩
 refine⟨⟨fun v hv=>p.b0 _ (ng v hv).1,fun v hv=>by rw[(ng v hv).2.2];exact p.lh _ (ng v hv).1,fun v hv=>by rw[(ng v hv).2.1];exact p.hu _ (ng v hv).1,fun v hv=>p.en _ (ng v hv).1,fun x hx=>?_⟩,?_⟩
 ·rw[R.p]at hx;obtain⟨y,hy,rfl⟩:=bL.mp hx;have gk:=hw y hy;have h1:=p.ne y hy;have g:∀i:Int,0<=i->i<ws.length->bk rs (at0 rs i).toNat=i.toNat:=fun i h0 h1=>by
   have:=aBZ R.r (k:=i.toNat) (by lia);rw[bN h0]at this
   exact this
  show b (bk rs (at0 rs y.1).toNat)+h (bk rs (at0 rs y.1).toNat)<=b (bk rs (at0 rs y.2).toNat);rw[g _ gk.1.1 gk.1.2,g _ gk.2.1 gk.2.2]
  exact h1
 ·unfold cst;rw[R.l,<-R.r.sum (g:=fun v=>(fW bj).p v*((fW bj).u v - h (bk rs v)))]
  refine iE fun i hi=>?_
  rw[(R.wk hi).1,(R.wk hi).2.2,aBZ R.r hi]
theorem Ren.inw(R:Ren rs ws ps bj fj)(hw:InW ws.length ps):InW bj.length fj:=fun x hx=>by
 rw[R.p]at hx;obtain⟨y,hy,rfl⟩:=bL.mp hx;have gk:=hw y hy;have g:∀i:Int,0<=i->i<ws.length->0<=at0 rs i/\at0 rs i<bj.length:=fun i h0 h1=>by
  have:=R.r.at (k:=i.toNat) (by lia);rw[bN h0]at this;rw[R.l]
  lia
 exact⟨g _ gk.1.1 gk.1.2,g _ gk.2.1 gk.2.2⟩
theorem Ren.acy(R:Ren rs ws ps bj fj)(hw:InW ws.length ps)(ha:Acy ps):Acy fj:=by
 obtain⟨r,hr⟩:=ha
 refine⟨fun x=>r (bk rs x.toNat:Nat),fun x hx=>?_⟩
 rw[R.p]at hx;obtain⟨y,hy,rfl⟩:=bL.mp hx;have gk:=hw y hy;have g:∀i:Int,0<=i->i<ws.length->((bk rs (at0 rs i).toNat:Nat):Int)=i:=fun i h0 h1=>by
  have:=aBZ R.r (k:=i.toNat) (by lia);rw[bN h0]at this;rw[this];lia
 show r (bk rs (at0 rs y.1).toNat:Nat)<r (bk rs (at0 rs y.2).toNat:Nat);rw[g _ gk.1.1 gk.1.2,g _ gk.2.1 gk.2.2]
 exact hr y hy
end
end Lib
namespace Lib
open PySem L2 TL NF
section
variable {ps fj:List (Int×Int)}{m k:Nat}{x y a b:Int}
end
end Lib
namespace K42
open PySem L2 TL Lib NF
end K42
namespace K93
open PySem L2 TL Lib
end K93
namespace K93
open PySem L2 TL Lib NF
section
variable {ws bj:List (Int×Int×Int)}{ps fj:List (Int×Int)}{nd xa:List (List Int)}{bs fs bs' kz:List Int}{z y z' y':Int}
end
end K93
namespace K93
open PySem L2 TL Lib NF
variable{G:FS}{Q:TL.Fl->TSt->Sto->Prop}
theorem hZ{F:FS}{τ:TSt}{C:Sto}(P:TSt->Sto->Prop)(h1:wpS F τ C fun l ap C1=>l=.nx/\P ap C1)(h2:∀ap C1,P ap C1->wpS G ap C1 Q):wpS (fJ F G) τ C Q:=by
 obtain⟨l,ap,C1,e,rfl,p⟩:=h1;obtain⟨l2,ao,C2,e2,q⟩:=h2 ap C1 p
 exact fN.mpr ⟨_,_,_,e,l2,ao,C2,e2,q⟩
theorem uT{ga:FB}{F:FS}{τ:TSt}{C:Sto}(h1:wpB ga τ C fun x C1=>x=false/\C1=C)(h2:wpS G τ C Q):wpS (fIf ga F G) τ C Q:=by
 obtain⟨x,C1,e,rfl,rfl⟩:=h1
 exact mN.mpr ⟨_,_,e,h2⟩
section
variable {ws:List (Int×Int×Int)}{ps:List (Int×Int)}{nd:List (List Int)}{bs fs:List Int}{z y:Int}{ns:List Int}
end
end K93
namespace K93
open PySem L2 TL Lib NF
section
variable {ws:List (Int×Int×Int)}{ps:List (Int×Int)}{nd:List (List Int)}{bs fs:List Int}{z y:Int}{ns:List Int}
end
end K93
namespace K93
open PySem L2 TL Lib NF
section
variable {ws bj:List (Int×Int×Int)}{ps fj:List (Int×Int)}{nd xa:List (List Int)}{bs fs bs' kz:List Int}{z y z' y' e q t:Int}{b h:Nat->Int}{rs:List Int}
end
end K93
namespace K93
open PySem L2 TL Lib NF
section
variable {ws:List (Int×Int×Int)}{rs:List Int}
variable{i:Nat}
def trn(rs:List Int)(ws:List (Int×Int×Int))(i:Nat):List T:=(bI ws.length).map fun v=>if bk rs v<i then w3 ((ws[bk rs v]?).getD (0,0,0))else .lst []
def ws2(rs:List Int)(ws:List (Int×Int×Int)):List (Int×Int×Int):=(bI ws.length).map fun v=>(ws[bk rs v]?).getD (0,0,0)
theorem uX:(trn rs ws i).length=ws.length:=by simp[trn]
theorem aDO{v:Nat}(h:v<(trn rs ws i).length):(trn rs ws i)[v]=if bk rs v<i then w3 ((ws[bk rs v]?).getD (0,0,0))else .lst []:=by simp[trn]
theorem aNb:trn rs ws 0=(bI ws.length).map fun _=>T.lst []:=by
 unfold trn
 refine cI fun v _=>?_
 rw[if_neg (by lia)]
theorem aJm(R:Rk ws.length rs)(hi:i<ws.length):(trn rs ws i).set (at0 rs i).toNat (w3 ((ws[i]?).getD (0,0,0)))=trn rs ws (i+1):=by
 apply aO0
 ·rw[cJ,uX,uX]
 ·intro v h1 h2;have hv:v<ws.length:=by rw[uX]at h2;exact h2
  rw[List.getElem_set,aDO h2,aDO];by_cases h:(at0 rs i).toNat=v
  ·rw[if_pos h,<-h,aBZ R hi,if_pos (by lia)]
  ·rw[if_neg h];have ay:bk rs v≠i:=fun g=>h (by
    have:=(aEw R hv).2;rw[g]at this;rw[this,cF])
   by_cases hb:bk rs v<i
   ·rw[if_pos hb,if_pos (by lia)]
   ·rw[if_neg hb,if_neg (by lia)]
theorem aIM(R:Rk ws.length rs):trn rs ws ws.length=(ws2 rs ws).map w3:=by
 unfold trn ws2;rw[b7]
 refine cI fun v hv=>?_
 rw[if_pos (aEw R (cW.mp hv)).1];rfl
theorem aJq(R:Rk ws.length rs){ps:List (Int×Int)}:Ren rs ws ps (ws2 rs ws) (ps.map fun p=>(at0 rs p.1,at0 rs p.2)):=by
 refine⟨R,by simp[ws2],fun k hk=>?_,rfl⟩
 unfold ws2;rw[bK,dN (R.at hk).2];show some ((ws[bk rs (at0 rs k).toNat]?).getD (0,0,0))=_;rw[aBZ R hk,bB hk];rfl
theorem aLC(R:Rk ws.length rs){P:Int×Int×Int->Prop}(h:∀w∈ws,P w):∀w∈ws2 rs ws,P w:=fun w hw=>by
 obtain⟨v,hv,rfl⟩:=bL.mp hw
 exact pB h (aEw R (cW.mp hv)).1
theorem ixv{τ:TSt}{C:Sto}{a k:Nat}{row:List T}{i:Int}{r v:T}(h0:τ[a]?=some (some r))(hk:τ[k]?=some (some (.int i)))(hr:sqT C r=some row)(hv:atI row i=some v):fIx (jQ a) (jQ k) τ C=some (v,C):=
 pE (gA.mpr (eZ.mpr ⟨_,h0,eZ.mpr ⟨_,hk,lY.mpr ⟨_,hr,_,hv,rfl,rfl⟩⟩⟩))
theorem aBW{m:Nat}(R:Rk m rs){x:Int}(h0:0<=x)(h:x<m):atI (rs.map T.int) x=some (.int (at0 rs x)):=by
 have hx:x<rs.length:=by rw[R.len];exact h
 rw[tZ h0 hx];have:=jH (bs:=rs) (i:=x.toNat) (by lia);rw[bN h0]at this;rw[this]
end
end K93
namespace Lib
open PySem L2 TL NF
noncomputable def sft(n:Nat)(p:Int×Int):Int×Int:=(p.1+n,p.2+n)
section
variable {ws ws1 ws2:List (Int×Int×Int)}{ps ck cc:List (Int×Int)}{nd wz wy:List (List Int)}{bs fs bs1 fs1 bs2 fs2:List Int}{z y z1 y1 z2 y2 e e' q q1 q2:Int}{b h b1 h1 b2 h2:Nat->Int}
variable{i:Nat}
theorem aE4(hi:i<ws1.length):(fW (ws1++ws2)).u i=(fW ws1).u i/\(fW (ws1++ws2)).l i=(fW ws1).l i/\(fW (ws1++ws2)).p i=(fW ws1).p i:=by
 have e:(ws1++ws2)[i]?=ws1[i]?:=aZ hi
 exact⟨show((ws1++ws2)[i]?.getD (0,0,0)).1=_ by rw[e];rfl,show((ws1++ws2)[i]?.getD (0,0,0)).2.1=_ by rw[e];rfl,show((ws1++ws2)[i]?.getD (0,0,0)).2.2=_ by rw[e];rfl⟩
theorem aFj:(fW (ws1++ws2)).u (ws1.length+i)=(fW ws2).u i/\(fW (ws1++ws2)).l (ws1.length+i)=(fW ws2).l i/\(fW (ws1++ws2)).p (ws1.length+i)=(fW ws2).p i:=by
 have e:(ws1++ws2)[ws1.length+i]?=ws2[i]?:=by rw[bH (by lia)];congr 1;lia
 exact⟨show((ws1++ws2)[ws1.length+i]?.getD (0,0,0)).1=_ by rw[e];rfl,show((ws1++ws2)[ws1.length+i]?.getD (0,0,0)).2.1=_ by rw[e];rfl,show((ws1++ws2)[ws1.length+i]?.getD (0,0,0)).2.2=_ by rw[e];rfl⟩
theorem aEk:cst (ws1++ws2) h=cst ws1 h+cst ws2 fun i=>h (ws1.length+i):=by
 unfold cst;rw[aU,rF];congr 1
 ·exact iE fun i hi=>by rw[(aE4 hi).1,(aE4 hi).2.2]
 ·exact iE fun i _=>by rw[aFj.1,aFj.2.2]
theorem Pl.fst2(p:Pl (ws1++ws2) ps e b h)(hp:∀x∈ck,x∈ps):Pl ws1 ck e b h:=by
 have hl:∀i,i<ws1.length->i<(ws1++ws2).length:=fun i hi=>by rw[aU];lia
 exact⟨fun i hi=>p.b0 i (hl i hi),fun i hi=>by rw[<-(aE4 (ws2:=ws2) hi).2.1];exact p.lh i (hl i hi),fun i hi=>by rw[<-(aE4 (ws2:=ws2) hi).1];exact p.hu i (hl i hi),fun i hi=>p.en i (hl i hi),fun x hx=>p.ne x (hp x hx)⟩
theorem Pl.snd2(p:Pl (ws1++ws2) ps e b h)(hw:InW ws2.length cc)(hp:∀x∈cc,sft ws1.length x∈ps):Pl ws2 cc e (fun i=>b (ws1.length+i)) (fun i=>h (ws1.length+i)):=by
 have hl:∀i,i<ws2.length->ws1.length+i<(ws1++ws2).length:=fun i hi=>by rw[aU];lia
 refine⟨fun i hi=>p.b0 _ (hl i hi),fun i hi=>by rw[<-(aFj (ws1:=ws1)).2.1];exact p.lh _ (hl i hi),fun i hi=>by rw[<-(aFj (ws1:=ws1)).1];exact p.hu _ (hl i hi),fun i hi=>p.en _ (hl i hi),fun x hx=>?_⟩
 have h3:=p.ne _ (hp x hx);have h4:=hw x hx;unfold sft at h3;dsimp only at h3|-;rw[show(x.1+(ws1.length:Int)).toNat=ws1.length+x.1.toNat by lia,show(x.2+(ws1.length:Int)).toNat=ws1.length+x.2.toNat by lia]at h3
 exact h3
noncomputable def two(n:Nat)(f g:Nat->Int)(i:Nat):Int:=if i<n then f i else g (i - n)
theorem sC{n:Nat}{f g:Nat->Int}(hi:i<n):two n f g i=f i:=if_pos hi
theorem rH{n:Nat}{f g:Nat->Int}:two n f g (n+i)=g i:=by unfold two;rw[if_neg (by lia)];congr 1;lia
theorem Pl.two(p1:Pl ws1 ck e b1 h1)(p2:Pl ws2 cc e b2 h2)(w1:InW ws1.length ck)(w2:InW ws2.length cc):Pl (ws1++ws2) (ck++cc.map (sft ws1.length)) e (two ws1.length b1 b2) (two ws1.length h1 h2):=by
 have key:∀i,i<(ws1++ws2).length->i<ws1.length\/∃j,i=ws1.length+j/\j<ws2.length:=fun i hi=>by
  rw[aU]at hi;by_cases h:i<ws1.length
  ·exact .inl h
  ·exact .inr ⟨i - ws1.length,by lia,by lia⟩
 refine⟨fun i hi=>?_,fun i hi=>?_,fun i hi=>?_,fun i hi=>?_,fun x hx=>?_⟩
 ·rcases key i hi with k| ⟨j,rfl,k⟩
  ·rw[sC k];exact p1.b0 i k
  ·rw[rH];exact p2.b0 j k
 ·rcases key i hi with k| ⟨j,rfl,k⟩
  ·rw[sC k,(aE4 k).2.1];exact p1.lh i k
  ·rw[rH,aFj.2.1];exact p2.lh j k
 ·rcases key i hi with k| ⟨j,rfl,k⟩
  ·rw[sC k,(aE4 k).1];exact p1.hu i k
  ·rw[rH,aFj.1];exact p2.hu j k
 ·rcases key i hi with k| ⟨j,rfl,k⟩
  ·rw[sC k,sC k];exact p1.en i k
  ·rw[rH,rH];exact p2.en j k
 ·rcases bM.mp hx with hx|hx
  ·have h3:=w1 x hx;rw[sC (by lia),sC (by lia),sC (by lia)]
   exact p1.ne x hx
  ·obtain⟨u,hu,rfl⟩:=bL.mp hx;have h3:=w2 u hu;unfold sft;dsimp only;rw[show(u.1+(ws1.length:Int)).toNat=ws1.length+u.1.toNat by lia,show(u.2+(ws1.length:Int)).toNat=ws1.length+u.2.toNat by lia,rH,rH,rH]
   exact p2.ne u hu
theorem aHm:cst (ws1++ws2) (two ws1.length h1 h2)=cst ws1 h1+cst ws2 h2:=by
 rw[aEk];congr 1
 ·exact iE fun i hi=>by rw[sC hi]
 ·exact iE fun i hi=>by show _*(_ - two ws1.length h1 h2 (ws1.length+i))=_;rw[rH]
theorem aDK(w1:InW ws1.length ck)(w2:InW ws2.length cc):InW (ws1++ws2).length (ck++cc.map (sft ws1.length)):=fun x hx=>by
 rw[aU];rcases bM.mp hx with hx|hx
 ·have:=w1 x hx;lia
 ·obtain⟨u,hu,rfl⟩:=bL.mp hx;have:=w2 u hu;unfold sft;dsimp only
  lia
theorem aJ2(w1:InW ws1.length ck)(w2:InW ws2.length cc)(a1:Acy ck)(a2:Acy cc):Acy (ck++cc.map (sft ws1.length)):=by
 obtain⟨r1,c1⟩:=a1;obtain⟨r2,c2⟩:=a2
 refine⟨fun x=>if x<ws1.length then r1 x else r2 (x - ws1.length),fun x hx=>?_⟩
 rcases bM.mp hx with hx|hx
 ·have:=w1 x hx;dsimp only;rw[if_pos (by lia),if_pos (by lia)]
  exact c1 x hx
 ·obtain⟨u,hu,rfl⟩:=bL.mp hx;have:=w2 u hu;unfold sft;dsimp only;rw[if_neg (by lia),if_neg (by lia),aPp,aPp]
  exact c2 u hu
theorem Pl.mono(p:Pl ws ps e b h)(he:e<=e'):Pl ws ps e' b h:=⟨p.b0,p.lh,p.hu,fun i hi=>dZ (p.en i hi) he,p.ne⟩
theorem aHk(G:Gvn ws ps nd)(p:Pl ws ps e b h):0<=cst ws h:=nO fun i hi=>dA (pB (P:=sJ) G.ok hi).2.2.1 (by have:=p.hu i hi;lia)
theorem Lot.pl_y(L:Lot ws ps nd bs fs z y)(p:Pl ws ps e b h)(he:0<=e)(hc:cst ws h=0):y<=e:=by
 have key:∀i,i<ws.length->at0 (ws.map iH) i<=h i:=fun i hi=>by
  have vd:0<=(fW ws).p i:=(pB (P:=sJ) L.g.ok hi).2.2.1;have h3:=p.hu i hi;have h4:=p.lh i hi;rw[aAR hi];split
  ·exact h4
  ·rename_i hn;have h5:=aGF (g:=fun i=>(fW ws).p i*((fW ws).u i - h i)) (n:=ws.length) (fun k hk=>dA (pB (P:=sJ) L.g.ok hk).2.2.1 (by have:=p.hu k hk;lia)) hi;have h6:(fW ws).p i*((fW ws).u i - h i)<=0:=dZ h5 (aPw hc);by_cases h7:h i<(fW ws).u i
   ·have:=Int.mul_pos (show 0<(fW ws).p i by lia) (show 0<(fW ws).u i - h i by lia)
    lia
   ·lia
 rw[<-L.yy]
 refine L.g.fst L.f (aP _) he p.b0 (fun x hx=>?_) fun i hi=>?_
 ·have h3:=p.ne x hx;have h4:=L.g.inw _ hx;have h5:=key x.1.toNat (by lia);rw[bN h4.1.1]at h5
  lia
 ·have:=p.en i hi;have:=key i hi
  lia
theorem Lot.zero(L:Lot ws ps nd bs fs z y):l5 ws nd y 0:=by
 obtain⟨_,p0,G0,hb,vd⟩:=L.g.free L.f (bonus:=0) (by decide);rw[L.yy]at vd
 refine⟨_,_,p0,G0,vd,nO fun i hi=>(pB (P:=sJ) L.g.ok hi).2.2.1,?_⟩
 show(0:Int)=sm _ _ - 0*y;rw[m5 fun k _=>dY _];simp
structure Two(ws:List (Int×Int×Int))(ps:List (Int×Int))(ws1:List (Int×Int×Int))(ck:List (Int×Int))(ws2:List (Int×Int×Int))(cc:List (Int×Int)):Prop where
 to:∀{e b h},Pl ws ps e b h->∃b1 h1 b2 h2,Pl ws1 ck e b1 h1/\Pl ws2 cc e b2 h2/\cst ws h=cst ws1 h1+cst ws2 h2
 fro:∀{e b1 h1 b2 h2},Pl ws1 ck e b1 h1->Pl ws2 cc e b2 h2->∃b h,Pl ws ps e b h/\cst ws h=cst ws1 h1+cst ws2 h2
theorem Two.of(w1:InW ws1.length ck)(w2:InW ws2.length cc){rs:List Int}(R:Ren rs (ws1++ws2) (ck++cc.map (sft ws1.length)) ws ps):Two ws ps ws1 ck ws2 cc:=by
 have hw:=aDK w1 w2
 refine⟨fun p=>?_,fun p1 p2=>?_⟩
 ·obtain⟨q,hc⟩:=R.to hw p
  exact⟨_,_,_,_,q.fst2 fun x hx=>aOc _ hx,q.snd2 w2 fun x hx=>cD _ (cM hx),by rw[<-hc,aEk]⟩
 ·obtain⟨q,hc⟩:=R.back hw (p1.two p2 w1 w2)
  exact⟨_,_,q,by rw[hc,aHm]⟩
theorem Two.ends(T:Two ws ps ws1 ck ws2 cc)(L:Lot ws ps nd bs fs z y)(L1:Lot ws1 ck wz bs1 fs1 z1 y1)(L2:Lot ws2 cc wy bs2 fs2 z2 y2):z=max z1 z2/\y=max y1 y2:=by
 have a0:=L.z0;have a1:=L1.z0;have a2:=L2.z0;have a3:=L.zy;have a4:=L1.zy;have a5:=L2.zy;have b0:=L.yb;have b1:=L1.yb;have b2:=L2.yb;have pz:∀{ws ps nd bs fs z y}(L:Lot ws ps nd bs fs z y)(e:Int),z<=e->e<2^300->∃b h,Pl ws ps e b h:=fun L e h1 h2=>by
  obtain⟨q,_,A⟩:=(lV L h2).2 h1;obtain⟨b,h,p,_⟩:=A.plan L.g
  exact⟨b,h,p⟩
 constructor
 ·apply dW
  ·obtain⟨_,_,p1⟩:=pz L1 (max z1 z2) (by lia) (by lia);obtain⟨_,_,p2⟩:=pz L2 (max z1 z2) (by lia) (by lia);obtain⟨_,_,p,_⟩:=T.fro p1 p2
   exact L.pl_z p (by lia)
  ·obtain⟨_,_,p⟩:=pz L z (bZ _) (by lia);obtain⟨_,_,_,_,p1,p2,_⟩:=T.to p;have:=L1.pl_z p1 a0;have:=L2.pl_z p2 a0
   lia
 ·apply dW
  ·obtain⟨_,_,p1,c1⟩:=L1.zero.plan L1.g;obtain⟨_,_,p2,c2⟩:=L2.zero.plan L2.g;obtain⟨_,_,p,c⟩:=T.fro (p1.mono (e':=max y1 y2) (by lia)) (p2.mono (e':=max y1 y2) (by lia))
   exact L.pl_y p (by lia) (by rw[c,c1,c2];rfl)
  ·obtain⟨_,_,p,c⟩:=L.zero.plan L.g;obtain⟨_,_,_,_,p1,p2,c'⟩:=T.to p;have n1:=aHk L1.g p1;have n2:=aHk L2.g p2;have:=L1.pl_y p1 (by lia) (by lia);have:=L2.pl_y p2 (by lia) (by lia)
   lia
theorem Two.price(T:Two ws ps ws1 ck ws2 cc)(G:Gvn ws ps nd)(G1:Gvn ws1 ck wz)(G2:Gvn ws2 cc wy)(A:l5 ws nd e q)(A1:l5 ws1 wz e q1)(A2:l5 ws2 wy e q2):q=q1+q2:=by
 apply dW
 ·obtain⟨_,_,p1,rfl⟩:=A1.plan G1;obtain⟨_,_,p2,rfl⟩:=A2.plan G2;obtain⟨_,_,p,c⟩:=T.fro p1 p2;rw[<-c];exact A.le G p
 ·obtain⟨_,_,p,rfl⟩:=A.plan G;obtain⟨_,_,_,_,p1,p2,c⟩:=T.to p;have:=A1.le G1 p1;have:=A2.le G2 p2
  lia
end
end Lib
namespace K91
open PySem L2 TL Lib
def wR:FS:=
 (fJ (fU (fS (aDs (fS (gO (eV (fT 2 gQ (eV Y0 (eV Y2 fF))) (eV (fT 2 gQ (eV Y0 (eV (iS (fI 2) Y2) fF))) fF)))) (fS (aFO Y0 (nA (iS (fI 5) Y2)) (nA (fI 63)))))) (gN 3))
  (uR Y1 (eV (fT 3 rY (eV Y3 (eV (fI 4) (eV (aLe (fI 10) (fI 20)) fF)))) fF)))
def aBj:FS:=
 (fJ (fU (iG (gO fF)) (gN 1))
  (fJ (kR (fI 2) (gN 2)
   wR)
  (hV Y1)))
def nV:List T->Option T:=jA aBj 4
def sO:FS:=
 (pH (fS (fList (eV (fIx (fS (aDs (fIx Y0 (fI 0)) (fIx Y1 (fI 0)))) Y7) fF))) Y6 (fIx Y5 Y7))
def tG:FS:=
 (uR Y8 (eV (fS (gO (eV (fIx Y5 (iS Y9 (lZ (eV (fIx Y0 (fI 0)) fF)))) (eV (fIx Y5 (iS Y10 (lZ (eV (fIx Y0 (fI 0)) fF)))) fF)))) fF))
def yQ:FS:=
 (fIf (qA Y3) (aIk Y8 (eV (jS (fT 2 jG (eV Y2 (eV (iS (iS (fI 200) (nP (fI 8) Y9)) Y10) fF))) (iS (lZ (eV Y8 fF)) (fI 1))) (eV (fS (gO (eV Y9 (eV Y10 fF)))) fF))) jJ)
def zC:FS:=
 (mU (fS (fSl Y5 (nA (lZ (eV (fIx Y0 (fI 0)) fF))) lF)) (gN 10)
  yQ)
def aEl:FS:=
 (fJ (fU (iS (lZ (eV (fIx Y0 (fI 0)) fF)) (lZ (eV (fIx Y1 (fI 0)) fF))) (gN 4))
  (fJ (fU (fT 2 lA (eV Y2 (eV Y4 fF))) (gN 5))
  (fJ (fU (iG (jL Y4 1 [] (gN 0) gP (fS (gO fF)))) (gN 6))
  (fJ (kR Y4 (gN 7)
   sO)
  (fJ (fU (iG (jE (fIx Y0 (fI 1)) 2 [5] (gU [0,1]) gP (fS (gO (eV (fIx Y2 Y0) (eV (fIx Y2 Y1) fF)))))) (gN 8))
  (fJ (mU (fIx Y1 (fI 1)) (gU [9,10])
   tG)
  (fJ (mU (fS (fSl Y5 lF (nA (lZ (eV (fIx Y0 (fI 0)) fF))))) (gN 9)
   zC)
  (hV (sD (eV Y6 (eV Y8 fF)))))))))))
def rA:List T->Option T:=jA aEl 11
def aEb:FS:=
 (fJ (fU (fS (jE Y1 1 [10] (gN 0) gP (fT 3 jI (eV (fIx Y0 (fI 0)) (eV (fIx Y0 (fI 1)) (eV Y1 fF)))))) (gN 11))
  (fJ (fU (fT 3 jI (eV Y2 (eV Y3 (eV Y10 fF)))) (gN 12))
  (fIf (aAq (qM (qA (aJf (eV (fS (jE (fS (aDs Y11 (fS (gO (eV Y12 fF))))) 1 [] (gN 0) gP (fT 1 rS (eV Y0 fF)))) fF)))) (i8 (fNe Y12 (aHb (eV Y11 fF))))) (hV (fC (.bl false))) jJ)))
def aKH:FS:=
 (fJ (fU (fT 1 nV (eV Y0 fF)) (gN 1))
  (fJ (fU (fT 4 rA (eV (fIx Y1 (fI 0)) (eV (fIx Y1 (fI 1)) (eV (fT 2 gQ (eV Y0 (eV (fI 4) fF))) (eV (fC (.bl false)) fF))))) (gU [2,3]))
  (fJ (fU (fS (jE Y1 1 [] (gN 0) gP (fT 2 pV (eV (fIx Y0 (fI 0)) (eV (fIx Y0 (fI 1)) fF))))) (gN 4))
  (fJ (fU (aDC (eV (fIx (fIx Y4 (fI 0)) (fI 0)) (eV (fIx (fIx Y4 (fI 1)) (fI 0)) fF))) (gN 5))
  (fJ (fU (aDC (eV (fIx (fIx Y4 (fI 0)) (fI 1)) (eV (fIx (fIx Y4 (fI 1)) (fI 1)) fF))) (gN 6))
  (fJ (fIf (aAq (i8 (fNe (fT 2 hJ (eV Y2 (eV Y3 fF))) Y5)) (i8 (fNe (fT 2 lO (eV Y2 (eV Y3 fF))) Y6))) (hV (fC (.bl false))) jJ)
  (fJ (fIf (i8 (iO (fT 3 jI (eV Y2 (eV Y3 (eV (aAJ Y5 (fI 1)) fF)))) (fC .non) zU)) (hV (fC (.bl false))) jJ)
  (fJ (fU (fT 2 gQ (eV Y0 (eV (fI 4) fF))) (gN 7))
  (fJ (fU (iS (nP (fT 2 jG (eV Y7 (eV (fI 70) fF))) (aLe (fT 2 jG (eV Y7 (eV (fI 71) fF))) (fI 3))) (fT 2 gQ (eV Y0 (eV (fI 62) fF)))) (gN 8))
  (fJ (fU (iS Y5 (jS Y8 (iS (aAJ Y6 Y5) (fI 1)))) (gN 9))
  (fJ (mU (fS (fSl (fS (gO (eV Y5 (eV Y9 (eV (iS Y6 (fI 1)) fF))))) (nA (jS Y7 (fI 2))) lF)) (gN 10)
   aEb)
  (hV (fC (.bl true))))))))))))))
def aDM:List T->Option T:=jA aKH 13
end K91
namespace TL
open PySem L2
theorem aIZ{τ:TSt}{C:Sto}{a:FE}{lo hi:FO}{QL:List T->Sto->Prop}:wpA (aFO a lo hi) τ C QL↔wpE a τ C fun t C1=>wpP lo τ C1 fun l C2=>wpP hi τ C2 fun h C3=>∃ts,liT C3 t=some ts/\QL (o6 ts l h) C3:=by
 unfold wpA wpE wpP aFO;constructor
 ·rintro⟨t,C',e,q⟩;obtain⟨⟨x,C1⟩,e1,e⟩:=aK.mp e;obtain⟨⟨y,C2⟩,e2,e⟩:=aK.mp e;obtain⟨⟨z,C3⟩,e3,e⟩:=aK.mp e;obtain⟨ts,e4,e⟩:=aL.mp e;cases e
  exact⟨x,C1,e1,y,C2,e2,z,_,e3,ts,e4,q⟩
 ·rintro⟨x,C1,e1,y,C2,e2,z,C3,e3,ts,e4,q⟩
  exact⟨_,C3,by simp[e1,e2,e3,e4],q⟩
theorem oF{α:Type}{xs:List α}{k:Int}(hk:0<=k):(o6 xs (some k) (some 63)).length<=60:=by
 have key:∀a b:Int,0<=a->b<=63->(sliceRange a b 2).length<=60:=fun a b h1 h2=>by
  unfold sliceRange;rw[aP,aOs,if_pos (by decide)];split<;>lia
 exact cB (List.length_filterMap_le _ _) (key _ _ (Int.le_max_left _ _) (Int.max_le.mpr ⟨by decide,aO8 _ _⟩))
end TL
namespace K91
open PySem L2 TL Lib NF K93
variable{ns:List Int}
def clN(ns:List Int)(k:Int):List Int:=[kD ns k,kD ns (2+k)]++o6 ns (some (5+k)) (some 63)
theorem aEr{k:Int}(hk:0<=k):(clN ns k).length<=63:=by
 have:=oF (xs:=ns) (k:=5+k) (by lia);simp only[clN,aU,aN,aQ]
 lia
theorem aJy{f:Nat->T}(hf:∀k:Nat,k<2->CF (f k)=true/\rY [.lst ((clN ns k).map T.int),.int 4,.int (10^20)]=some (f k)):nV [.lst (ns.map T.int)]=some (.lst [f 0,f 1]):=by
 apply hW;unfold aBj;walk_at "b"
 refine hZ (fun τ C=>C=[(.l,(bI 0).map f)]/\τ=[some (.lst (ns.map T.int)),some (.cell 0),none,none]) (by simp_arith[↓fB,↓fA];exact⟨by decide,rfl⟩) ?_
 rintro _ _ ⟨rfl,rfl⟩
 refine hZ (fun τ C=>C=[(.l,(bI 2).map f)]/\∃a b,τ=[some (.lst (ns.map T.int)),some (.cell 0),a,b]) ?_ ?_
 ·refine mJ.mpr (jW.mpr ⟨_,rfl,by lia,?_⟩)
  refine lR (fun i τ C=>C=[(.l,(bI i).map f)]/\∃a b,τ=[some (.lst (ns.map T.int)),some (.cell 0),a,b]) ⟨rfl,_,_,rfl⟩ ?_ ?_
  ·rintro i τ C hi ⟨rfl,a,b,rfl⟩;have yp:i<2:=hi;obtain⟨hc,he⟩:=hf i yp;unfold wR
   refine f8.mpr (hZ (fun τ C=>C=[(.l,(bI i).map f)]/\τ=[some (.lst (ns.map T.int)),some (.cell 0),some (.int i),some (.lst ((clN ns i).map T.int))]) ?_ ?_)
   ·have h1:(0:Int)<=(i:Int):=by lia
    have h2:(0:Int)<=2+(i:Int):=by lia
    have h3:=oF (xs:=ns) (k:=5+(i:Int)) (by lia);rw[eE];simp_arith[↓fB,↓fA,↓aIZ,↓kJ,aHP]
    exact⟨by decide,by simp only[aP,lim];lia,by simp[clN]⟩
   rintro _ _ ⟨rfl,rfl⟩;have w1:∀{C Q},wpO (iF 3 rY [.lst ((clN ns i).map T.int),.int 4,.int (10^aOi 20)] C) Q↔Q (f i) C:=fO he rfl (by walk_at "c");simp_arith[↓fB,↓fA,↓w1]
   exact⟨by decide,by simp only[aP,aOs,lim];lia,by rw[aO7,bQ];rfl,_,_,rfl⟩
  ·rintro τ C ⟨rfl,a,b,rfl⟩
   exact⟨rfl,rfl,_,_,rfl⟩
 rintro _ _ ⟨rfl,a,b,rfl⟩
 refine iV.mpr (eZ.mpr ⟨_,rfl,?_⟩)
 have h0:=(hf 0 (by decide)).1;have h1:=(hf 1 (by decide)).1
 exact pS rfl (by rw[fL,fL,gB,h0,h1];rfl)
section
variable {wa wb:List (Int×Int×Int)}{pa pb:List (Int×Int)}{c:Int}{bh:Bool}{rs:List Int}
abbrev ltT(ws:List (Int×Int×Int))(ps:List (Int×Int)):T:=.tup [.lst (ws.map w3),.lst (ps.map pT)]
abbrev sQ(wa wb:List (Int×Int×Int))(pa pb:List (Int×Int))(c:Int)(bh:Bool)(r:TSt):TSt:=[some (ltT wa pa),some (ltT wb pb),some (.int c),some (.bl bh)]++r
theorem aB7{ws:List (Int×Int×Int)}{ps:List (Int×Int)}{k:Nat}{τ:TSt}{C:Sto}(h:τ[k]?=some (some (ltT ws ps))):lZ (eV (fIx (jQ k) (fI 0)) fF) τ C=some (.int ws.length,C):=pE (hX.mpr (fE.mpr (fQ (K42.ix1 h rfl rfl) (fM.mpr (aAU.mpr ⟨_,rfl,by rw[aP],rfl⟩)))))
theorem aKX{k:Nat}{τ:TSt}{C:Sto}{x:Int}{v:T}(h5:τ[5]?=some (some (.lst (rs.map T.int))))(hk:τ[k]?=some (some (.int x)))(h0:τ[0]?=some (some (ltT wa pa)))(hv:atI (rs.map T.int) (x+wa.length)=some v):fIx Y5 (iS (jQ k) (lZ (eV (fIx Y0 (fI 0)) fF))) τ C=some (v,C):=pE (gA.mpr (eZ.mpr ⟨_,h5,gA.mpr (eZ.mpr ⟨_,hk,fQ (aB7 h0) (nT.mpr (lY.mpr ⟨_,rfl,_,hv,rfl,rfl⟩))⟩)⟩))
def ndp(rs:List Int)(p:Int×Int):Int×Int:=(at0 rs p.1,at0 rs p.2)
theorem aKs(ha:wa.length<=4)(hb:wb.length<=4)(la:pa.length<=20)(lb:pb.length<=20)(w1:InW wa.length pa)(w2:InW wb.length pb)(R:Rk (wa++wb).length rs)(en:lA [.int c,.int (wa++wb).length]=some (.lst (rs.map T.int))){G:FS}{Q:TL.Fl->TSt->Sto->Prop}
 (h:∀a b d,wpS G (sQ wa wb pa pb c bh [some (.int (wa++wb).length),some (.lst (rs.map T.int)),some (.cell 0),a,some (.cell 1),b,d]) [(.l,(ws2 rs (wa++wb)).map w3),(.l,((pa++pb.map (sft wa.length)).map (ndp rs)).map pT)] Q):
 wpS (fJ (fU (iS (lZ (eV (fIx Y0 (fI 0)) fF)) (lZ (eV (fIx Y1 (fI 0)) fF))) (gN 4))
 (fJ (fU (fT 2 lA (eV Y2 (eV Y4 fF))) (gN 5))
 (fJ (fU (iG (jL Y4 1 [] (gN 0) gP (fS (gO fF)))) (gN 6))
 (fJ (kR Y4 (gN 7)
  sO)
 (fJ (fU (iG (jE (fIx Y0 (fI 1)) 2 [5] (gU [0,1]) gP (fS (gO (eV (fIx Y2 Y0) (eV (fIx Y2 Y1) fF)))))) (gN 8))
 (fJ (mU (fIx Y1 (fI 1)) (gU [9,10])
  tG) G)))))) (sQ wa wb pa pb c bh [none,none,none,none,none,none,none]) [] Q:=by
 have hm:(wa.length:Int)+(wb.length:Int)=((wa++wb).length:Int):=by rw[aU];lia
 have hml:(wa++wb).length<=8:=by rw[aU];lia
 have hw5:∀{C Q},wpO (iF 2 lA [.int c,.int (wa++wb).length] C) Q↔Q (.lst (rs.map T.int)) C:=fO en rfl (by walk_at "c")
 refine hZ (fun τ C=>C=[]/\τ=sQ wa wb pa pb c bh [some (.int (wa++wb).length),none,none,none,none,none,none]) ?_ ?_
 ·refine f6.mpr (gA.mpr (fQ (aB7 (k:=0) rfl) (fQ (aB7 (k:=1) rfl) (nT.mpr (f8.mpr ⟨rfl,rfl,?_⟩)))))
  rw[hm];rfl
 rintro _ _ ⟨rfl,rfl⟩;generalize gx:wa++wb=ws at*
 refine hZ (fun τ C=>C=[]/\τ=sQ wa wb pa pb c bh [some (.int ws.length),some (.lst (rs.map T.int)),none,none,none,none,none]) ?_ ?_
 ·simp_arith[↓fB,↓fA,↓hw5]
 rintro _ _ ⟨rfl,rfl⟩
 refine hZ (fun τ C=>C=[(.l,trn rs ws 0)]/\τ=sQ wa wb pa pb c bh [some (.int ws.length),some (.lst (rs.map T.int)),some (.cell 0),none,none,none,none]) ?_ ?_
 ·refine f6.mpr (j5.mpr (oG.mpr (eZ.mpr ⟨_,rfl,_,rfl,by lia,?_⟩)))
  rw[nX]
  refine gG (fun _=>T.lst []) (fun i _=>f8.mpr (gF.mpr (jO.mpr (fM.mpr ⟨by decide,rfl,rfl⟩)))) (f8.mpr ⟨rfl,?_,rfl⟩)
  rw[aNb,cF];rfl
 rintro _ _ ⟨rfl,rfl⟩
 refine hZ (fun τ C=>C=[(.l,trn rs ws ws.length)]/\∃a,τ=sQ wa wb pa pb c bh [some (.int ws.length),some (.lst (rs.map T.int)),some (.cell 0),a,none,none,none]) ?_ ?_
 ·refine mJ.mpr (eZ.mpr ⟨_,rfl,_,rfl,by lia,?_⟩)
  rw[cF]
  refine lR (fun i τ C=>C=[(.l,trn rs ws i)]/\∃a,τ=sQ wa wb pa pb c bh [some (.int ws.length),some (.lst (rs.map T.int)),some (.cell 0),a,none,none,none]) ⟨rfl,_,rfl⟩ ?_ ?_
  ·rintro i τ C hi ⟨rfl,a,rfl⟩;have hr:=aBW R (x:=(0+(i:Int))) (by lia) (by lia);have hw:=K42.aNH hi;unfold sO
   refine f8.mpr (qZ.mpr (gF.mpr (vV.mpr (fE.mpr (gA.mpr (gF.mpr (nQ.mpr (fQ (K42.ix1 (a:=0) rfl rfl rfl) (fQ (K42.ix1 (a:=1) rfl rfl rfl) (p6.mpr ⟨_,rfl,_,rfl,?_,?_⟩))))))))))
   ·simp only[aP,lim];lia
   rw[<-bQ,gx]
   refine eZ.mpr ⟨_,rfl,lY.mpr ⟨_,rfl,_,by rw[eE];exact hw,fM.mpr (aCe.mpr ⟨_,rfl,eZ.mpr ⟨_,rfl,fQ (ixv (i:=0+(i:Int)) rfl rfl rfl hr) ⟨_,_,rfl,rfl,_,rfl,?_⟩⟩⟩)⟩⟩
   have ha:=R.at hi;rw[eE,uX]
   refine⟨_,xH ha.1 (by lia),trivial,?_,_,rfl⟩
   show[(Kd.l,(trn rs ws i).set (at0 rs i).toNat (w3 ((ws[i]?).getD (0,0,0))))]=_;rw[aJm R hi]
  ·rintro τ C ⟨rfl,a,rfl⟩
   exact⟨rfl,rfl,_,rfl⟩
 rintro _ _ ⟨rfl,a,rfl⟩;rw[aIM R]
 refine hZ (fun τ C=>C=[(.l,(ws2 rs ws).map w3),(.l,(pa.map (ndp rs)).map pT)]/\τ=sQ wa wb pa pb c bh [some (.int ws.length),some (.lst (rs.map T.int)),some (.cell 0),a,some (.cell 1),none,none]) ?_ ?_
 ·have ju:(pa.map (ndp rs)).map pT=pa.map fun p=>pT (at0 rs p.1,at0 rs p.2):=by rw[b7];rfl
  refine f6.mpr (j5.mpr (j4.mpr (fQ (K42.ix1 (a:=0) rfl rfl rfl) ⟨_,rfl,by simp[lim];lia,gG (fun p=>pT (at0 rs p.1,at0 rs p.2)) (fun p hp=>?_) (f8.mpr ⟨rfl,by rw[ju];rfl,rfl⟩)⟩)))
  have h1:=w1 p hp;have e1:=aBW R h1.1.1 (by rw[<-gx,aU];lia);have e2:=aBW R h1.2.1 (by rw[<-gx,aU];lia);simp only[sQ,scT,aT,aM,bC,aY,aV,aW,bR,bS,cC];simp_arith[↓fB,↓fA,pT,↓fH e1,↓fH e2];decide
 rintro _ _ ⟨rfl,rfl⟩
 refine hZ (fun τ C=>C=[(.l,(ws2 rs ws).map w3),(.l,((pa++pb.map (sft wa.length)).map (ndp rs)).map pT)]/\∃b d,τ=sQ wa wb pa pb c bh [some (.int ws.length),some (.lst (rs.map T.int)),some (.cell 0),a,some (.cell 1),b,d]) ?_ ?_
 ·refine lQ.mpr (fQ (K42.ix1 (a:=1) rfl rfl rfl) ⟨_,rfl,?_⟩)
  refine iR (xs:=pb) (en:=pT) (fun i τ C=>C=[(.l,(ws2 rs ws).map w3),(.l,((pa++(pb.take i).map (sft wa.length)).map (ndp rs)).map pT)]/\∃b d,τ=sQ wa wb pa pb c bh [some (.int ws.length),some (.lst (rs.map T.int)),some (.cell 0),a,some (.cell 1),b,d]) ⟨by rw[List.take_zero,bC,aW],_,_,rfl⟩ ?_ ?_
  ·rintro i p τ C hi ⟨rfl,b,d,rfl⟩;have h1:=w2 p (bD hi);have e1:=aBW R (x:=p.1+wa.length) (by lia) (by rw[<-gx,aU];lia);have e2:=aBW R (x:=p.2+wa.length) (by lia) (by rw[<-gx,aU];lia);unfold tG
   refine yO.mpr ⟨_,rfl,rfl,?_⟩
   refine vC.mpr (eZ.mpr ⟨_,rfl,fE.mpr (gF.mpr (jO.mpr (fE.mpr (fQ (aKX (wa:=wa) (pa:=pa) rfl rfl rfl e1) (fE.mpr (fQ (aKX (wa:=wa) (pa:=pa) rfl rfl rfl e2) (fM.mpr ⟨by simp[lim],fM.mpr ⟨_,rfl,rfl,_,rfl,u9.mpr ⟨?_,trivial,?_,_,_,rfl⟩⟩⟩)))))))⟩)
   ·simp only[aP,aU,dR,lim];lia
   ·show[(Kd.l,(ws2 rs ws).map w3),(Kd.l,((pa++(pb.take i).map (sft wa.length)).map (ndp rs)).map pT++[pT (ndp rs (sft wa.length p))])]=_;rw[aOe,hi];simp only[bQ,cP];rfl
  ·rintro τ C ⟨rfl,b,d,rfl⟩;rw[cV]
   exact⟨rfl,rfl,_,_,rfl⟩
 rintro _ _ ⟨rfl,b,d,rfl⟩
 exact h _ _ _
theorem aLx(ha:wa.length<=4)(hb:wb.length<=4)(la:pa.length<=20)(lb:pb.length<=20)(w1:InW wa.length pa)(w2:InW wb.length pb):∃rs,Rk (wa++wb).length rs/\rA [ltT wa pa,ltT wb pb,.int c,.bl false]=some (ltT (ws2 rs (wa++wb)) ((pa++pb.map (sft wa.length)).map (ndp rs))):=by
 obtain⟨_,en,rs,rfl,R⟩:=yX (c:=c) (m:=(wa++wb).length) (by rw[aU];lia)
 refine⟨rs,R,?_⟩
 apply hW;unfold aEl;walk_at "b"
 refine aKs ha hb la lb w1 w2 R en fun a b d=>?_
 refine hZ (fun τ C=>C=[(.l,(ws2 rs (wa++wb)).map w3),(.l,((pa++pb.map (sft wa.length)).map (ndp rs)).map pT)]/\∃b d,τ=sQ wa wb pa pb c false [some (.int (wa++wb).length),some (.lst (rs.map T.int)),some (.cell 0),a,some (.cell 1),b,d]) ?_ ?_
 ·refine lQ.mpr (gF.mpr (aCS.mpr (eZ.mpr ⟨_,rfl,aCz.mpr (xA.mpr (fQ (aB7 (k:=0) rfl) ⟨_,rfl,_,rfl,?_⟩))⟩)))
  rw[nM]
  refine⟨_,rfl,iR (fun i τ C=>C=[(.l,(ws2 rs (wa++wb)).map w3),(.l,((pa++pb.map (sft wa.length)).map (ndp rs)).map pT)]/\∃b d,τ=sQ wa wb pa pb c false [some (.int (wa++wb).length),some (.lst (rs.map T.int)),some (.cell 0),a,some (.cell 1),b,d]) ⟨rfl,_,_,rfl⟩ ?_ fun τ C h=>⟨rfl,h⟩⟩
  rintro i x τ C _ ⟨rfl,b,d,rfl⟩;unfold zC
  refine f8.mpr (lQ.mpr (gF.mpr (aCS.mpr (eZ.mpr ⟨_,rfl,xA.mpr (fQ (aB7 (ws:=wa) (ps:=pa) (k:=0) rfl) ⟨_,rfl,aCz.mpr ⟨_,rfl,?_⟩⟩)⟩))))
  rw[nM]
  refine⟨_,rfl,iR (fun i τ C=>C=[(.l,(ws2 rs (wa++wb)).map w3),(.l,((pa++pb.map (sft wa.length)).map (ndp rs)).map pT)]/\∃b d,τ=sQ wa wb pa pb c false [some (.int (wa++wb).length),some (.lst (rs.map T.int)),some (.cell 0),a,some (.cell 1),b,d]) ⟨rfl,_,_,rfl⟩ ?_ fun τ C h=>⟨trivial,h⟩⟩
  rintro i x τ C _ ⟨rfl,b,d,rfl⟩;unfold yQ
  exact f8.mpr (uT (p5.mpr (eZ.mpr ⟨_,rfl,false,rfl,rfl,rfl⟩)) (i6.mpr ⟨trivial,rfl,_,_,rfl⟩))
 rintro _ _ ⟨rfl,b,d,rfl⟩
 refine iV.mpr (fA.mpr (fE.mpr (eZ.mpr ⟨_,rfl,fE.mpr (eZ.mpr ⟨_,rfl,fM.mpr ⟨by simp[lim],?_⟩⟩)⟩)))
 exact aGw (jN (pS rfl nE) (jN (aBs rfl) aB8))
end
end K91
namespace K91
open PySem L2 TL Lib NF K93
abbrev sL(ns:List Int)(wa wb ws:List (Int×Int×Int))(pa pb ps:List (Int×Int))(r:TSt):TSt:=[some (.lst (ns.map T.int)),some (.lst [ltT wa pa,ltT wb pb]),some (.lst (ws.map w3)),some (.lst (ps.map pT))]++r
theorem ix2{τ:TSt}{C:Sto}{a:Nat}{row qm:List T}{i j:Int}{r r' v:T}(h0:τ[a]?=some (some r))(hr:sqT C r=some row)(hv:atI row i=some r')(rn:sqT C r'=some qm)(xq:atI qm j=some v):fIx (fIx (jQ a) (fC (.int i))) (fC (.int j)) τ C=some (v,C):=
 pE (gA.mpr (fQ (K42.ix1 h0 hr hv) (jW.mpr (lY.mpr ⟨_,rn,_,xq,rfl,rfl⟩))))
theorem aFf{C:Sto}{Q:T->Sto->Prop}:wpO (zU .non .non C) Q↔Q (.bl false) C:=by
 unfold wpO zU;constructor
 ·rintro⟨_,_,e,q⟩;cases e;exact q
 ·exact fun q=>⟨_,_,rfl,q⟩
theorem aEA{ws:List (Int×Int×Int)}{ps:List (Int×Int)}:CF (ltT ws ps)=true:=by rw[jU,fL,fL,gB,f9,f9,nE,lN];rfl
theorem aII{ns:List Int}{wa wb:List (Int×Int×Int)}{pa pb:List (Int×Int)}(h0:rY [.lst ((clN ns 0).map T.int),.int 4,.int (10^20)]=some (ltT wa pa))(h1:rY [.lst ((clN ns 1).map T.int),.int 4,.int (10^20)]=some (ltT wb pb)):nV [.lst (ns.map T.int)]=some (.lst [ltT wa pa,ltT wb pb]):=
 aJy (f:=fun k=>if k=0 then ltT wa pa else ltT wb pb) fun k hk=>by
  match k,hk with
  |0,_=>exact⟨aEA,h0⟩
  |1,_=>exact⟨aEA,h1⟩
theorem aFW:∀ns:List Int,ns.length<=63->(∀n∈ns,Builtin.Int.intBits n<=2^20)->aDM [.lst (ns.map T.int)]=some (.bl true):=by
 intro ns hl hb;obtain⟨wa,pa,na,ba,fa,z1,y1,ea,La,la4,lp1,wo1⟩:=lotM (aEr (ns:=ns) (k:=0) (by decide)) (M:=4) (by decide) (by decide) (u:=10^20) (by decide) (by decide);obtain⟨wb,pb,nb,bb,fb,z2,y2,eb,Lb,lb4,lp2,wo2⟩:=lotM (aEr (ns:=ns) (k:=1) (by decide)) (M:=4) (by decide) (by decide) (u:=10^20) (by decide) (by decide);obtain⟨rs,R,eP⟩:=aLx (c:=kD ns 4) la4 lb4 lp1 lp2 La.g.inw Lb.g.inw;have io:=aJq R (ps:=pa++pb.map (sft wa.length));have cv:=aDK La.g.inw Lb.g.inw;obtain⟨nd,bs,fs,z,y,L⟩:=Lot.of (ws:=ws2 rs (wa++wb)) (ps:=(pa++pb.map (sft wa.length)).map (ndp rs)) (by rw[io.l,aU];lia) (by rw[aP,aU,aP];lia) (io.inw cv) (io.acy cv (aJ2 La.g.inw Lb.g.inw La.g.acy Lb.g.acy)) (aLC R fun w hw=>(bM.mp hw).elim (La.g.ok w) (Lb.g.ok w));have T2:=Two.of La.g.inw Lb.g.inw io;change Two (ws2 rs (wa++wb)) ((pa++pb.map (sft wa.length)).map (ndp rs)) wa pa wb pb at T2;clear io cv;generalize ws2 rs (wa++wb)=ws at*;generalize (pa++pb.map (sft wa.length)).map (ndp rs)=ps at*;obtain⟨hz,hy⟩:=T2.ends L La Lb;have hz0:=L.z0;have hzy:=L.zy;have hyb:=L.yb;have hw1:∀{C Q},wpO (iF 1 nV [.lst (ns.map T.int)] C) Q↔Q (.lst [ltT wa pa,ltT wb pb]) C:=fO (aII ea eb) rfl (by walk_at "c");have hw4:∀{C Q},wpO (iF 4 rA [ltT wa pa,ltT wb pb,.int (kD ns 4),.bl false] C) Q↔Q (ltT ws ps) C:=fO eP rfl (by rw[fL,fL,aEA,aEA];rfl);apply hW;unfold aKH;walk_at "b"
 refine hZ (fun τ C=>C=[]/\τ=[some (.lst (ns.map T.int)),some (.lst [ltT wa pa,ltT wb pb]),none,none,none,none,none,none,none,none,none,none,none]) (by simp_arith[↓fB,↓fA,↓hw1]) ?_
 rintro _ _ ⟨rfl,rfl⟩
 refine hZ (fun τ C=>C=[]/\τ=sL ns wa wb ws pa pb ps [none,none,none,none,none,none,none,none,none]) ?_ ?_
 ·have ou:∀τ C,fT 2 gQ (eV Y0 (eV (fI 4) fF)) (some (.lst (ns.map T.int))::τ) C=some (.int (kD ns 4),C):=fun τ C=>pE (by simp_arith[↓fB,↓fA,↓kJ])
  refine f6.mpr (hX.mpr (fE.mpr (fQ (K42.ix1 (a:=1) rfl rfl rfl) (fE.mpr (fQ (K42.ix1 (a:=1) rfl rfl rfl) (fE.mpr (fQ (ou _ _) (fE.mpr (jW.mpr (fM.mpr (hw4.mpr (yO.mpr ⟨_,rfl,rfl,rfl,rfl,rfl⟩))))))))))))
 rintro _ _ ⟨rfl,rfl⟩
 refine hZ (fun τ C=>C=[]/\τ=sL ns wa wb ws pa pb ps [some (.lst [.tup [.int z1,.int y1],.tup [.int z2,.int y2]]),none,none,none,none,none,none,none,none]) ?_ ?_
 ·refine f6.mpr (gF.mpr (j4.mpr (eZ.mpr ⟨_,rfl,_,rfl,by simp[lim],?_⟩)))
  refine gG (xs:=[(wa,pa,z1,y1),(wb,pb,z2,y2)]) (en:=fun l=>ltT l.1 l.2.1) (fun l=>.tup [.int l.2.2.1,.int l.2.2.2]) (fun l hl=>?_) ?_
  rotate_left
  ·exact f8.mpr ⟨rfl,rfl,rfl⟩
  have he:pV [.lst (l.1.map w3),.lst (l.2.1.map pT)]=some (.tup [.int l.2.2.1,.int l.2.2.2]):=by
   simp only[bE,cA,or_false]at hl;rcases hl with rfl|rfl
   ·exact La.en
   ·exact Lb.en
  exact f8.mpr (hX.mpr (fE.mpr (fQ (K42.ix1 (a:=0) rfl rfl rfl) (fE.mpr (fQ (K42.ix1 (a:=0) rfl rfl rfl) (fM.mpr ((fO he rfl K42.aEc).mpr ⟨rfl,rfl⟩)))))))
 rintro _ _ ⟨rfl,rfl⟩
 refine hZ (fun τ C=>C=[]/\τ=sL ns wa wb ws pa pb ps [some (.lst [.tup [.int z1,.int y1],.tup [.int z2,.int y2]]),some (.int z),none,none,none,none,none,none,none]) (f6.mpr (hX.mpr (fE.mpr (fQ (ix2 (a:=4) rfl rfl rfl rfl rfl) (fE.mpr (fQ (ix2 (a:=4) rfl rfl rfl rfl rfl) (fM.mpr (xQ.mpr (f8.mpr ⟨rfl,rfl,by rw[hz];rfl⟩))))))))) ?_
 rintro _ _ ⟨rfl,rfl⟩
 refine hZ (fun τ C=>C=[]/\τ=sL ns wa wb ws pa pb ps [some (.lst [.tup [.int z1,.int y1],.tup [.int z2,.int y2]]),some (.int z),some (.int y),none,none,none,none,none,none]) (f6.mpr (hX.mpr (fE.mpr (fQ (ix2 (a:=4) rfl rfl rfl rfl rfl) (fE.mpr (fQ (ix2 (a:=4) rfl rfl rfl rfl rfl) (fM.mpr (xQ.mpr (f8.mpr ⟨rfl,rfl,by rw[hy];rfl⟩))))))))) ?_
 rintro _ _ ⟨rfl,rfl⟩;generalize T.lst [.tup [.int z1,.int y1],.tup [.int z2,.int y2]]=E4;have w5:∀{C Q},wpO (iF 2 hJ [.lst (ws.map w3),.lst (ps.map pT)] C) Q↔Q (.int z) C:=fO L.le rfl K42.aEc;have w6:∀{C Q},wpO (iF 2 lO [.lst (ws.map w3),.lst (ps.map pT)] C) Q↔Q (.int y) C:=fO L.fe rfl K42.aEc
 refine hZ (fun τ C=>C=[]/\τ=sL ns wa wb ws pa pb ps [some E4,some (.int z),some (.int y),none,none,none,none,none,none]) (uT (by simp_arith[↓fB,↓fA,↓w5,↓w6];simp) (i6.mpr ⟨rfl,rfl,rfl⟩)) ?_
 rintro _ _ ⟨rfl,rfl⟩;have w7:∀{C Q},wpO (iF 3 jI [.lst (ws.map w3),.lst (ps.map pT),.int (z - 1)] C) Q↔Q .non C:=fO ((lV L (e:=z - 1) (by lia)).1 (by lia)) rfl K42.aAH
 refine hZ (fun τ C=>C=[]/\τ=sL ns wa wb ws pa pb ps [some E4,some (.int z),some (.int y),none,none,none,none,none,none]) (uT (by simp_arith[↓fB,↓fA,↓w7,↓aFf]) (i6.mpr ⟨rfl,rfl,rfl⟩)) ?_
 rintro _ _ ⟨rfl,rfl⟩;generalize hc:kD ns 4=c at*;have m1:Bt 20 (70:Int):=.sml (by lia) (by lia) (by decide);have m2:Bt 20 (71:Int):=.sml (by lia) (by lia) (by decide);have hd0:Sm (l7 c 70):=z7;have hd1:Sm (l7 c 71):=z7;obtain⟨dr,yx⟩:∃dr,dr=l7 c 70*l7 c 71^aOi 3+kD ns 62:=⟨_,rfl⟩;have hm:0<=dr%(y - z+1)/\dr%(y - z+1)<y - z+1:=⟨aO6 _ (by lia),aOL _ (by lia)⟩
 refine hZ (fun τ C=>C=[]/\τ=sL ns wa wb ws pa pb ps [some E4,some (.int z),some (.int y),some (.int c),none,none,none,none,none]) (by simp_arith[↓fB,↓fA,↓kJ,hc]) ?_
 rintro _ _ ⟨rfl,rfl⟩
 refine hZ (fun τ C=>C=[]/\τ=sL ns wa wb ws pa pb ps [some E4,some (.int z),some (.int y),some (.int c),some (.int dr),none,none,none,none]) ?_ ?_
 ·simp_arith[↓fB,↓fA,↓kJ,↓rG];rw[<-yx];have h1:=hd1.1;have h2:=hd1.2;have bd1:Bt 31 (l7 c 71):=Bt.of_lt h1 (eJ h2 (by decide));have bd0:Bt 31 (l7 c 70):=Bt.of_lt hd0.1 (eJ hd0.2 (by decide));have bp:Bt (31+31+31) (l7 c 71^aOi 3):=by
   rw[show l7 c 71^aOi 3=l7 c 71*l7 c 71*l7 c 71 by show l7 c 71^3=_;rw[aPy,aPy,aPy,Int.pow_zero,aPh]]
   exact(bd1.mul bd1).mul bd1
  have hn1:(l7 c 71).natAbs<2^64:=by lia
  exact⟨decide_eq_true ⟨by decide,by decide,hn1⟩,xX bd0 bp (by decide),rfl⟩
 rintro _ _ ⟨rfl,rfl⟩
 refine hZ (fun τ C=>C=[]/\τ=sL ns wa wb ws pa pb ps [some E4,some (.int z),some (.int y),some (.int c),some (.int dr),some (.int (z+dr%(y - z+1))),none,none,none]) ?_ ?_
 ·simp_arith[↓fB,↓fA]
  exact decide_eq_true (by lia)
 rintro _ _ ⟨rfl,rfl⟩;generalize dr%(y - z+1)=g at*
 refine hZ (fun τ C=>C=[]/\∃a b d,τ=sL ns wa wb ws pa pb ps [some E4,some (.int z),some (.int y),some (.int c),some (.int dr),some (.int (z+g)),a,b,d]) ?_ ?_
 ·have yz:wpE (fS (fSl (fS (gO (eV Y5 (eV Y9 (eV (iS Y6 (fI 1)) fF))))) (nA (jS Y7 (fI 2))) lF)) (sL ns wa wb ws pa pb ps [some E4,some (.int z),some (.int y),some (.int c),some (.int dr),some (.int (z+g)),none,none,none]) [] fun t C=>t=.lst ((uO [z,z+g,y+1] (some (c%2)) none).map T.int)/\C=[]:=by
   simp_arith[↓fB,↓fA]
   exact⟨by decide,by decide,by rw[<-nM];rfl⟩
  refine lQ.mpr (fQ (pE yz) ⟨_,rfl,?_⟩)
  refine iR (fun i τ C=>C=[]/\∃a b d,τ=sL ns wa wb ws pa pb ps [some E4,some (.int z),some (.int y),some (.int c),some (.int dr),some (.int (z+g)),a,b,d]) ⟨rfl,_,_,_,rfl⟩ ?_ fun τ C h=>⟨rfl,h⟩
  rintro i e τ C hi ⟨rfl,a,b,d,rfl⟩;have hem:=aBp (bD hi);have he:z<=e/\e<2^300:=by
   simp only[bE,cA,or_false]at hem;rcases hem with rfl|rfl|rfl<;>lia
  obtain⟨q1,e1,A1⟩:=(lV La he.2).2 (by lia);obtain⟨q2,e2,A2⟩:=(lV Lb he.2).2 (by lia);obtain⟨q,e3,A⟩:=(lV L he.2).2 he.1;have hq:=T2.price L.g La.g Lb.g A A1 A2;have w8:∀{C Q},wpO (iF 3 jI [.lst (ws.map w3),.lst (ps.map pT),.int e] C) Q↔Q (.int q) C:=fO e3 rfl K42.aAH;unfold aEb
  refine f8.mpr (hZ (fun τ C=>C=[]/\τ=sL ns wa wb ws pa pb ps [some E4,some (.int z),some (.int y),some (.int c),some (.int dr),some (.int (z+g)),some (.int e),some (.lst ([q1,q2].map T.int)),d]) ?_ ?_)
  ·refine f6.mpr (gF.mpr (j4.mpr (eZ.mpr ⟨_,rfl,_,rfl,by simp[lim],?_⟩)))
   refine gG (xs:=[(wa,pa,q1),(wb,pb,q2)]) (en:=fun l=>ltT l.1 l.2.1) (fun l=>.int l.2.2) (fun l hl=>?_) ?_
   rotate_left
   ·exact f8.mpr ⟨rfl,rfl,rfl⟩
   have he:jI [.lst (l.1.map w3),.lst (l.2.1.map pT),.int e]=some (.int l.2.2):=by
    simp only[bE,cA,or_false]at hl;rcases hl with rfl|rfl
    ·exact e1
    ·exact e2
   refine f8.mpr (hX.mpr (fE.mpr (fQ (K42.ix1 (a:=0) rfl rfl rfl) (fE.mpr (fQ (K42.ix1 (a:=0) rfl rfl rfl) (fE.mpr (eZ.mpr ⟨_,rfl,fM.mpr ((fO he rfl K42.aAH).mpr ⟨rfl,rfl⟩)⟩)))))))
  rintro _ _ ⟨rfl,rfl⟩
  refine hZ (fun τ C=>C=[]/\τ=sL ns wa wb ws pa pb ps [some E4,some (.int z),some (.int y),some (.int c),some (.int dr),some (.int (z+g)),some (.int e),some (.lst ([q1,q2].map T.int)),some (.int q)]) (by simp_arith[↓fB,↓fA,↓w8]) ?_
  rintro _ _ ⟨rfl,rfl⟩
  refine uT (aGJ.mpr (aDv.mpr (p5.mpr (hX.mpr (fE.mpr (gF.mpr (j4.mpr (gF.mpr (nQ.mpr (eZ.mpr ⟨_,rfl,gF.mpr (jO.mpr (fE.mpr (eZ.mpr ⟨_,rfl,fM.mpr ⟨by simp[lim],p6.mpr ⟨_,rfl,_,rfl,by simp[lim],_,rfl,by simp[lim],?_⟩⟩⟩)))⟩)))))))))) (i6.mpr ⟨trivial,rfl,_,_,_,rfl⟩)
  refine gG (xs:=[q1,q2,q]) (en:=T.int) (fun _=>.bl true) (fun x hx=>f8.mpr (hX.mpr (fE.mpr (eZ.mpr ⟨_,rfl,fM.mpr (aFI.mpr ⟨rfl,rfl⟩)⟩)))) ?_
  refine fM.mpr (aD8.mpr ⟨_,rfl,_,rfl,true,rfl,?_⟩)
  rw[if_neg (by simp)]
  refine jZ.mpr (gA.mpr (eZ.mpr ⟨_,rfl,hX.mpr (fE.mpr (eZ.mpr ⟨_,rfl,fM.mpr (r9.mpr ⟨_,rfl,_,rfl,by simp,aDW.mpr ⟨_,rfl,?_,rfl⟩⟩)⟩))⟩))
  rw[hq];simp
 rintro _ _ ⟨rfl,a,b,d,rfl⟩
 exact iV.mpr (jW.mpr (iZ lI))
end K91
end
namespace K91
open PySem L2 TL Lib
open HT (top)
local macro_rules| `(tactic|walk_at "bq")=>`(tactic|first|exact fun _ _ _ _ _ _=>len1 fun _=>rfl|exact fun _ _ _ _ _ _=>yH fun _=>len1 fun _=>rfl|exact fun _ _ _ _ _ _=>yH fun _=>yH fun _=>len1 fun _=>rfl|exact fun _ _ _ _ _ _=>yH fun _=>yH fun _=>yH fun _=>len1 fun _=>rfl|exact fun _ _ _ _ _ _=>yH fun _=>yH fun _=>yH fun _=>yH fun _=>len1 fun _=>rfl)
section
variable {P:Program}{w:World}{K:aO}{mg:Str->Option Value}{base:Heap}{f:Addr}{fd:FuncData}
set_option maxHeartbeats 0
theorem aFN:Ky P w K mg base "_law_mixed" "_law_mixed" (top 46) ["_law_cell","_law_k"] 1 (spT K 2 jG):=fun F=>okB (N:=["_law_cell","_law_k","_law_number"]) F gH (g8 gK) fun nd hr=>
 (eX (fK nd 2 (iB (gT (gT (kS (eU 0) e9) (kS (kS (eU 1) (eU 1)) e9)) e9) e9))
  (eX (fK nd 2 (iB (kS (eU 2) (eU 2)) e9))
  (fD (fV (iB (kS (eU 2) (eU 2)) e9)))))
theorem aC9(bf:mg "len"=none):Ky P w K mg base "_law_cell_at" "_law_cell_at" (top 45) ["_law_script","_law_k"] 1 (spT K 2 gQ):=fun F=>okB (N:=["_law_script","_law_k"]) F gH (g8 gK) fun nd hr=>
 (eX (kZ (aIN (eU 1) (lD bf (eT (eU 0) eY))) (fD (fV (fY (eU 0) (eU 1)))) iY)
  (fD (fV e9)))
theorem aBn(gq:i9 P w K mg base 1 "_law_mixed" 2 jG)(ci:i9 P w K mg base 1 "_law_cell_at" 2 gQ)(be:mg "range"=none)(dv:mg "min"=none)(bf:mg "len"=none):Ky P w K mg base "_law_numbers" "_law_numbers" (top 48) ["_law_cells"] 2 (spT K 1 mS):=fun F=>okB (N:=["_law_cells","_law_numbers_here","_law_k","_law_at"]) F gH (g8 gK) fun nd hr=>
 (eX (nU nd 1 be rfl (cok ["_law_k"] ["_law_cells"] [0]) e9 (iJ (by decide)) (fun _ _ _ _=>(iX (show List.Nodup (["_law_k","_law_cells"]:List Str)by decide) 0)) (fun _ _ _ _=>gY) (fun _ _ _ _=>(fP gq (rdn hr) (eT (fP ci (rdn hr) (eT (eU 1) (eT e9 eY))) (eT (gT e9 (eU 0)) eY)))))
  (eX (aCq be rfl e9 (sT dv rfl (eT e9 (eT (lD bf (eT (eU 0) eY)) eY))) (iX nd 2) (eX (fK nd 3 (iB (eU 2) e9))
  (fD (pO (fP gq (rdn hr) (eT (gT (fY (eU 1) (eU 3)) (fY (eU 0) (eU 2))) (eT (eU 2) eY))) (eU 1) (eU 3)))))
  (fD (fV (eU 1)))))
theorem aEQ(gq:i9 P w K mg base 1 "_law_mixed" 2 jG)(be:mg "range"=none):Ky P w K mg base "_law_names" "_law_names" (top 47) ["_law_cell","_law_many"] 2 (spT K 2 lA):=fun F=>okB (N:=["_law_cell","_law_many","_law_points","_law_k"]) F gH (g8 gK) fun nd hr=>
 (eX (fK nd 2 (k6 (gL eY)))
  (eX (lW be rfl (eU 1) (iX nd 3) (fD (aAF (eU 2) (eT (iB (fP gq (rdn hr) (eT (eU 0) (eT (eU 3) eY))) (gT (eU 3) e9)) (eT (eU 3) eY)))))
  (fD (fV (eU 2)))))
theorem aBk(ci:i9 P w K mg base 1 "_law_cell_at" 2 gQ)(be:mg "range"=none)(cn:mg "int"=none):Ky P w K mg base "_law_lot_free" "_law_lot_free" (top 50) ["_law_cells","_law_many","_law_unit"] 2 (spT K 3 oN):=fun F=>okB (N:=["_law_cells","_law_many","_law_unit","_law_base","_law_works","_law_k","_law_left","_law_least","_law_more","_law_order","_law_needs","_law_a"]) F gH (g8 gK) fun nd hr=>
 (eX (fK nd 3 (fY (fR (gL (eT e9 (eT (kS (eU 2) (aGV e9 e9)) eY)))) (iB (kQ (fP ci (rdn hr) (eT (eU 0) (eT e9 eY))) e9) e9)))
  (eX (fK nd 4 (k6 (gL eY)))
  (eX (lW be rfl (eU 1) (iX nd 5) (eX (fK nd 6 (fP ci (rdn hr) (eT (eU 0) (eT (gT e9 (eU 5)) eY))))
  (eX (fK nd 7 (iB (eU 6) (fY (fR (gL (eT e9 (eT (eU 3) eY)))) (pL cn (eT (aFl (eU 3) e9) eY)))))
  (eX (fK nd 6 (aAs (eU 6) (fY (fR (gL (eT e9 (eT (eU 3) eY)))) (pL cn (eT (aFl (eU 3) e9) eY)))))
  (eX (fK nd 8 (iB (eU 6) (fY (fR (gL (eT e9 (eT (eU 3) eY)))) (pL cn (eT (aFl (eU 3) e9) eY)))))
  (eX (fK nd 6 (aAs (eU 6) (fY (fR (gL (eT e9 (eT (eU 3) eY)))) (pL cn (eT (aFl (eU 3) e9) eY)))))
  (fD (n9 (eU 4) (eT (fR (gL (eT (gT (eU 7) (eU 8)) (eT (eU 7) (eT (iB (eU 6) (fY (fR (gL (eT e9 (eT (eU 3) eY)))) (pL cn (eT (aFl (eU 3) e9) eY)))) eY))))) eY)))))))))
  (eX (fK nd 6 (fP ci (rdn hr) (eT (eU 0) (eT e9 eY))))
  (eX (fK nd 9 (k6 (gL eY)))
  (eX (lW be rfl (eU 1) (iX nd 5) (eX (aAF (eU 9) (eT (iB (eU 6) (gT (eU 5) e9)) (eT (eU 5) eY)))
  (fD (fK nd 6 (aAs (eU 6) (gT (eU 5) e9))))))
  (eX (fK nd 10 (k6 (gL eY)))
  (eX (lW be rfl (eU 1) (iX nd 5) (fD (kF rfl (fR (pZ (eU 9) nK (o7 (eU 5)))) (iX nd 11) (eX (kZ (aAr (hu20 hr) (iB (eU 6) e9) e9) (fD (n9 (eU 10) (eT (fR (gL (eT (eU 11) (eT (fY (eU 9) (eU 5)) eY)))) eY))) iY)
  (fD (fK nd 6 (kQ (eU 6) e9)))))))
  (fD (fV (vK (eT (eU 4) (eT (eU 10) eY)))))))))))))
theorem aGD(cn:mg "int"=none):Ky P w K mg base "_law_work" "_law_work" (top 49) ["_law_one","_law_two","_law_three","_law_mode","_law_unit"] 1 (spT K 5 qY):=fun F=>okB (N:=["_law_one","_law_two","_law_three","_law_mode","_law_unit","_law_least","_law_more","_law_price"]) F gH (g8 gK) fun nd hr=>
 (eX (fK nd 5 (iB (eU 0) e9))
  (eX (fK nd 6 (iB (eU 1) e9))
  (eX (fK nd 7 (iB (eU 2) e9))
  (eX (kZ (aAr (hu20 hr) (eU 3) e9) (eX (fK nd 5 (gT (kS (eU 0) (eU 4)) (iB (eU 1) e9)))
  (eX (fK nd 6 (kS (kS (eU 1) (eU 4)) (pL cn (eT (aFl (iB (eU 1) e9) e9) eY))))
  (fD (fK nd 7 (gT (kS (eU 2) (eU 4)) (iB (eU 0) e9)))))) iY)
  (eX (kZ (aAr (hu20 hr) (eU 3) e9) (eX (fK nd 6 (kS (iB (eU 1) e9) (iB (kQ (eU 1) e9) e9)))
  (fD (fK nd 7 (fY (fR (gL (eT e9 (eT e9 (eT e9 (eT (gT e9 (iB (eU 2) e9)) eY)))))) (iB (kQ (eU 2) e9) e9))))) iY)
  (eX (kZ (t_w (aEu (aAr (hu20 hr) (eU 3) e9) (aAg (aAr (hu20 hr) (iB (eU 0) e9) e9)))) (fD (fK nd 5 e9)) iY)
  (fD (fV (fR (gL (eT (gT (eU 5) (eU 6)) (eT (eU 5) (eT (eU 7) eY)))))))))))))
theorem aMh(d62:i9 P w K mg base 2 "_law_numbers" 1 mS)(ci:i9 P w K mg base 1 "_law_cell_at" 2 gQ)(pi:i9 P w K mg base 2 "_law_names" 2 lA)(d64:i9 P w K mg base 2 "_law_lot_free" 3 oN)(d65:i9 P w K mg base 1 "_law_work" 5 qY)(be:mg "range"=none)(dv:mg "min"=none)(cn:mg "int"=none)(bf:mg "len"=none):Ky P w K mg base "_law_lot" "_law_lot" (top 51) ["_law_cells","_law_most","_law_unit"] 3 (spT K 3 rY):=fun F=>okB (N:=["_law_cells","_law_most","_law_unit","_law_numbers_here","_law_first","_law_few","_law_many","_law_cell","_law_works","_law_names_here","_law_needs","_law_k","_law_b","_law_back","_law_a"]) F gH (g8 gK) fun nd hr=>
 (eX (fK nd 3 (fP d62 (rdn hr) (eT (eU 0) eY)))
  (eX (fK nd 4 (fP ci (rdn hr) (eT (eU 0) (eT e9 eY))))
  (eX (fK nd 5 (iB (kQ (eU 4) e9) (sT dv rfl (eT e9 (eT (gT (eU 1) e9) eY)))))
  (eX (fK nd 6 (fY (fR (gL (eT (eU 5) (eT (rE (eU 1) (fY (fR (gL (eT e9 (eT e9 (eT e9 (eT e9 eY)))))) (iB (kQ (eU 4) e9) e9))) (eT (eU 5) (eT (sT dv rfl (eT (eU 1) (eT (gT e9 (iB (kQ (eU 4) e9) e9)) eY))) eY)))))) (iB (eU 4) e9)))
  (eX (fK nd 7 (fP ci (rdn hr) (eT (eU 0) (eT e9 eY))))
  (eX (kZ (aAr (hu20 hr) (iB (kQ (eU 7) e9) e9) e9) (fD (fV (fP d64 (rdn hr) (eT (eU 0) (eT (sT dv rfl (eT (eU 6) (eT (fY (fR (gL (eT e9 (eT e9 eY)))) (pL cn (eT (aN3 (eU 1) e9) eY))) eY))) (eT (eU 2) eY)))))) iY)
  (eX (aFm nd 8 be rfl (cok ["_law_k"] ["_law_numbers_here","_law_cell","_law_unit"] [3,7,2]) (eU 6) (iJ (by decide)) (fun _ _ _ _=>(iX (show List.Nodup (["_law_k","_law_numbers_here","_law_cell","_law_unit"]:List Str)by decide) 0)) (fun _ _ _ _=>gY) (fun _ _ _ _=>(fP d65 (rdn hr) (eT (fY (eU 1) (eU 0)) (eT (fY (eU 1) (gT e9 (eU 0))) (eT (fY (eU 1) (gT e9 (eU 0))) (eT (iB (eU 2) e9) (eT (eU 3) eY))))))))
  (eX (fK nd 9 (fP pi (rdn hr) (eT (fY (eU 3) e9) (eT (eU 6) eY))))
  (eX (fK nd 10 (k6 (gL eY)))
  (eX (aCq be rfl e9 (gT e9 (sT dv rfl (eT e9 (eT (gT (eU 6) (iB (kQ (eU 7) e9) e9)) eY)))) (iX nd 11) (fD (kZ (aHI (eU 6) e9) (eX (fK nd 12 (gT e9 (iB (fY (eU 3) (eU 11)) (rE (eU 6) e9))))
  (eX (fK nd 13 (iB (kQ (fY (eU 3) (eU 11)) e9) (sT dv rfl (eT (eU 12) (eT (fY (fR (gL (eT e9 (eT e9 (eT e9 eY))))) (iB (kQ (eU 7) e9) e9)) eY)))))
  (eX (fK nd 14 (fY (fR (gL (eT (rE (rE (eU 12) e9) (eU 13)) (eT (eU 13) eY)))) (iB (kQ (eU 7) e9) e9)))
  (fD (aAF (eU 10) (eT (iB (kQ (fY (eU 3) (eU 11)) e9) (gT (lD bf (eT (eU 10) eY)) e9)) (eT (fR (gL (eT (fY (eU 9) (eU 14)) (eT (fY (eU 9) (eU 12)) eY)))) eY))))))) iY)))
  (fD (fV (vK (eT (eU 8) (eT (fR (pZ (eU 10) (o7 (iB (kQ (eU 7) e9) e9)) nK)) eY)))))))))))))))
theorem aEE(d66:i9 P w K mg base 3 "_law_lot" 3 rY)(ci:i9 P w K mg base 1 "_law_cell_at" 2 gQ)(be:mg "range"=none):Ky P w K mg base "_law_lots" "_law_lots" (top 55) ["_law_script"] 4 (spT K 1 nV):=fun F=>okB (N:=["_law_script","_law_lots_here","_law_k","_law_cells"]) F gH (g8 gK) fun nd hr=>
 (eX (fK nd 1 (k6 (gL eY)))
  (eX (lW be rfl e9 (iX nd 2) (eX (fK nd 3 (fR (v7 (fR (gL (eT (fP ci (rdn hr) (eT (eU 0) (eT (eU 2) eY))) (eT (fP ci (rdn hr) (eT (eU 0) (eT (gT e9 (eU 2)) eY))) eY)))) (fR (aNg (eU 0) (o7 (gT e9 (eU 2))) (o7 e9))))))
  (fD (n9 (eU 1) (eT (fP d66 (rdn hr) (eT (eU 3) (eT e9 (eT (aGV e9 e9) eY)))) eY)))))
  (fD (fV (eU 1)))))
theorem aGO(pi:i9 P w K mg base 2 "_law_names" 2 lA)(gq:i9 P w K mg base 1 "_law_mixed" 2 jG)(be:mg "range"=none)(bf:mg "len"=none)(xf:mg "list"=none):Ky P w K mg base "_law_put" "_law_put" (top 54) ["_law_one","_law_other","_law_number","_law_behind"] 3 (spT K 4 rA):=fun F=>okB (N:=["_law_one","_law_other","_law_number","_law_behind","_law_many","_law_names_here","_law_works","_law_k","_law_needs","_law_a","_law_b"]) F gH (g8 gK) fun nd hr=>
 (eX (fK nd 4 (gT (lD bf (eT (fY (eU 0) e9) eY)) (lD bf (eT (fY (eU 1) e9) eY))))
  (eX (fK nd 5 (fP pi (rdn hr) (eT (eU 2) (eT (eU 4) eY))))
  (eX (nU nd 6 be rfl (cok ["_law_k"] [] []) (eU 4) (iJ (by decide)) (fun _ _ _ _=>(iX (show List.Nodup (["_law_k"]:List Str)by decide) 0)) (fun _ _ _ _=>gY) (fun _ _ _ _=>(fR (gL eY))))
  (eX (lW be rfl (eU 4) (iX nd 7) (fD (pO (fR (aMo xf (eT (fY (fR (v7 (fY (eU 0) e9) (fY (eU 1) e9))) (eU 7)) eY))) (eU 6) (fY (eU 5) (eU 7)))))
  (eX (aJG nd 8 rfl (cok ["_law_a","_law_b"] ["_law_names_here"] [5]) (fY (eU 0) e9) (aAA (by decide)) (fun _ _ _ _=>(qF rfl (jP (show List.Nodup (["_law_a","_law_b","_law_names_here"]:List Str)by decide) 0 (jP (show List.Nodup (["_law_a","_law_b","_law_names_here"]:List Str)by decide) 1 qE)))) (fun _ _ _ _=>gY) (fun _ _ _ _=>(fR (gL (eT (fY (eU 2) (eU 0)) (eT (fY (eU 2) (eU 1)) eY))))))
  (eX (kF rfl (fY (eU 1) e9) (qF rfl (jP nd 9 (jP nd 10 qE))) (fD (n9 (eU 8) (eT (fR (gL (eT (fY (eU 5) (gT (eU 9) (lD bf (eT (fY (eU 0) e9) eY)))) (eT (fY (eU 5) (gT (eU 10) (lD bf (eT (fY (eU 0) e9) eY)))) eY)))) eY))))
  (eX (kF rfl (fR (pZ (eU 5) nK (o7 (lD bf (eT (fY (eU 0) e9) eY))))) (iX nd 9) (fD (kF rfl (fR (pZ (eU 5) (o7 (lD bf (eT (fY (eU 0) e9) eY))) nK)) (iX nd 10) (fD (kZ (uD (eU 3)) (fD (aAF (eU 8) (eT (iB (fP gq (rdn hr) (eT (eU 2) (eT (gT (gT e9 (kS e9 (eU 9))) (eU 10)) eY))) (gT (lD bf (eT (eU 8) eY)) e9)) (eT (fR (gL (eT (eU 9) (eT (eU 10) eY)))) eY)))) iY)))))
  (fD (fV (vK (eT (eU 6) (eT (eU 8) eY))))))))))))
theorem aC8(be:mg "range"=none)(gj:mg "max"=none)(bf:mg "len"=none):Ky P w K mg base "_law_length" "_law_length" (top 52) ["_law_hours","_law_needs"] 1 (spT K 2 kB):=fun F=>okB (N:=["_law_hours","_law_needs","_law_begins","_law_k","_law_a","_law_b"]) F gH (g8 gK) fun nd hr=>
 (eX (fK nd 2 (k6 (kG rfl (cok ["_law_one"] [] []) (eU 0) (iJ (by decide)) (fun _ _ _ _=>(iX (show List.Nodup (["_law_one"]:List Str)by decide) 0)) (fun _ _ _ _=>gY) (fun _ _ _ _=>e9))))
  (eX (lW be rfl (lD bf (eT (eU 0) eY)) (iX nd 3) (fD (kF rfl (eU 1) (qF rfl (jP nd 4 (jP nd 5 qE))) (fD (pO (aCK gj rfl (eT (fY (eU 2) (eU 5)) (eT (gT (fY (eU 2) (eU 4)) (fY (eU 0) (eU 4))) eY))) (eU 2) (eU 5))))))
  (fD (fV (aLa gj rfl (eT (fR (v7 (fR (aH1 be rfl (cok ["_law_k"] ["_law_begins","_law_hours"] [2,0]) (lD bf (eT (eU 0) eY)) (iJ (by decide)) (fun _ _ _ _=>(iX (show List.Nodup (["_law_k","_law_begins","_law_hours"]:List Str)by decide) 0)) (fun _ _ _ _=>gY) (fun _ _ _ _=>(gT (fY (eU 1) (eU 0)) (fY (eU 2) (eU 0)))))) (fR (gL (eT e9 eY))))) eY))))))
theorem aH8(vz:i9 P w K mg base 1 "_law_length" 2 kB)(cn:mg "int"=none):Ky P w K mg base "_law_ends" "_law_ends" (top 53) ["_law_works","_law_needs"] 2 (spT K 2 pV):=fun F=>okB (N:=["_law_works","_law_needs","_law_least"]) F gH (g8 gK) fun nd hr=>
 (eX (fK nd 2 (fP vz (rdn hr) (eT (fR (kG rfl (cok ["_law_work_here"] [] []) (eU 0) (iJ (by decide)) (fun _ _ _ _=>(iX (show List.Nodup (["_law_work_here"]:List Str)by decide) 0)) (fun _ _ _ _=>gY) (fun _ _ _ _=>(fY (eU 0) e9)))) (eT (eU 1) eY))))
  (fD (fV (vK (eT (eU 2) (eT (fP vz (rdn hr) (eT (fR (kG rfl (cok ["_law_work_here"] [] []) (eU 0) (iJ (by decide)) (fun _ _ _ _=>(iX (show List.Nodup (["_law_work_here"]:List Str)by decide) 0)) (fun _ _ _ _=>gY) (fun _ _ _ _=>(fY (eU 0) (pL cn (eT (aN4 (hu20 hr) (fY (eU 0) e9) e9) eY)))))) (eT (eU 1) eY))) eY))))))
theorem aDn(be:mg "range"=none):Ky P w K mg base "through" "through" (top 38) ["many","rows"] 1 (spT K 2 mH):=fun F=>okB (N:=["many","rows","amounts","row","work"]) F gH (g8 gK) fun nd hr=>
 (eX (nU nd 2 be rfl (cok ["work"] [] []) (eU 0) (iJ (by decide)) (fun _ _ _ _=>(iX (show List.Nodup (["work"]:List Str)by decide) 0)) (fun _ _ _ _=>gY) (fun _ _ _ _=>e9))
  (eX (kF rfl (eU 1) (iX nd 3) (fD (kF rfl (fR (pZ (eU 3) (o7 e9) nK)) (iX nd 4) (fD (aIQ (eU 2) (eU 4) (fY (eU 3) e9))))))
  (fD (fV (eU 2)))))
theorem x9:Ky P w K mg base "work_worth" "work_worth" (top 40) ["work","amount"] 1 (spT K 2 lC):=fun F=>okB (N:=["work","amount"]) F gH (g8 gK) fun nd hr=>
 (eX (kZ (aN8 (eU 1) (fY (eU 0) e9)) (fD (fV (kS (eU 1) (fY (eU 0) e9)))) iY)
  (fD (fV (gT (kS (fY (eU 0) e9) (rE (fY (eU 0) e9) (fY (eU 0) e9))) (kS (eU 1) (fY (eU 0) e9))))))
theorem aIm(d68:i9 P w K mg base 1 "through" 2 mH)(d69:i9 P w K mg base 1 "work_worth" 2 lC)(je:mg "sum"=none)(bf:mg "len"=none)(nl:mg "zip"=none):Ky P w K mg base "worth" "worth" (top 39) ["works","rows","end"] 2 (spT K 3 u6):=fun F=>okB (N:=["works","rows","end","amounts","gained"]) F gH (g8 gK) fun nd hr=>
 (eX (fK nd 3 (fP d68 (rdn hr) (eT (lD bf (eT (eU 0) eY)) (eT (eU 1) eY))))
  (eX (fK nd 4 (aEz je rfl (eT (fR (aEx nl rfl (cok ["work","amount"] [] []) (eU 0) (eU 3) (aAA (by decide)) (fun _ _ _ _=>(qF rfl (jP (show List.Nodup (["work","amount"]:List Str)by decide) 0 (jP (show List.Nodup (["work","amount"]:List Str)by decide) 1 qE)))) (fun _ _ _ _=>gY) (fun _ _ _ _=>(fP d69 (rdn hr) (eT (eU 0) (eT (eU 1) eY)))))) eY)))
  (fD (fV (rE (eU 4) (kS (eU 2) (aEz je rfl (eT (fR (kG rfl (cok ["row"] [] []) (eU 1) (iJ (by decide)) (fun _ _ _ _=>(iX (show List.Nodup (["row"]:List Str)by decide) 0)) (fun _ _ _ _=>gY) (fun _ _ _ _=>(fY (eU 0) e9)))) eY))))))))
theorem uQ(nl:mg "zip"=none):Ky P w K mg base "done_moments" "done_moments" (top 12) ["begins","hours"] 1 (spT K 2 j7):=fun F=>okB (N:=["begins","hours"]) F gH (g8 gK) fun nd hr=>
 (fD (fV (fR (aEx nl rfl (cok ["begin","took"] [] []) (eU 0) (eU 1) (aAA (by decide)) (fun _ _ _ _=>(qF rfl (jP (show List.Nodup (["begin","took"]:List Str)by decide) 0 (jP (show List.Nodup (["begin","took"]:List Str)by decide) 1 qE)))) (fun _ _ _ _=>gY) (fun _ _ _ _=>(gT (eU 0) (eU 1)))))))
theorem aCX:Ky P w K mg base "is_work" "is_work" (top 6) ["many","number"] 1 (spT K 2 kU):=fun F=>okB (N:=["many","number"]) F gH (g8 gK) fun nd hr=>
 (fD (fV (yF e9 (eU 1) (eU 0))))
theorem uM(vy:i9 P w K mg base 1 "is_work" 2 kU)(be:mg "range"=none):Ky P w K mg base "needed_works" "needed_works" (top 7) ["many","needs"] 2 (spT K 2 gM):=fun F=>okB (N:=["many","needs","needed","first","second"]) F gH (g8 gK) fun nd hr=>
 (eX (nU nd 2 be rfl (cok ["work"] [] []) (eU 0) (iJ (by decide)) (fun _ _ _ _=>(iX (show List.Nodup (["work"]:List Str)by decide) 0)) (fun _ _ _ _=>gY) (fun _ _ _ _=>(k6 (gL eY))))
  (eX (kF rfl (eU 1) (qF rfl (jP nd 3 (jP nd 4 qE))) (eX (kZ (t_w (aM1 (aG9 (uD (fP vy (rdn hr) (eT (eU 0) (eT (eU 3) eY))))) (aHf (aG9 (uD (fP vy (rdn hr) (eT (eU 0) (eT (eU 4) eY)))))))) (fD aBv) iY)
  (fD (kZ (aKP (hu20 hr) (eU 3) (fY (eU 2) (eU 4))) (fD (n9 (fY (eU 2) (eU 4)) (eT (eU 3) eY))) iY))))
  (fD (fV (eU 2)))))
theorem v4(be:mg "range"=none)(bf:mg "len"=none)(nk:mg "all"=none):Ky P w K mg base "least_ready" "least_ready" (top 8) ["needed","told"] 1 (spT K 2 lT):=fun F=>okB (N:=["needed","told","work"]) F gH (g8 gK) fun nd hr=>
 (eX (lW be rfl (lD bf (eT (eU 0) eY)) (iX nd 2) (fD (kZ (t_w (aEu (aKP (hu20 hr) (eU 2) (eU 1)) (aAg (uD (aKT nk rfl (eT (fR (kG rfl (cok ["first"] ["told"] [1]) (fY (eU 0) (eU 2)) (iJ (by decide)) (fun _ _ _ _=>(iX (show List.Nodup (["first","told"]:List Str)by decide) 0)) (fun _ _ _ _=>gY) (fun _ _ _ _=>(aOa (hu20 hr) (eU 0) (eU 1))))) eY)))))) (fD (fV (eU 2))) iY)))
  (fD aBv))
theorem aBX(kc:i9 P w K mg base 2 "needed_works" 2 gM)(d72:i9 P w K mg base 1 "least_ready" 2 lT)(bf:mg "len"=none):Ky P w K mg base "order_of" "order_of" (top 5) ["many","needs"] 3 (spT K 2 mK):=fun F=>okB (N:=["many","needs","needed","order"]) F gH (g8 gK) fun nd hr=>
 (eX (fK nd 2 (fP kc (rdn hr) (eT (eU 0) (eT (eU 1) eY))))
  (eX (fK nd 3 (k6 (gL eY)))
  (eX (nY 10 (aIN (lD bf (eT (eU 3) eY)) (eU 0)) (fD (n9 (eU 3) (eT (fP d72 (rdn hr) (eT (eU 2) (eT (eU 3) eY))) eY))))
  (fD (fV (eU 3))))))
theorem aB0(d73:i9 P w K mg base 3 "order_of" 2 mK)(kc:i9 P w K mg base 2 "needed_works" 2 gM)(bf:mg "len"=none)(gj:mg "max"=none):Ky P w K mg base "earliest" "earliest" (top 10) ["hours","needs"] 4 (spT K 2 lP):=fun F=>okB (N:=["hours","needs","order","needed","begins","work"]) F gH (g8 gK) fun nd hr=>
 (eX (fK nd 2 (fP d73 (rdn hr) (eT (lD bf (eT (eU 0) eY)) (eT (eU 1) eY))))
  (eX (fK nd 3 (fP kc (rdn hr) (eT (lD bf (eT (eU 0) eY)) (eT (eU 1) eY))))
  (eX (fK nd 4 (k6 (kG rfl (cok ["work"] [] []) (eU 2) (iJ (by decide)) (fun _ _ _ _=>(iX (show List.Nodup (["work"]:List Str)by decide) 0)) (fun _ _ _ _=>gY) (fun _ _ _ _=>e9))))
  (eX (kF rfl (eU 2) (iX nd 5) (fD (pO (aG7 gj rfl (fR (kG rfl (cok ["first"] ["begins","hours"] [4,0]) (fY (eU 3) (eU 5)) (iJ (by decide)) (fun _ _ _ _=>(iX (show List.Nodup (["first","begins","hours"]:List Str)by decide) 0)) (fun _ _ _ _=>gY) (fun _ _ _ _=>(gT (fY (eU 1) (eU 0)) (fY (eU 2) (eU 0)))))) e9) (eU 4) (eU 5))))
  (fD (fV (eU 4)))))))
theorem aFF(d74:i9 P w K mg base 1 "done_moments" 2 j7)(d75:i9 P w K mg base 4 "earliest" 2 lP)(gj:mg "max"=none):Ky P w K mg base "length" "length" (top 11) ["hours","needs"] 5 (spT K 2 j8):=fun F=>okB (N:=["hours","needs"]) F gH (g8 gK) fun nd hr=>
 (fD (fV (aG7 gj rfl (fP d74 (rdn hr) (eT (fP d75 (rdn hr) (eT (eU 0) (eT (eU 1) eY))) (eT (eU 0) eY))) e9)))
theorem xM:Ky P w K mg base "least_hours" "least_hours" (top 34) ["works"] 1 (spT K 1 kI):=fun F=>okB (N:=["works"]) F gH (g8 gK) fun nd hr=>
 (fD (fV (fR (kG rfl (cok ["work"] [] []) (eU 0) (iJ (by decide)) (fun _ _ _ _=>(iX (show List.Nodup (["work"]:List Str)by decide) 0)) (fun _ _ _ _=>gY) (fun _ _ _ _=>(fY (eU 0) e9))))))
theorem aAb(ph:i9 P w K mg base 5 "length" 2 j8)(d77:i9 P w K mg base 1 "least_hours" 1 kI):Ky P w K mg base "least_end" "least_end" (top 31) ["works","needs"] 6 (spT K 2 hJ):=fun F=>okB (N:=["works","needs"]) F gH (g8 gK) fun nd hr=>
 (fD (fV (fP ph (rdn hr) (eT (fP d77 (rdn hr) (eT (eU 0) eY)) (eT (eU 1) eY)))))
theorem yC:Ky P w K mg base "steps_from" "steps_from" (top 27) ["place","flows"] 1 (spS K 2 lE):=fun F=>okB (N:=["place","flows"]) F jF kA fun nd hr=>
 (fD (fV (fR (aIW rfl (cok ["step"] ["place","flows"] [0,1]) (eU 1) (iJ (by decide)) (fun _ _ _ _=>(iX (show List.Nodup (["step","place","flows"]:List Str)by decide) 0)) (fun _ _ _ _=>(aA8 (t_w (aEu (aAr (hu20 hr) (fY (eU 0) e9) (eU 1)) (aAg (aHI (aAy (hu20 hr) (eU 2) (eU 0)) e9)))))) (fun _ _ _ _=>(eU 0))))))
theorem tI(vx:uI P w K mg base 1 "steps_from" 2 lE)(ke:∃t,mg "SOURCE"=some (.int 0 t)):Ky P w K mg base "flowing_route" "flowing_route" (top 26) ["flows"] 2 (spS K 1 jV):=fun F=>okB (N:=["flows","route","steps"]) F jF kA fun nd hr=>
 (eX (fK nd 1 (k6 (gL eY)))
  (eX (fK nd 2 (kO vx (rdn hr) (eT (mY ke) (eT (eU 0) eY))))
  (eX (nY 40 (uD (eU 2)) (eX (n9 (eU 1) (eT (fY (eU 2) e9) eY))
  (fD (fK nd 2 (kO vx (rdn hr) (eT (fY (fY (eU 2) e9) e9) (eT (eU 0) eY)))))))
  (fD (fV (eU 1))))))
theorem aDi:Ky P w K mg base "work_at" "work_at" (top 20) ["place"] 1 (spT K 1 pX):=fun F=>okB (N:=["place"]) F gH (g8 gK) fun nd hr=>
 (fD (fV (rE (kQ (eU 0) e9) e9)))
theorem aBA(d79:i9 P w K mg base 1 "work_at" 1 pX):Ky P w K mg base "works_on" "works_on" (top 29) ["route"] 2 (spS K 1 oA):=fun F=>okB (N:=["route"]) F jF kA fun nd hr=>
 (fD (fV (fR (kG rfl (cok ["tail","head"] [] []) (fR (aNd (eU 0))) (aAA (by decide)) (fun _ _ _ _=>(qF rfl (jP (show List.Nodup (["tail","head"]:List Str)by decide) 0 (jP (show List.Nodup (["tail","head"]:List Str)by decide) 1 qE)))) (fun _ _ _ _=>gY) (fun _ _ _ _=>(fP d79 (rdn hr) (eT (eU 0) eY)))))))
theorem aCn(dv:mg "min"=none):Ky P w K mg base "take_out" "take_out" (top 28) ["flows","route"] 1 (spS K 2 nZ):=fun F=>okB (N:=["flows","route","amount","step"]) F jF kA fun nd hr=>
 (eX (fK nd 2 (aIi dv rfl (eT (fR (kG rfl (cok ["step"] ["flows"] [0]) (eU 1) (iJ (by decide)) (fun _ _ _ _=>(iX (show List.Nodup (["step","flows"]:List Str)by decide) 0)) (fun _ _ _ _=>gY) (fun _ _ _ _=>(aAy (hu20 hr) (eU 1) (eU 0))))) eY)))
  (eX (kF rfl (eU 1) (iX nd 3) (fD (aDt (hu20 hr) (eU 0) (eU 3) (eU 2))))
  (fD (fV (eU 2)))))
theorem yE(vv:uI P w K mg base 2 "flowing_route" 1 jV)(d81:uI P w K mg base 2 "works_on" 1 oA)(d82:uI P w K mg base 1 "take_out" 2 nZ)(ie:iM K "Net" "pipes")(eh:iM K "Pipe" "tail")(dq:iM K "Pipe" "head")(ef:iM K "Pipe" "room")(ed:iM K "Pipe" "back"):Ky P w K mg base "stream" "Net.stream" (inClass (top 17) 8) ["self"] 3 (spS K 1 l9):=fun F=>okB (N:=["self","flows","pipe","step","rows","route"]) F jF kA fun nd hr=>
 (eX (fK nd 1 aIu)
  (eX (kF rfl (j0 ie (eU 0)) (iX nd 2) (eX (fK nd 3 (vK (eT (j0 eh (eU 2)) (eT (j0 dq (eU 2)) eY))))
  (fD (aEo (hu20 hr) (eU 1) (eU 3) (gT (aKj (hu20 hr) (eU 1) (eU 3) e9) (j0 ef (j0 ed (eU 2))))))))
  (eX (fK nd 4 (k6 (gL eY)))
  (eX (fK nd 5 (kO vv (rdn hr) (eT (eU 1) eY)))
  (eX (nY (10^200) (uD (eU 5)) (eX (n9 (eU 4) (eT (k6 (v7 (fR (gL (eT (kO d82 (rdn hr) (eT (eU 1) (eT (eU 5) eY))) eY))) (kO d81 (rdn hr) (eT (eU 5) eY)))) eY))
  (fD (fK nd 5 (kO vv (rdn hr) (eT (eU 1) eY))))))
  (fD (fV (eU 4))))))))
theorem aBY(eh:iM K "Pipe" "tail")(dq:iM K "Pipe" "head")(kg:iM K "Pipe" "hours")(ef:iM K "Pipe" "room")(ed:iM K "Pipe" "back"):Ky P w K mg base "__init__" "Pipe.__init__" (inClass (top 16) 0) ["self","tail","head","hours","room"] 1 (spS K 5 lL):=fun F=>okB (N:=["self","tail","head","hours","room"]) F jF kA fun nd hr=>
 (eX (n6 eh (eU 0) (eU 1))
  (eX (n6 dq (eU 0) (eU 2))
  (eX (n6 kg (eU 0) (eU 3))
  (eX (n6 ef (eU 0) (eU 4))
  (fD (n6 ed (eU 0) aDI))))))
theorem aDp(vq:aGE P w K mg base 1 "Pipe" 5 lL [] [])(ed:iM K "Pipe" "back")(ie:iM K "Net" "pipes"):Ky P w K mg base "lay" "Net.lay" (inClass (top 17) 1) ["self","tail","head","hours","room"] 3 (spS K 5 jC):=fun F=>okB (N:=["self","tail","head","hours","room","pipe","back"]) F jF kA fun nd hr=>
 (eX (fK nd 5 (aCR vq (rdn hr) (eT (eU 1) (eT (eU 2) (eT (eU 3) (eT (eU 4) eY))))))
  (eX (fK nd 6 (aCR vq (rdn hr) (eT (eU 2) (eT (eU 1) (eT (aNk (eU 3)) (eT e9 eY))))))
  (eX (n6 ed (eU 5) (eU 6))
  (eX (n6 ed (eU 6) (eU 5))
  (fD (n9 (j0 ie (eU 0)) (eT (eU 5) eY)))))))
theorem vI:Ky P w K mg base "begin_place" "begin_place" (top 18) ["work"] 1 (spT K 1 iI):=fun F=>okB (N:=["work"]) F gH (g8 gK) fun nd hr=>
 (fD (fV (gT (kS e9 (eU 0)) e9)))
theorem yL:Ky P w K mg base "done_place" "done_place" (top 19) ["work"] 1 (spT K 1 iW):=fun F=>okB (N:=["work"]) F gH (g8 gK) fun nd hr=>
 (fD (fV (gT (kS e9 (eU 0)) e9)))
theorem aCT{dV:Value}(ml:sM P w K mg base 3 "Net" "lay" 5 jC)(kc:i9 P w K mg base 2 "needed_works" 2 gM)(pe:i9 P w K mg base 1 "begin_place" 1 iI)(pd:i9 P w K mg base 1 "done_place" 1 iW)(ie:iM K "Net" "pipes")(pj:iM K "Net" "places")(ux:mg "enumerate"=none)(bf:mg "len"=none)(je:mg "sum"=none)(ke:∃t,mg "SOURCE"=some (.int 0 t))(ic:∃t,mg "SINK"=some (.int 1 t))(F:aGX K "__init__" "Net.__init__" (inClass (top 17) 0) f fd dV):mX P w K mg base CX0 4 f fd ["self","works","needs","bonus"] (spS K 4 nG):=okD (N:=["self","works","needs","bonus","plenty","number","work","second","firsts","first"]) F jF kA fun nd hr=>
 (eX (n6 ie (eU 0) (k6 (gL eY)))
  (eX (n6 pj (eU 0) (gT (kS e9 (lD bf (eT (eU 1) eY))) e9))
  (eX (fK nd 4 (gT (gT (aEz je rfl (eT (fR (kG rfl (cok ["work"] [] []) (eU 1) (iJ (by decide)) (fun _ _ _ _=>(iX (show List.Nodup (["work"]:List Str)by decide) 0)) (fun _ _ _ _=>gY) (fun _ _ _ _=>(fY (eU 0) e9)))) eY)) (eU 3)) e9))
  (eX (aDF ux rfl (eU 1) (qF rfl (jP nd 5 (jP nd 6 qE))) (eX (nB (aBL ml (rdn hr) (eU 0) (eT (mY ke) (eT (fP pe (rdn hr) (eT (eU 5) eY)) (eT e9 (eT (eU 4) eY))))))
  (eX (nB (aBL ml (rdn hr) (eU 0) (eT (fP pe (rdn hr) (eT (eU 5) eY)) (eT (fP pd (rdn hr) (eT (eU 5) eY)) (eT (fY (eU 6) e9) (eT (fY (eU 6) e9) eY))))))
  (eX (nB (aBL ml (rdn hr) (eU 0) (eT (fP pe (rdn hr) (eT (eU 5) eY)) (eT (fP pd (rdn hr) (eT (eU 5) eY)) (eT (fY (eU 6) e9) (eT (eU 4) eY))))))
  (fD (nB (aBL ml (rdn hr) (eU 0) (eT (fP pd (rdn hr) (eT (eU 5) eY)) (eT (mY ic) (eT e9 (eT (eU 4) eY)))))))))))
  (fD (aDF ux rfl (fP kc (rdn hr) (eT (lD bf (eT (eU 1) eY)) (eT (eU 2) eY))) (qF rfl (jP nd 7 (jP nd 8 qE))) (fD (kF rfl (eU 8) (iX nd 9) (fD (nB (aBL ml (rdn hr) (eU 0) (eT (fP pd (rdn hr) (eT (eU 9) eY)) (eT (fP pe (rdn hr) (eT (eU 7) eY)) (eT e9 (eT (eU 4) eY)))))))))))))))
theorem rW(ie:iM K "Net" "pipes")(ed:iM K "Pipe" "back")(ef:iM K "Pipe" "room"):Ky P w K mg base "open_pipes" "Net.open_pipes" (inClass (top 17) 6) ["self"] 1 (spS K 1 i0):=fun F=>okB (N:=["self","both"]) F jF kA fun nd hr=>
 (eX (fK nd 1 (fR (v7 (j0 ie (eU 0)) (fR (kG rfl (cok ["pipe"] [] []) (j0 ie (eU 0)) (iJ (by decide)) (fun _ _ _ _=>(iX (show List.Nodup (["pipe"]:List Str)by decide) 0)) (fun _ _ _ _=>gY) (fun _ _ _ _=>(j0 ed (eU 0))))))))
  (fD (fV (fR (kG rfl (cok ["pipe"] [] []) (eU 1) (iJ (by decide)) (fun _ _ _ _=>(iX (show List.Nodup (["pipe"]:List Str)by decide) 0)) (fun _ _ _ _=>(aA8 (aHI (j0 ef (eU 0)) e9))) (fun _ _ _ _=>(eU 0)))))))
theorem tS(kg:iM K "Pipe" "hours")(eh:iM K "Pipe" "tail")(dq:iM K "Pipe" "head"):Ky P w K mg base "raise_moments" "raise_moments" (top 21) ["moments","pipes"] 1 (spS K 2 kK):=fun F=>okB (N:=["moments","pipes","raised","pipe","reached"]) F jF kA fun nd hr=>
 (eX (fK nd 2 aC7)
  (eX (kF rfl (eU 1) (iX nd 3) (eX (fK nd 4 (gT (fY (eU 0) (j0 eh (eU 3))) (j0 kg (eU 3))))
  (fD (kZ (aHI (eU 4) (fY (eU 0) (j0 dq (eU 3)))) (eX (pO (eU 4) (eU 0) (j0 dq (eU 3)))
  (fD (fK nd 2 aC7))) iY))))
  (fD (fV (eU 2)))))
theorem wO(oz:sM P w K mg base 1 "Net" "open_pipes" 1 i0)(d88:uI P w K mg base 1 "raise_moments" 2 kK)(pj:iM K "Net" "places")(be:mg "range"=none)(ic:∃t,mg "SINK"=some (.int 1 t)):Ky P w K mg base "moments" "Net.moments" (inClass (top 17) 4) ["self","end"] 2 (spS K 2 jX):=fun F=>okB (N:=["self","end","found","pipes"]) F jF kA fun nd hr=>
 (eX (nU nd 2 be rfl (cok ["place"] [] []) (j0 pj (eU 0)) (iJ (by decide)) (fun _ _ _ _=>(iX (show List.Nodup (["place"]:List Str)by decide) 0)) (fun _ _ _ _=>gY) (fun _ _ _ _=>e9))
  (eX (pO (eU 1) (eU 2) (mY ic))
  (eX (fK nd 3 (aHh oz (rdn hr) (eU 0)))
  (eX (nY (10^200) (uD (kO d88 (rdn hr) (eT (eU 2) (eT (eU 3) eY)))) (fD aIH))
  (fD (fV (eU 2)))))))
theorem vT(eh:iM K "Pipe" "tail")(dq:iM K "Pipe" "head"):Ky P w K mg base "next_routes" "next_routes" (top 23) ["routes","pipes"] 1 (spS K 2 lU):=fun F=>okB (N:=["routes","pipes","fresh","pipe"]) F jF kA fun nd hr=>
 (eX (fK nd 2 aJp)
  (eX (kF rfl (eU 1) (iX nd 3) (fD (kZ (t_w (aEu (aNZ (hu20 hr) (j0 eh (eU 3)) (eU 0)) (aAg (aFX (hu20 hr) (j0 dq (eU 3)) (eU 0))))) (fD (aEo (hu20 hr) (eU 2) (j0 dq (eU 3)) (fR (v7 (aAy (hu20 hr) (eU 0) (j0 eh (eU 3))) (fR (gL (eT (eU 3) eY))))))) iY)))
  (fD (fV (eU 2)))))
theorem vR(zx:uI P w K mg base 1 "next_routes" 2 lU)(kg:iM K "Pipe" "hours")(dq:iM K "Pipe" "head")(eh:iM K "Pipe" "tail")(ke:∃t,mg "SOURCE"=some (.int 0 t))(ic:∃t,mg "SINK"=some (.int 1 t)):Ky P w K mg base "tight_route" "tight_route" (top 22) ["pipes","moments"] 2 (spS K 2 lS):=fun F=>okB (N:=["pipes","moments","tight","routes"]) F jF kA fun nd hr=>
 (eX (aAe nd 2 rfl (cok ["pipe"] ["moments"] [1]) (eU 0) (iJ (by decide)) (fun _ _ _ _=>(iX (show List.Nodup (["pipe","moments"]:List Str)by decide) 0)) (fun _ _ _ _=>(aA8 (aAr (hu20 hr) (gT (fY (eU 1) (j0 eh (eU 0))) (j0 kg (eU 0))) (fY (eU 1) (j0 dq (eU 0)))))) (fun _ _ _ _=>(eU 0)))
  (eX (fK nd 3 (aKf (mY ke) (fR (gL eY))))
  (eX (nY 40 (aFX (hu20 hr) (mY ic) (eU 3)) (fD (nB (aMb (eU 3) (kO zx (rdn hr) (eT (eU 3) (eT (eU 2) eY)))))))
  (fD (fV (aAy (hu20 hr) (eU 3) (mY ic)))))))
theorem aJ7(ef:iM K "Pipe" "room")(ed:iM K "Pipe" "back"):Ky P w K mg base "pour" "pour" (top 25) ["route","amount"] 1 (spS K 2 aA2):=fun F=>okB (N:=["route","amount","pipe"]) F jF kA fun nd hr=>
 (fD (kF rfl (eU 0) (iX nd 2) (eX (aE1 ef (eU 2) (eU 1))
  (fD (aE0 ef (j0 ed (eU 2)) (eU 1))))))
theorem aCx(ef:iM K "Pipe" "room")(dv:mg "min"=none):Ky P w K mg base "room_on" "room_on" (top 24) ["route"] 1 (spS K 1 pY):=fun F=>okB (N:=["route"]) F jF kA fun nd hr=>
 (fD (fV (aIi dv rfl (eT (fR (kG rfl (cok ["pipe"] [] []) (eU 0) (iJ (by decide)) (fun _ _ _ _=>(iX (show List.Nodup (["pipe"]:List Str)by decide) 0)) (fun _ _ _ _=>gY) (fun _ _ _ _=>(j0 ef (eU 0))))) eY))))
theorem aB9(vp:sM P w K mg base 2 "Net" "moments" 2 jX)(zw:uI P w K mg base 2 "tight_route" 2 lS)(zv:uI P w K mg base 1 "pour" 2 aA2)(oz:sM P w K mg base 1 "Net" "open_pipes" 1 i0)(zu:uI P w K mg base 1 "room_on" 1 pY)(ic:∃t,mg "SINK"=some (.int 1 t)):Ky P w K mg base "fill" "Net.fill" (inClass (top 17) 2) ["self","end"] 3 (spS K 2 oB):=fun F=>okB (N:=["self","end","moments","route"]) F jF kA fun nd hr=>
 (eX (fK nd 2 (aBL vp (rdn hr) (eU 0) (eT e9 eY)))
  (fD (nY (10^200) (aHI (fY (eU 2) (mY ic)) (eU 1)) (eX (fK nd 3 (kO zw (rdn hr) (eT (aHh oz (rdn hr) (eU 0)) (eT (eU 2) eY))))
  (eX (nB (kO zv (rdn hr) (eT (eU 3) (eT (kO zu (rdn hr) (eT (eU 3) eY)) eY))))
  (fD (fK nd 2 (aBL vp (rdn hr) (eU 0) (eT e9 eY)))))))))
theorem yB(zt:aGE P w K mg base 4 "Net" 4 nG [.int 0] [.int 0])(zr:sM P w K mg base 3 "Net" "fill" 2 oB):Ky P w K mg base "filled_net" "filled_net" (top 36) ["works","needs","end"] 6 (spS K 3 l6):=fun F=>okB (N:=["works","needs","end","net"]) F jF kA fun nd hr=>
 (eX (fK nd 3 (aCR zt (rdn hr) (eT (eU 0) (eT (eU 1) eY))))
  (eX (nB (aBL zr (rdn hr) (eU 3) (eT (eU 2) eY)))
  (fD (fV (eU 3)))))
theorem aAd(zq:sM P w K mg base 3 "Net" "stream" 1 l9)(kb:i9 P w K mg base 6 "least_end" 2 hJ)(zp:uI P w K mg base 6 "filled_net" 3 l6):Ky P w K mg base "stream_at" "stream_at" (top 33) ["works","needs","end"] 7 (aCC K 3 j9):=fun F=>okB (N:=["works","needs","end"]) F aGN (aJi aIc) fun nd hr=>
 (eX (kZ (aIN (eU 2) (fP kb (rdn hr) (eT (eU 0) (eT (eU 1) eY)))) (fD (fV aDI)) iY)
  (fD (fV (aHh zq (rdn hr) (kO zp (rdn hr) (eT (eU 0) (eT (eU 1) (eT (eU 2) eY))))))))
theorem aBb(zo:i9 P w K mg base 2 "worth" 3 u6)(kb:i9 P w K mg base 6 "least_end" 2 hJ)(mx:aFY P w K mg base 7 "stream_at" 3 j9):Ky P w K mg base "price_at" "price_at" (top 42) ["works","needs","end"] 8 (spT K 3 jI):=fun F=>okB (N:=["works","needs","end"]) F gH (g8 gK) fun nd hr=>
 (eX (kZ (aIN (eU 2) (fP kb (rdn hr) (eT (eU 0) (eT (eU 1) eY)))) (fD (fV aDI)) iY)
  (fD (fV (fP zo (rdn hr) (eT (eU 0) (eT (aIx mx (rdn hr) (eT (eU 0) (eT (eU 1) (eT (eU 2) eY)))) (eT (eU 2) eY)))))))
theorem x6:Ky P w K mg base "free_hours" "free_hours" (top 35) ["work"] 1 (spT K 1 k8):=fun F=>okB (N:=["work"]) F gH (g8 gK) fun nd hr=>
 (fD (fV (aNe (aAr (hu20 hr) (fY (eU 0) e9) e9) (fY (eU 0) e9) (fY (eU 0) e9))))
theorem aBy(ph:i9 P w K mg base 5 "length" 2 j8)(mw:i9 P w K mg base 1 "free_hours" 1 k8):Ky P w K mg base "free_end" "free_end" (top 32) ["works","needs"] 6 (spT K 2 lO):=fun F=>okB (N:=["works","needs"]) F gH (g8 gK) fun nd hr=>
 (fD (fV (fP ph (rdn hr) (eT (fR (kG rfl (cok ["work"] [] []) (eU 0) (iJ (by decide)) (fun _ _ _ _=>(iX (show List.Nodup (["work"]:List Str)by decide) 0)) (fun _ _ _ _=>gY) (fun _ _ _ _=>(fP mw (rdn hr) (eT (eU 0) eY))))) (eT (eU 1) eY)))))
theorem aF1(uw:mg "isinstance"=none)(cn:mg "int"=none)(xc:mg "bool"=none):Ky P w K mg base "_law_whole" "_law_whole" (top 44) ["_law_found"] 1 (spT K 1 rS):=fun F=>okB (N:=["_law_found"]) F gH (g8 gK) fun nd hr=>
 (fD (fV (aNh (aFJ uw cn (eU 0)) (aNl (aNL (aCD uw xc (eU 0)))))))
theorem aMu(mv:i9 P w K mg base 4 "_law_lots" 1 nV)(ms:i9 P w K mg base 3 "_law_put" 4 rA)(ci:i9 P w K mg base 1 "_law_cell_at" 2 gQ)(mr:i9 P w K mg base 2 "_law_ends" 2 pV)(jc:i9 P w K mg base 8 "price_at" 3 jI)(kb:i9 P w K mg base 6 "least_end" 2 hJ)(mn:i9 P w K mg base 6 "free_end" 2 lO)(gq:i9 P w K mg base 1 "_law_mixed" 2 jG)(mm:i9 P w K mg base 1 "_law_whole" 1 rS)(gj:mg "max"=none)(nk:mg "all"=none)(je:mg "sum"=none):Ky P w K mg base "law" "law" (top 56) ["_law_script"] 9 (spT K 1 aDM):=fun F=>okB (N:=["_law_script","_law_lots_here","_law_works","_law_needs","_law_ends_here","_law_least","_law_free","_law_cell","_law_drawn","_law_amid","_law_end","_law_prices","_law_both"]) F gH (g8 gK) fun nd hr=>
 (eX (fK nd 1 (fP mv (rdn hr) (eT (eU 0) eY)))
  (eX (aLH (fP ms (rdn hr) (eT (fY (eU 1) e9) (eT (fY (eU 1) e9) (eT (fP ci (rdn hr) (eT (eU 0) (eT e9 eY))) (eT aC7 eY))))) (qF rfl (jP nd 2 (jP nd 3 qE))))
  (eX (aAe nd 4 rfl (cok ["_law_lot_here"] [] []) (eU 1) (iJ (by decide)) (fun _ _ _ _=>(iX (show List.Nodup (["_law_lot_here"]:List Str)by decide) 0)) (fun _ _ _ _=>gY) (fun _ _ _ _=>(fP mr (rdn hr) (eT (fY (eU 0) e9) (eT (fY (eU 0) e9) eY)))))
  (eX (fK nd 5 (aCK gj rfl (eT (fY (fY (eU 4) e9) e9) (eT (fY (fY (eU 4) e9) e9) eY))))
  (eX (fK nd 6 (aCK gj rfl (eT (fY (fY (eU 4) e9) e9) (eT (fY (fY (eU 4) e9) e9) eY))))
  (eX (kZ (t_w (aM1 (aLR (hu20 hr) (fP kb (rdn hr) (eT (eU 2) (eT (eU 3) eY))) (eU 5)) (aHf (aLR (hu20 hr) (fP mn (rdn hr) (eT (eU 2) (eT (eU 3) eY))) (eU 6))))) (fD (fV aC7)) iY)
  (eX (kZ (aMX (fP jc (rdn hr) (eT (eU 2) (eT (eU 3) (eT (rE (eU 5) e9) eY)))) aDI) (fD (fV aC7)) iY)
  (eX (fK nd 7 (fP ci (rdn hr) (eT (eU 0) (eT e9 eY))))
  (eX (fK nd 8 (gT (kS (fP gq (rdn hr) (eT (eU 7) (eT e9 eY))) (aGV (fP gq (rdn hr) (eT (eU 7) (eT e9 eY))) e9)) (fP ci (rdn hr) (eT (eU 0) (eT e9 eY)))))
  (eX (fK nd 9 (gT (eU 5) (iB (eU 8) (gT (rE (eU 6) (eU 5)) e9))))
  (eX (kF rfl (fR (pZ (fR (gL (eT (eU 5) (eT (eU 9) (eT (gT (eU 6) e9) eY))))) (o7 (iB (eU 7) e9)) nK)) (iX nd 10) (eX (aAe nd 11 rfl (cok ["_law_lot_here"] ["_law_end"] [10]) (eU 1) (iJ (by decide)) (fun _ _ _ _=>(iX (show List.Nodup (["_law_lot_here","_law_end"]:List Str)by decide) 0)) (fun _ _ _ _=>gY) (fun _ _ _ _=>(fP jc (rdn hr) (eT (fY (eU 0) e9) (eT (fY (eU 0) e9) (eT (eU 1) eY))))))
  (eX (fK nd 12 (fP jc (rdn hr) (eT (eU 2) (eT (eU 3) (eT (eU 10) eY)))))
  (fD (kZ (t_w (aM1 (aG9 (uD (aKT nk rfl (eT (fR (kG rfl (cok ["_law_price"] [] []) (fR (v7 (eU 11) (fR (gL (eT (eU 12) eY))))) (iJ (by decide)) (fun _ _ _ _=>(iX (show List.Nodup (["_law_price"]:List Str)by decide) 0)) (fun _ _ _ _=>gY) (fun _ _ _ _=>(fP mm (rdn hr) (eT (eU 0) eY))))) eY)))) (aHf (aLR (hu20 hr) (eU 12) (aEz je rfl (eT (eU 11) eY)))))) (fD (fV aC7)) iY)))))
  (fD (fV aC7)))))))))))))
end
set_option maxHeartbeats 0 in
theorem aLO{l:aPH}{w:World}{K:aO}{h:Heap}{mg:Str->Option Value}{fa:Addr}(X:K.In h)(G:h.Ns mainGlobals mg)(hfa:mg "law"=some (.ref fa))
 {mz:Addr}(h60:Cm K "Pipe" mz)
 {jm:Addr}(h61:Cm K "Net" jm)
 (v60:b5 K (.ref jm) "pipes"=some none)
 (v61:b5 K (.ref mz) "tail"=some none)
 (v62:b5 K (.ref mz) "head"=some none)
 (v63:b5 K (.ref mz) "room"=some none)
 (v64:b5 K (.ref mz) "back"=some none)
 (v65:b5 K (.ref mz) "hours"=some none)
 (v66:b5 K (.ref jm) "places"=some none)
 (a1:Nm K "_law_mixed" (top 46))
 (a2:Nm K "_law_cell_at" (top 45))
 (a3:Nm K "_law_numbers" (top 48))
 (a4:Nm K "_law_names" (top 47))
 (a5:Nm K "_law_lot_free" (top 50))
 (a6:Nm K "_law_work" (top 49))
 (a7:Nm K "_law_lot" (top 51))
 (a8:Nm K "_law_lots" (top 55))
 (a9:Nm K "_law_put" (top 54))
 (a10:Nm K "_law_length" (top 52))
 (a11:Nm K "_law_ends" (top 53))
 (a12:Nm K "through" (top 38))
 (a13:Nm K "work_worth" (top 40))
 (a14:Nm K "worth" (top 39))
 (a15:Nm K "done_moments" (top 12))
 (a16:Nm K "is_work" (top 6))
 (a17:Nm K "needed_works" (top 7))
 (a18:Nm K "least_ready" (top 8))
 (a19:Nm K "order_of" (top 5))
 (a20:Nm K "earliest" (top 10))
 (a21:Nm K "length" (top 11))
 (a22:Nm K "least_hours" (top 34))
 (a23:Nm K "least_end" (top 31))
 (a24:Nm K "steps_from" (top 27))
 (a25:Nm K "flowing_route" (top 26))
 (a26:Nm K "work_at" (top 20))
 (a27:Nm K "works_on" (top 29))
 (a28:Nm K "take_out" (top 28))
 (a29:Mm K jm "stream" "Net.stream" (inClass (top 17) 8))
 (a30:Mm K mz "__init__" "Pipe.__init__" (inClass (top 16) 0))
 (a31:Mm K jm "lay" "Net.lay" (inClass (top 17) 1))
 (a32:Nm K "begin_place" (top 18))
 (a33:Nm K "done_place" (top 19))
 {ug:Addr}{wt an34:Option Addr}{wf:Array (Option Value)}{wv xi zn wj uk ct34:Value}
 {T34:Addr}
 (a34:b5 K (.ref jm) "__init__"=some (some (.ref ug)))(l34:K.lookup ug=some ⟨wv,wt,.func (cL "__init__" "Net.__init__" (jM (inClass (top 17) 0)) (iU (inClass (top 17) 0)) (gC (inClass (top 17) 0)) (.ref T34) xi zn wj an34 uk ct34),wf⟩)(c34:dL K uk "Net.__init__"=true)(k34:cN K (.ref ug)=true)
 (n34:aOq K (.ref ug)=true)
 {qe:Value}{qd:Option Addr}{wd:Nat}{qc:Array (Option Value)}{py:Tok}(d34:K.lookup T34=some ⟨qe,qd,.seq #[.int 0 py] wd,qc⟩)
 (a35:Mm K jm "open_pipes" "Net.open_pipes" (inClass (top 17) 6))
 (a36:Nm K "raise_moments" (top 21))
 (a37:Mm K jm "moments" "Net.moments" (inClass (top 17) 4))
 (a38:Nm K "next_routes" (top 23))
 (a39:Nm K "tight_route" (top 22))
 (a40:Nm K "pour" (top 25))
 (a41:Nm K "room_on" (top 24))
 (a42:Mm K jm "fill" "Net.fill" (inClass (top 17) 2))
 (a43:Nm K "filled_net" (top 36))
 (a44:Nm K "stream_at" (top 33))
 (a45:Nm K "price_at" (top 42))
 (a46:Nm K "free_hours" (top 35))
 (a47:Nm K "free_end" (top 32))
 (a48:Nm K "_law_whole" (top 44))
 {zh:Addr}{wn ul:Option Addr}{we:Array (Option Value)}{wu qw uh qp my ui:Value}
 (a49:bW K mainGlobals "law"=some (some (.ref zh)))(l49:K.lookup zh=some ⟨wu,wn,.func (cL "law" "law" (jM (top 56)) (iU (top 56)) (gC (top 56)) .none qw uh qp ul my ui),we⟩)(c49:dL K my "law"=true)(k49:cN K (.ref zh)=true)
 (z60:bW K mainGlobals "len"=some none)
 (z61:bW K mainGlobals "range"=some none)
 (z62:bW K mainGlobals "min"=some none)
 (z63:bW K mainGlobals "int"=some none)
 (z64:bW K mainGlobals "list"=some none)
 (z65:bW K mainGlobals "max"=some none)
 (z66:bW K mainGlobals "sum"=some none)
 (z67:bW K mainGlobals "zip"=some none)
 (z68:bW K mainGlobals "all"=some none)
 (z69:bW K mainGlobals "enumerate"=some none)
 (z70:bW K mainGlobals "isinstance"=some none)
 (z71:bW K mainGlobals "bool"=some none)
 {u60:Tok}(y60:bW K mainGlobals "SOURCE"=some (some (.int 0 u60)))
 {u61:Tok}(y61:bW K mainGlobals "SINK"=some (some (.int 1 u61))):
 ∃fd:FuncData,(∀(s:Shared)(v:Value),BindsTo s fd ⟨[v],[]⟩ [("_law_script",v)])/\∀base:Heap,K.In base->base.Ns mainGlobals mg->mX l.prog w K mg base CX0 9 fa fd ["_law_script"] (spT K 1 aDM):=by
 have e:=hfa.symm.trans (aOm X G a49);cases e;have ie:iM K "Net" "pipes":=iM.of h61.e h61.c v60;have eh:iM K "Pipe" "tail":=iM.of h60.e h60.c v61;have dq:iM K "Pipe" "head":=iM.of h60.e h60.c v62;have ef:iM K "Pipe" "room":=iM.of h60.e h60.c v63;have ed:iM K "Pipe" "back":=iM.of h60.e h60.c v64;have kg:iM K "Pipe" "hours":=iM.of h60.e h60.c v65;have pj:iM K "Net" "places":=iM.of h61.e h61.c v66;have bf:=cG X G z60;have be:=cG X G z61;have dv:=cG X G z62;have cn:=cG X G z63;have xf:=cG X G z64;have gj:=cG X G z65;have je:=cG X G z66;have nl:=cG X G z67;have nk:=cG X G z68;have ux:=cG X G z69;have uw:=cG X G z70;have xc:=cG X G z71;have ke:∃t,mg "SOURCE"=some (.int 0 t):=⟨_,aOm X G y60⟩;have ic:∃t,mg "SINK"=some (.int 1 t):=⟨_,aOm X G y61⟩
 refine⟨cL "law" "law" (jM (top 56)) (iU (top 56)) (gC (top 56)) .none qw uh qp ul my ui,fun s v=>.of_eq rfl,fun base _ _=>?_⟩
 have xT:= @mkT l.prog w K mg base h;have xS:= @mkS l.prog w K mg base h;have px:= @mkMe l.prog w K mg base;have xI:= @mkI l.prog w K mg base h;have xRc:= @mkRc l.prog w K mg base h;have gq:=xT X G a1 aFN;have ci:=xT X G a2 (aC9 bf);have d62:=xT X G a3 (aBn gq ci be dv bf);have pi:=xT X G a4 (aEQ gq be);have d64:=xT X G a5 (aBk ci be cn);have d65:=xT X G a6 (aGD cn);have d66:=xT X G a7 (aMh d62 ci pi d64 d65 be dv cn bf);have mv:=xT X G a8 (aEE d66 ci be);have ms:=xT X G a9 (aGO pi gq be bf xf);have vz:=xT X G a10 (aC8 be gj bf);have mr:=xT X G a11 (aH8 vz cn);have d68:=xT X G a12 (aDn be);have d69:=xT X G a13 x9;have zo:=xT X G a14 (aIm d68 d69 je bf nl);have d74:=xT X G a15 (uQ nl);have vy:=xT X G a16 aCX;have kc:=xT X G a17 (uM vy be);have d72:=xT X G a18 (v4 be bf nk);have d73:=xT X G a19 (aBX kc d72 bf);have d75:=xT X G a20 (aB0 d73 kc bf gj);have ph:=xT X G a21 (aFF d74 d75 gj);have d77:=xT X G a22 xM;have kb:=xT X G a23 (aAb ph d77);have vx:=xS X G a24 yC;have vv:=xS X G a25 (tI vx ke);have d79:=xT X G a26 aDi;have d81:=xS X G a27 (aBA d79);have d82:=xS X G a28 (aCn dv);have zq:=px h61 a29 (yE vv d81 d82 ie eh dq ef ed);have vq:=xI X G h60 a30 (aBY eh dq kg ef ed);have ml:=px h61 a31 (aDp vq ed ie);have pe:=xT X G a32 vI;have pd:=xT X G a33 yL;have F34:=aKq (st:=(inClass (top 17) 0)) l34 c34;have zt:aGE l.prog w K mg base 4 "Net" 4 nG [.int 0] [.int 0]:=⟨⟨jm,ug,_,["self","works","needs","bonus"],[.int 0 py],h61.e,aOm X G h61.e,⟨h61.mi,a34,n34,h61.kp⟩,aCT ml kc pe pd ie pj ux bf je ke ic F34,aDg 3 rfl d34 rfl (fun us hl=>match us,hl with| [_,_,_],_=>⟨_,rfl,rfl⟩),(.cons ⟨_,rfl⟩ .nil)⟩,fun _ _=>(.cons .int .nil)⟩;have oz:=px h61 a35 (rW ie ed ef);have d88:=xS X G a36 (tS kg eh dq);have vp:=px h61 a37 (wO oz d88 pj be ic);have zx:=xS X G a38 (vT eh dq);have zw:=xS X G a39 (vR zx kg dq eh ke ic);have zv:=xS X G a40 (aJ7 ef ed);have zu:=xS X G a41 (aCx ef dv);have zr:=px h61 a42 (aB9 vp zw zv oz zu ic);have zp:=xS X G a43 (yB zt zr);have mx:=xRc X G a44 (aAd zq kb zp);have jc:=xT X G a45 (aBb zo kb mx);have mw:=xT X G a46 x6;have mn:=xT X G a47 (aBy ph mw);have mm:=xT X G a48 (aF1 uw cn xc)
 exact(aMu mv ms ci mr jc kb mn gq mm gj nk je) (aCB l49 c49 k49)
end K91
open PySem PySem.W PyProof.Rows
local macro_rules| `(tactic|walk_at "kN")=>`(tactic| (refine' TL.Nm.of ?a ?l ?c ?k;(case a=>k_is);(case l=>k_is);(case c=>k_is);(case k=>k_is)))
local macro_rules| `(tactic|walk_at "kM")=>`(tactic| (refine' TL.Mm.of ?a ?l ?c ?k ?n;(case a=>k_is);(case l=>k_is);(case c=>k_is);(case k=>k_is);(case n=>k_is)))
local macro_rules| `(tactic|walk_at "kC")=>`(tactic| (refine'⟨?e,⟨?p,?h,?o,?s⟩,?m,?k⟩;(case e=>k_is);(case p=>k_is);(case h=>k_is);(case o=>k_is);(case s=>k_is);(case m=>k_is);(case k=>k_is)))
set_option maxRecDepth 100000 in
set_option maxHeartbeats 0 in
theorem PySem.Challenge.cw_hastebook_k91_whole_lots_beside_holds : PySem.Challenge.rw_hastebook_k91_whole_lots_beside.Holds := by
 refine holds_law (by decide+kernel) fun said=>?_;refine holds_open (q:=HT.vw) (YP:=Hook.says (kHook HT.KH HT.KA HT.ka)) (N:=4080) HT.left (Hook.of (kHook HT.KH HT.KA HT.ka)) (Hook.keeps _) HT.xs XL.keeps rfl rfl rfl HT.rs rfl (by first|assumption|decide+kernel) (by decide+kernel) ⟨rfl,rfl,rfl,rfl,rfl,by decide+kernel⟩ ?hw ?hc;(case hw=>w_witness2)
 k_fill
 refine TL.aE7 (l:=PySem.Challenge.rw_hastebook_k91_whole_lots_beside) (x:="_law_script") (R:=K91.aDM) (k:=9) rfl rfl ⟨rfl,by decide,by decide⟩ (fun w h Y=>PySem.W.kIn_of Y) K91.aFW ?F
 case F=>
  intro w mg fa h KX G yh;refine' K91.aLO KX G yh ?h60 ?h61 ?v60 ?v61 ?v62 ?v63 ?v64 ?v65 ?v66 ?a1 ?a2 ?a3 ?a4 ?a5 ?a6 ?a7 ?a8 ?a9 ?a10 ?a11 ?a12 ?a13 ?a14 ?a15 ?a16 ?a17 ?a18 ?a19 ?a20 ?a21 ?a22 ?a23 ?a24 ?a25 ?a26 ?a27 ?a28 ?a29 ?a30 ?a31 ?a32 ?a33 ?a34 ?l34 ?c34 ?k34 ?n34 ?d34 ?a35 ?a36 ?a37 ?a38 ?a39 ?a40 ?a41 ?a42 ?a43 ?a44 ?a45 ?a46 ?a47 ?a48 ?a49 ?l49 ?c49 ?k49 ?z60 ?z61 ?z62 ?z63 ?z64 ?z65 ?z66 ?z67 ?z68 ?z69 ?z70 ?z71 ?y60 ?y61
  (case h60=>walk_at "kC")
  (case h61=>walk_at "kC")
  (case v60=>k_is)
  (case v61=>k_is)
  (case v62=>k_is)
  (case v63=>k_is)
  (case v64=>k_is)
  (case v65=>k_is)
  (case v66=>k_is)
  (case a1=>walk_at "kN")
  (case a2=>walk_at "kN")
  (case a3=>walk_at "kN")
  (case a4=>walk_at "kN")
  (case a5=>walk_at "kN")
  (case a6=>walk_at "kN")
  (case a7=>walk_at "kN")
  (case a8=>walk_at "kN")
  (case a9=>walk_at "kN")
  (case a10=>walk_at "kN")
  (case a11=>walk_at "kN")
  (case a12=>walk_at "kN")
  (case a13=>walk_at "kN")
  (case a14=>walk_at "kN")
  (case a15=>walk_at "kN")
  (case a16=>walk_at "kN")
  (case a17=>walk_at "kN")
  (case a18=>walk_at "kN")
  (case a19=>walk_at "kN")
  (case a20=>walk_at "kN")
  (case a21=>walk_at "kN")
  (case a22=>walk_at "kN")
  (case a23=>walk_at "kN")
  (case a24=>walk_at "kN")
  (case a25=>walk_at "kN")
  (case a26=>walk_at "kN")
  (case a27=>walk_at "kN")
  (case a28=>walk_at "kN")
  (case a29=>walk_at "kM")
  (case a30=>walk_at "kM")
  (case a31=>walk_at "kM")
  (case a32=>walk_at "kN")
  (case a33=>walk_at "kN")
  (case a34=>k_is)
  (case l34=>k_is)
  (case c34=>k_is)
  (case k34=>k_is)
  (case n34=>k_is)
  (case d34=>k_is)
  (case a35=>walk_at "kM")
  (case a36=>walk_at "kN")
  (case a37=>walk_at "kM")
  (case a38=>walk_at "kN")
  (case a39=>walk_at "kN")
  (case a40=>walk_at "kN")
  (case a41=>walk_at "kN")
  (case a42=>walk_at "kM")
  (case a43=>walk_at "kN")
  (case a44=>walk_at "kN")
  (case a45=>walk_at "kN")
  (case a46=>walk_at "kN")
  (case a47=>walk_at "kN")
  (case a48=>walk_at "kN")
  (case a49=>k_is)
  (case l49=>k_is)
  (case c49=>k_is)
  (case k49=>k_is)
  (case z60=>k_is)
  (case z61=>k_is)
  (case z62=>k_is)
  (case z63=>k_is)
  (case z64=>k_is)
  (case z65=>k_is)
  (case z66=>k_is)
  (case z67=>k_is)
  (case z68=>k_is)
  (case z69=>k_is)
  (case z70=>k_is)
  (case z71=>k_is)
  (case y60=>k_is)
  (case y61=>k_is)
