import PyProof.Rows.All
import Wide.All
import OpenK.AllK
import Wide.FinOn
import Lean
import PyProof.EqAt
import PyProof.EqKinds
import PyProof.TupleCall
import PyProof.ExcClass3
import PyProof.NeKinds
import PyProof.ZipIter
import PyProof.ExcArgsOwn
import PyProof.EnumFor
import PyProof.EnumMake
import PyProof.DictUpdate
import PyProof.DictWalks
import PySem.Challenge.RW_hastebook_k56_whole_streams_for_bonuses
open Option renaming bind_eq_some_iff->aK,map_eq_some_iff->aL,bind_some->aV,some->cO,isSome_iff_exists->cP,getD_some->dS,toList_some->aOn,map_some->aOA,isSome_map->aOT,getD_none->aPz,none->aP3
open List renaming map_cons->aM,length_cons->aN,length_nil->aP,getElem?_set_ne->aQ,getElem?_eq_some_iff->aR,length_map->aS,getElem?_append_left->aT,mem_cons_of_mem->aU,cons_append->aW,replicate->aX,append_nil->aY,nil_append->aZ,getElem?_eq_getElem->bA,length_append->bB,map_nil->bC,mem_cons->bE,mem_of_getElem?->bF,size_toArray->bG,getElem?_map->bH,getElem?_append_right->bI,mem_cons_self->bJ,range->bK,mem_append->bL,mem_map->bM,getElem?_set_self->bO,map_append->bQ,mem_singleton->bR,nodup_cons->bS,mem_iff_getElem?->bT,lookup_cons->bY,set->b4,map_map->b6,set_append_right->b7,not_mem_nil->cB,zip_cons_cons->cC,mem_append_right->cE,mem_range->cG,mem_map_of_mem->cK,length_set->cL,getElem?_cons_zero->cM,map_congr_left->cR,append_assoc->cS,getElem?_replicate->cT,getElem?_cons_succ->cU,mem_filter->c8,find?_cons->c9,getElem_mem->dB,getD_eq_getElem?_getD->dD,length_zip->dF,getElem?_eq_none->dG,lookup->dL,nodup_append->dO,getElem?_range->dQ,take_of_length_le->dR,take_length->dU,getElem?_zip_eq_some->dX,length_erase_of_mem->d4,length_take->d8,length_eq_zero_iff->d9,getElem_range->eA,drop_eq_nil_of_le->eE,set_set->eI,sum_cons->eP,length_replicate->eQ,set_getElem_self->eT,length_range->eU,all_eq_true->aOf,getElem_map->aOi,drop_eq_getElem_cons->aOj,filterMap_cons->aOk,length_pos_iff->aOl,getElem?_take_of_lt->aOm,range_succ_eq_map->aOq,take_succ->aOs,length_filter_le->aOt,any_cons->aOw,mem_append_left->aOx,getElem?_zipIdx->aOy,foldl_cons->aOz,count_cons->aOC,sum_append->aOD,map_eq_nil_iff->aOF,idxOf_lt_length_of_mem->aOH,pairwise_iff_getElem->aOO,mem_or_eq_of_mem_set->aOP,getElem_inj->aOX,length_drop->aOY,filter_cons->aO1,length_pos_of_mem->aO3,of_mem_zip->aO7,range_succ->aPa,set_append_left->aPg,mem_erase_of_ne->aPh,nodup_iff_count->aPk,take_succ_cons->aPl,mem_filterMap->aPm,foldl->aPn,filterMap_map->aPo,prefix_append->aPp,length_zipIdx->aPq,count_eq_zero->aPr,getElem?_inj->aPw,any_eq_true->aPA,cons->aPC,length->aPF,nodup_nil->aPJ,drop_zero->aPK,map_drop->aPN,map_take->aPO,all_map->aPR,map_set->aPU,tail->aP8,sum->aQa
open PySem.W renaming Frag->aO,nsIn->bV,findIn->bZ,mg_none_of->cD,keepIn->cH,fnOf->cJ,kitOne->cW,emptyDict->cY,codeIn->dM,instObj->dP,kia_one->eL,mg_of->eN,isFn->aOp,plainGet->aOu,plainGet_of->aOE,lookIn->aOJ,callWith_K->aOK,methodObj->aOQ,hasDictIn->aOR,cellsFrom_some->aO2,takerIn->aO5,makesIn->aO6,methodCall_KW->aPb,kl_ins->aPe,plainOver->aPt,handedIn->aPx,OpenLaw->aPH
open Nat renaming le_refl->bD,lt_of_lt_of_le->bN,ne_of_lt->bU,le_trans->cA,lt_irrefl->cQ,zero_le->cV,sub_self->dE,lt_of_le_of_lt->dW,pow_le_pow_right->dY,lt_succ_self->d7,eq_zero_or_pos->eJ,le_add_right->aOg,zero_add->aOh,lt_or_eq_of_le->aOo,le_of_not_lt->aOv,lt_succ_of_lt->aOS,add_assoc->aOW,min_eq_right->aO0,min_eq_left->aO8,mul_le_mul_right->aPi,pow_lt_pow_right->aPj,le_of_lt->aPs,le_succ_of_le->aPu,lt_trans->aPv,le_of_eq->aPQ,add_zero->aPT,sub_zero->aPV,le_succ->aP2,log2_lt->aP4
open Int renaming le_refl->bP,toNat_of_nonneg->b5,mul_le_mul_of_nonneg_right->b9,mul_sub->cI,toNat_natCast->cN,lt_of_le_of_lt->dA,zero_mul->dI,sub_zero->dJ,mul_nonneg->dN,le_trans->dZ,le_of_lt->d0,zero_add->eG,toNat->eO,add_mul->eX,mul_zero->aOr,le_antisymm->aOB,add_zero->aOG,fdiv_eq_ediv_of_nonneg->aOI,lt_of_lt_of_le->aOL,emod_lt_of_pos->aOM,mul_le_mul->aON,sub_mul->aOV,lt_trans->aO4,emod_nonneg->aO9,natAbs_of_nonneg->aPf,natCast_succ->aPD,mul_one->aPE,one_mul->aPG,min_le_left->aPI,ofNat_lt->aPS,le_of_eq->aPW,sub_self->aPX,mul_comm->aPY,mul_add->aP5,not_le->aP6
open Bool renaming false_ne_true->bW,false_eq_true->b8,and_true->cZ,and_self->c7,eq_iff_iff->eK,and_eq_true_iff->eV,and_eq_true->aOZ,false_and->aPd
open Array renaming length_toList->cF,mk->aPc
open Classical renaming byContradiction->cX,choose_spec->dH,axiomOfChoice->aPP,choose->aP9
open PyProof.Rows renaming callWith_type1->dC,callWith_builtin1->aPy,callWith_kw->aPM,iadd_int->aPZ,isub_int->aP0
open Function renaming comp->d3
open Iff renaming rfl->aOU
open Or renaming inr->aPB,inl->aPL
open Prod renaming ext->aP1,mk->aP7
set_option hygiene false in
local macro_rules|`(tactic|walk_at "a")=>`(tactic|(first | exact kX (by lia) | lia | (simp only [aS, bB, aN, aP, lim]; lia) | (first | (apply gW <;> lia) | (apply hW <;> lia) | (apply gH; assumption) | (apply gR; assumption)) | decide))
set_option hygiene false in
local macro_rules|`(tactic|walk_at "b")=>`(tactic|(simp only [st0, aM, bC, aN, aP, Nat.reduceAdd, Nat.reduceSub, aX, aY, aW, aZ]))
set_option hygiene false in
local macro_rules|`(tactic|walk_at "c")=>`(tactic|(simp only [fQ, gT, gD, l6, gK, lF, iM, cZ, c7]))
set_option Elab.async false
set_option linter.all false
set_option bootstrap.genMatcherCode false
set_option compiler.extract_closed false
namespace L2
open PySem
def jU(s:Stmt):Arguments:=match s with
 | .FunctionDef _ a _ _ _ _ _ _ _ _=>a
 |_=>{posonlyargs:=[],args:=[],vararg:=none,kwonlyargs:=[],kw_defaults:=[],kwarg:=none,defaults:=[]}
def jD(s:Stmt):List Stmt:=match s with
 | .FunctionDef _ _ b _ _ _ _ _ _ _=>b
 |_=>[]
def gJ(s:Stmt):Scope:=match s with
 | .FunctionDef _ _ _ _ _ _ sc _ _ _=>sc
 |_=>{kind:=.function,names:=[],isGenerator:=false,isCoroutine:=false}
def inClass(s:Stmt)(j:Nat):Stmt:=match s with
 | .ClassDef _ _ _ body _ _ _ _ _ _ _=>body.getD j (.Pass ⟨0,0,0,0⟩)
 |_=>.Pass ⟨0,0,0,0⟩
end L2
namespace HT
open PySem PySem.W PyProof.Rows
abbrev so(x:String):Str:=Str.ofString x
abbrev de:=PySem.DictEntry.mk
abbrev ob:=PySem.Obj.mk
abbrev kh:=PySem.PyData.keyHash
abbrev vs(x:String)(n:Tok):Value:=.str (so x) n
abbrev vi(i:Int):Value:=.int i 0
abbrev vr(a:Addr):Value:=.ref a
abbrev vn:Value:=.none
abbrev vb:Value:=.bool true
abbrev vt(x:String):Value:=.type x
abbrev dx(P:Params)(x:String)(n:Tok)(v:Value):DictEntry:=.mk (kh P (so x)) (vs x n) v
abbrev oc(x q:String)(i j k:Tok)(l a b:Int)(r:Addr)(h:Int)(s t u v:Addr)(z m:Int)(n:Tok):Obj:=ob (vt "code") none (Data.fields #[vs x i,vs q j,vs "/claim/cut.py" k,vi l,vi a,vi 0,vi 0,vi b,vr r,vb,vi h,vr s,vn,vr t,vr u,vr v,vi z,vi m,vs "/claim/cut.py" n]) #[]
open L2 (jU jD gJ inClass)
abbrev PR:Program:=PySem.Challenge.pw_hastebook_k56_whole_streams_for_bonuses
def top(i:Nat):Stmt:=PR.main.body.getD i (.Pass ⟨0,0,0,0⟩)
abbrev of(x q:String)(s:Stmt)(p:String)(n:Tok)(c:Addr):Obj:=ob (vt "function") none (Data.func (cJ x q (jU s) (jD s) (gJ s) vn vn vn (vs p n) none (vr c) vn)) #[]
noncomputable def KH:Params->aO:=fun P=>
 (nat_lit 2,ob vn none (Data.dict #[]) #[])::
 (nat_lit 3,ob (vt "dict") none (Data.dict #[dx P "__name__" 165 (vs "law_hastebook_k56_whole_streams_for_bonuses" 588),dx P "__doc__" 166 vn,dx P "__package__" 167 vn,dx P "__loader__" 168 (Value.builtin "__main__.__loader__#opaque"),dx P "__spec__" 169 vn,dx P "__annotations__" 170 (vr 6),dx P "__builtins__" 171 (vr 4),dx P "__file__" 173 (vs "/claim/cut.py" 172),dx P "__cached__" 174 vn,dx P "BookError" 206 (vr 24),dx P "NoOrder" 222 (vr 37),dx P "order_of" 234 (vr 46),dx P "is_work" 242 (vr 53),dx P "needed_works" 248 (vr 58),dx P "least_ready" 254 (vr 63),dx P "earliest" 262 (vr 68),dx P "length" 270 (vr 75),dx P "done_moments" 276 (vr 80),dx P "SOURCE" 280 (Value.int 0 279),dx P "SINK" 282 (Value.int 1 281),dx P "Pipe" 318 (vr 97),dx P "Net" 417 (vr 167),dx P "begin_place" 424 (vr 178),dx P "done_place" 431 (vr 185),dx P "work_at" 438 (vr 192),dx P "raise_moments" 449 (vr 199),dx P "tight_route" 455 (vr 204),dx P "next_routes" 465 (vr 211),dx P "room_on" 471 (vr 216),dx P "pour" 480 (vr 223),dx P "flowing_route" 489 (vr 230),dx P "steps_from" 495 (vr 235),dx P "take_out" 501 (vr 240),dx P "works_on" 507 (vr 245),dx P "least_end" 517 (vr 252),dx P "free_end" 523 (vr 257),dx P "least_hours" 529 (vr 262),dx P "free_hours" 536 (vr 269),dx P "corners" 552 (vr 276),dx P "best_sum" 563 (vr 283),dx P "bonus_stream" 573 (vr 290),dx P "least_sum" 579 (vr 295),dx P "corner_sum" 587 (vr 302),dx P "_law_whole" 596 (vr 309),dx P "_law_cell_at" 604 (vr 316),dx P "_law_mixed" 613 (vr 323),dx P "_law_names" 623 (vr 330),dx P "_law_numbers" 629 (vr 335),dx P "_law_work" 643 (vr 342),dx P "_law_lot_free" 661 (vr 349),dx P "_law_lot" 667 (vr 354),dx P "_law_pairs" 675 (vr 361),dx P "_law_is_way" 685 (vr 368),dx P "_law_is_stream" 695 (vr 375),dx P "_law_worth" 701 (vr 380),dx P "_law_bonus" 713 (vr 387),dx P "_law_spoil" 721 (vr 394),dx P "law" 727 (vr 399)] 58) #[])::
 (nat_lit 15,ob (vt "tuple") none (Data.seq #[vt "ValueError"]) #[])::
 (nat_lit 22,ob (vt "tuple") none (Data.seq #[]) #[])::
 (nat_lit 23,ob (vt "dict") none (Data.dict #[dx P "__module__" 196 (vs "hastebook.errors" 187),dx P "__firstlineno__" 200 (Value.int 2 199),dx P "__static_attributes__" 201 (vr 22),dx P "__weakref__" 203 (vr 25),dx P "__doc__" 204 vn] 3) #[])::
 (nat_lit 24,ob (vt "type") none (Data.cls (PySem.ClassData.mk (so "BookError") [vt "ValueError"] [vr 24,vt "ValueError",vt "Exception",vt "BaseException",vt "object"] 23 (so "BookError") true [] [vr 37] false none false)) #[some (vr 15),none,some (vs "BookError" 189),some (vs "BookError" 197),some (Value.builtin "ValueError.__new__"),some (vb)])::
 (nat_lit 25,ob (vt "getset_descriptor") none (Data.fields #[vs "__weakref__" 202,vr 24,Value.builtin "ExceptionGroup.__weakref__",vn]) #[])::
 (nat_lit 28,ob (vt "tuple") none (Data.seq #[vr 24]) #[])::
 (nat_lit 35,ob (vt "tuple") none (Data.seq #[]) #[])::
 (nat_lit 36,ob (vt "dict") none (Data.dict #[dx P "__module__" 214 (vs "hastebook.errors" 187),dx P "__firstlineno__" 218 (Value.int 4 217),dx P "__static_attributes__" 219 (vr 35),dx P "__doc__" 220 vn] 2) #[])::
 (nat_lit 37,ob (vt "type") none (Data.cls (PySem.ClassData.mk (so "NoOrder") [vr 24] [vr 37,vr 24,vt "ValueError",vt "Exception",vt "BaseException",vt "object"] 36 (so "NoOrder") true [] [] false none false)) #[some (vr 28),none,some (vs "NoOrder" 207),some (vs "NoOrder" 215),some (Value.builtin "ValueError.__new__"),some (vb)])::
 (nat_lit 45,oc "order_of" "order_of" 225 226 227 7 2 3 40 181 41 42 43 44 232 7 233)::
 (nat_lit 46,of "order_of" "order_of" (top 4) "hastebook.needs" 223 45)::
 (nat_lit 52,oc "is_work" "is_work" 235 236 237 13 2 3 47 181 48 49 50 51 240 13 241)::
 (nat_lit 53,of "is_work" "is_work" (top 5) "hastebook.needs" 223 52)::
 (nat_lit 57,ob (vt "code") none (Data.fields #[vs "needed_works" 243,vs "needed_works" 244,vs "/claim/cut.py" 245,vi 15,vi 2,vi 0,vi 0,vi 3,vr 54,vb,vi 181,vr 55,vn,vn,vn,vr 56,vi 246,vi 15,vs "/claim/cut.py" 247]) #[])::
 (nat_lit 58,of "needed_works" "needed_works" (top 6) "hastebook.needs" 223 57)::
 (nat_lit 62,ob (vt "code") none (Data.fields #[vs "least_ready" 249,vs "least_ready" 250,vs "/claim/cut.py" 251,vi 23,vi 2,vi 0,vi 0,vi 3,vr 59,vb,vi 181,vr 60,vn,vn,vn,vr 61,vi 252,vi 23,vs "/claim/cut.py" 253]) #[])::
 (nat_lit 63,of "least_ready" "least_ready" (top 7) "hastebook.needs" 223 62)::
 (nat_lit 67,ob (vt "code") none (Data.fields #[vs "earliest" 257,vs "earliest" 258,vs "/claim/cut.py" 259,vi 29,vi 2,vi 0,vi 0,vi 3,vr 64,vb,vi 181,vr 65,vn,vn,vn,vr 66,vi 260,vi 29,vs "/claim/cut.py" 261]) #[])::
 (nat_lit 68,of "earliest" "earliest" (top 9) "hastebook.moments" 255 67)::
 (nat_lit 74,oc "length" "length" 263 264 265 36 2 3 69 181 70 71 72 73 268 36 269)::
 (nat_lit 75,of "length" "length" (top 10) "hastebook.moments" 255 74)::
 (nat_lit 79,ob (vt "code") none (Data.fields #[vs "done_moments" 271,vs "done_moments" 272,vs "/claim/cut.py" 273,vi 38,vi 2,vi 0,vi 0,vi 3,vr 76,vb,vi 181,vr 77,vn,vn,vn,vr 78,vi 274,vi 38,vs "/claim/cut.py" 275]) #[])::
 (nat_lit 80,of "done_moments" "done_moments" (top 11) "hastebook.moments" 255 79)::
 (nat_lit 93,oc "__init__" "Pipe.__init__" 295 296 297 45 5 3 88 181 89 90 91 92 303 45 304)::
 (nat_lit 94,of "__init__" "Pipe.__init__" (inClass (top 15) 0) "hastebook.nets" 277 93)::
 (nat_lit 95,ob (vt "tuple") none (Data.seq #[vs "back" 306,vs "head" 307,vs "hours" 308,vs "room" 309,vs "tail" 310]) #[])::
 (nat_lit 96,ob (vt "dict") none (Data.dict #[dx P "__module__" 290 (vs "hastebook.nets" 277),dx P "__firstlineno__" 294 (Value.int 43 293),dx P "__init__" 305 (vr 94),dx P "__static_attributes__" 311 (vr 95),dx P "__dict__" 313 (vr 98),dx P "__weakref__" 315 (vr 99),dx P "__doc__" 316 vn] 4) #[])::
 (nat_lit 97,ob (vt "type") none (Data.cls (PySem.ClassData.mk (so "Pipe") [vt "object"] [vr 97,vt "object"] 96 (so "Pipe") true [] [] false none false)) #[none,none,some (vs "Pipe" 283),some (vs "Pipe" 291),some (Value.builtin "object.__new__"),some (vb)])::
 (nat_lit 98,ob (vt "getset_descriptor") none (Data.fields #[vs "__dict__" 312,vr 97,Value.builtin "function.__dict__",Value.builtin "function.__dict__#set"]) #[])::
 (nat_lit 99,ob (vt "getset_descriptor") none (Data.fields #[vs "__weakref__" 314,vr 97,Value.builtin "ExceptionGroup.__weakref__",vn]) #[])::
 (nat_lit 109,ob (vt "tuple") none (Data.seq #[Value.int 0 331]) #[])::
 (nat_lit 113,ob (vt "code") none (Data.fields #[vs "__init__" 332,vs "Net.__init__" 333,vs "/claim/cut.py" 334,vi 53,vi 4,vi 0,vi 0,vi 3,vr 110,vb,vi 181,vr 111,vn,vn,vn,vr 112,vi 335,vi 53,vs "/claim/cut.py" 336]) #[])::
 (nat_lit 114,ob (vt "function") (none) (Data.func (cJ "__init__" "Net.__init__" (jU (inClass (top 16) 0)) (jD (inClass (top 16) 0)) (gJ (inClass (top 16) 0)) (vr 109) (vn) (vn) (vs "hastebook.nets" 277) (none) (vr 113) (vn))) (#[]))::
 (nat_lit 120,oc "lay" "Net.lay" 338 339 340 66 5 3 115 181 116 117 118 119 348 66 349)::
 (nat_lit 121,of "lay" "Net.lay" (inClass (top 16) 1) "hastebook.nets" 277 120)::
 (nat_lit 127,oc "fill" "Net.fill" 351 352 353 73 2 3 122 181 123 124 125 126 358 73 359)::
 (nat_lit 128,of "fill" "Net.fill" (inClass (top 16) 2) "hastebook.nets" 277 127)::
 (nat_lit 134,oc "lead" "Net.lead" 361 362 363 80 2 3 129 181 130 131 132 133 368 80 369)::
 (nat_lit 135,of "lead" "Net.lead" (inClass (top 16) 3) "hastebook.nets" 277 134)::
 (nat_lit 139,ob (vt "code") none (Data.fields #[vs "moments" 371,vs "Net.moments" 372,vs "/claim/cut.py" 373,vi 87,vi 2,vi 0,vi 0,vi 3,vr 136,vb,vi 181,vr 137,vn,vn,vn,vr 138,vi 374,vi 87,vs "/claim/cut.py" 375]) #[])::
 (nat_lit 140,of "moments" "Net.moments" (inClass (top 16) 4) "hastebook.nets" 277 139)::
 (nat_lit 146,oc "open_length" "Net.open_length" 377 378 379 95 1 3 141 181 142 143 144 145 381 95 382)::
 (nat_lit 147,of "open_length" "Net.open_length" (inClass (top 16) 5) "hastebook.nets" 277 146)::
 (nat_lit 151,ob (vt "code") none (Data.fields #[vs "open_pipes" 384,vs "Net.open_pipes" 385,vs "/claim/cut.py" 386,vi 98,vi 1,vi 0,vi 0,vi 3,vr 148,vb,vi 181,vr 149,vn,vn,vn,vr 150,vi 387,vi 98,vs "/claim/cut.py" 388]) #[])::
 (nat_lit 152,of "open_pipes" "Net.open_pipes" (inClass (top 16) 6) "hastebook.nets" 277 151)::
 (nat_lit 156,ob (vt "code") none (Data.fields #[vs "amount" 390,vs "Net.amount" 391,vs "/claim/cut.py" 392,vi 102,vi 1,vi 0,vi 0,vi 3,vr 153,vb,vi 181,vr 154,vn,vn,vn,vr 155,vi 393,vi 102,vs "/claim/cut.py" 394]) #[])::
 (nat_lit 157,of "amount" "Net.amount" (inClass (top 16) 7) "hastebook.nets" 277 156)::
 (nat_lit 163,oc "stream" "Net.stream" 396 397 398 105 1 3 158 181 159 160 161 162 405 105 406)::
 (nat_lit 164,of "stream" "Net.stream" (inClass (top 16) 8) "hastebook.nets" 277 163)::
 (nat_lit 165,ob (vt "tuple") none (Data.seq #[vs "pipes" 408,vs "places" 409]) #[])::
 (nat_lit 166,ob (vt "dict") none (Data.dict #[dx P "__module__" 326 (vs "hastebook.nets" 277),dx P "__firstlineno__" 330 (Value.int 51 329),dx P "__init__" 337 (vr 114),dx P "lay" 350 (vr 121),dx P "fill" 360 (vr 128),dx P "lead" 370 (vr 135),dx P "moments" 376 (vr 140),dx P "open_length" 383 (vr 147),dx P "open_pipes" 389 (vr 152),dx P "amount" 395 (vr 157),dx P "stream" 407 (vr 164),dx P "__static_attributes__" 410 (vr 165),dx P "__dict__" 412 (vr 168),dx P "__weakref__" 414 (vr 169),dx P "__doc__" 415 vn] 4) #[])::
 (nat_lit 167,ob (vt "type") none (Data.cls (PySem.ClassData.mk (so "Net") [vt "object"] [vr 167,vt "object"] 166 (so "Net") true [] [] false none false)) #[none,none,some (vs "Net" 319),some (vs "Net" 327),some (Value.builtin "object.__new__"),some (vb)])::
 (nat_lit 168,ob (vt "getset_descriptor") none (Data.fields #[vs "__dict__" 411,vr 167,Value.builtin "function.__dict__",Value.builtin "function.__dict__#set"]) #[])::
 (nat_lit 169,ob (vt "getset_descriptor") none (Data.fields #[vs "__weakref__" 413,vr 167,Value.builtin "ExceptionGroup.__weakref__",vn]) #[])::
 (nat_lit 177,oc "begin_place" "begin_place" 418 419 420 116 1 3 172 181 173 174 175 176 422 116 423)::
 (nat_lit 178,of "begin_place" "begin_place" (top 17) "hastebook.nets" 277 177)::
 (nat_lit 184,oc "done_place" "done_place" 425 426 427 118 1 3 179 181 180 181 182 183 429 118 430)::
 (nat_lit 185,of "done_place" "done_place" (top 18) "hastebook.nets" 277 184)::
 (nat_lit 191,oc "work_at" "work_at" 432 433 434 120 1 3 186 181 187 188 189 190 436 120 437)::
 (nat_lit 192,of "work_at" "work_at" (top 19) "hastebook.nets" 277 191)::
 (nat_lit 198,oc "raise_moments" "raise_moments" 439 440 441 122 2 3 193 181 194 195 196 197 447 122 448)::
 (nat_lit 199,of "raise_moments" "raise_moments" (top 20) "hastebook.nets" 277 198)::
 (nat_lit 203,ob (vt "code") none (Data.fields #[vs "tight_route" 450,vs "tight_route" 451,vs "/claim/cut.py" 452,vi 130,vi 2,vi 0,vi 0,vi 3,vr 200,vb,vi 181,vr 201,vn,vn,vn,vr 202,vi 453,vi 130,vs "/claim/cut.py" 454]) #[])::
 (nat_lit 204,of "tight_route" "tight_route" (top 21) "hastebook.nets" 277 203)::
 (nat_lit 210,oc "next_routes" "next_routes" 456 457 458 136 2 3 205 181 206 207 208 209 463 136 464)::
 (nat_lit 211,of "next_routes" "next_routes" (top 22) "hastebook.nets" 277 210)::
 (nat_lit 215,ob (vt "code") none (Data.fields #[vs "room_on" 466,vs "room_on" 467,vs "/claim/cut.py" 468,vi 142,vi 1,vi 0,vi 0,vi 3,vr 212,vb,vi 181,vr 213,vn,vn,vn,vr 214,vi 469,vi 142,vs "/claim/cut.py" 470]) #[])::
 (nat_lit 216,of "room_on" "room_on" (top 23) "hastebook.nets" 277 215)::
 (nat_lit 222,oc "pour" "pour" 472 473 474 144 2 3 217 181 218 219 220 221 478 144 479)::
 (nat_lit 223,of "pour" "pour" (top 24) "hastebook.nets" 277 222)::
 (nat_lit 229,oc "flowing_route" "flowing_route" 481 482 483 148 1 3 224 181 225 226 227 228 487 148 488)::
 (nat_lit 230,of "flowing_route" "flowing_route" (top 25) "hastebook.nets" 277 229)::
 (nat_lit 234,ob (vt "code") none (Data.fields #[vs "steps_from" 490,vs "steps_from" 491,vs "/claim/cut.py" 492,vi 155,vi 2,vi 0,vi 0,vi 3,vr 231,vb,vi 181,vr 232,vn,vn,vn,vr 233,vi 493,vi 155,vs "/claim/cut.py" 494]) #[])::
 (nat_lit 235,of "steps_from" "steps_from" (top 26) "hastebook.nets" 277 234)::
 (nat_lit 239,ob (vt "code") none (Data.fields #[vs "take_out" 496,vs "take_out" 497,vs "/claim/cut.py" 498,vi 157,vi 2,vi 0,vi 0,vi 3,vr 236,vb,vi 181,vr 237,vn,vn,vn,vr 238,vi 499,vi 157,vs "/claim/cut.py" 500]) #[])::
 (nat_lit 240,of "take_out" "take_out" (top 27) "hastebook.nets" 277 239)::
 (nat_lit 244,ob (vt "code") none (Data.fields #[vs "works_on" 502,vs "works_on" 503,vs "/claim/cut.py" 504,vi 162,vi 1,vi 0,vi 0,vi 3,vr 241,vb,vi 181,vr 242,vn,vn,vn,vr 243,vi 505,vi 162,vs "/claim/cut.py" 506]) #[])::
 (nat_lit 245,of "works_on" "works_on" (top 28) "hastebook.nets" 277 244)::
 (nat_lit 251,oc "least_end" "least_end" 510 511 512 165 2 3 246 181 247 248 249 250 515 165 516)::
 (nat_lit 252,of "least_end" "least_end" (top 30) "hastebook.haste" 508 251)::
 (nat_lit 256,ob (vt "code") none (Data.fields #[vs "free_end" 518,vs "free_end" 519,vs "/claim/cut.py" 520,vi 167,vi 2,vi 0,vi 0,vi 3,vr 253,vb,vi 181,vr 254,vn,vn,vn,vr 255,vi 521,vi 167,vs "/claim/cut.py" 522]) #[])::
 (nat_lit 257,of "free_end" "free_end" (top 31) "hastebook.haste" 508 256)::
 (nat_lit 261,ob (vt "code") none (Data.fields #[vs "least_hours" 524,vs "least_hours" 525,vs "/claim/cut.py" 526,vi 169,vi 1,vi 0,vi 0,vi 3,vr 258,vb,vi 181,vr 259,vn,vn,vn,vr 260,vi 527,vi 169,vs "/claim/cut.py" 528]) #[])::
 (nat_lit 262,of "least_hours" "least_hours" (top 32) "hastebook.haste" 508 261)::
 (nat_lit 268,oc "free_hours" "free_hours" 530 531 532 171 1 3 263 181 264 265 266 267 534 171 535)::
 (nat_lit 269,of "free_hours" "free_hours" (top 33) "hastebook.haste" 508 268)::
 (nat_lit 275,oc "corners" "corners" 539 540 541 174 2 3 270 181 271 272 273 274 550 174 551)::
 (nat_lit 276,of "corners" "corners" (top 35) "hastebook.curves" 537 275)::
 (nat_lit 282,oc "best_sum" "best_sum" 555 556 557 188 3 3 277 181 278 279 280 281 561 188 562)::
 (nat_lit 283,of "best_sum" "best_sum" (top 37) "hastebook.wishes" 553 282)::
 (nat_lit 289,oc "bonus_stream" "bonus_stream" 564 565 566 190 3 3 284 181 285 286 287 288 571 190 572)::
 (nat_lit 290,of "bonus_stream" "bonus_stream" (top 38) "hastebook.wishes" 553 289)::
 (nat_lit 294,ob (vt "code") none (Data.fields #[vs "least_sum" 574,vs "least_sum" 575,vs "/claim/cut.py" 576,vi 197,vi 2,vi 0,vi 0,vi 3,vr 291,vb,vi 181,vr 292,vn,vn,vn,vr 293,vi 577,vi 197,vs "/claim/cut.py" 578]) #[])::
 (nat_lit 295,of "least_sum" "least_sum" (top 39) "hastebook.wishes" 553 294)::
 (nat_lit 301,oc "corner_sum" "corner_sum" 580 581 582 199 2 3 296 181 297 298 299 300 585 199 586)::
 (nat_lit 302,of "corner_sum" "corner_sum" (top 40) "hastebook.wishes" 553 301)::
 (nat_lit 308,oc "_law_whole" "_law_whole" 590 591 592 202 1 3 303 181 304 305 306 307 594 202 595)::
 (nat_lit 309,of "_law_whole" "_law_whole" (top 42) "law_hastebook_k56_whole_streams_for_bonuses" 588 308)::
 (nat_lit 315,oc "_law_cell_at" "_law_cell_at" 597 598 599 204 2 3 310 181 311 312 313 314 602 204 603)::
 (nat_lit 316,of "_law_cell_at" "_law_cell_at" (top 43) "law_hastebook_k56_whole_streams_for_bonuses" 588 315)::
 (nat_lit 322,oc "_law_mixed" "_law_mixed" 605 606 607 208 2 3 317 181 318 319 320 321 611 208 612)::
 (nat_lit 323,of "_law_mixed" "_law_mixed" (top 44) "law_hastebook_k56_whole_streams_for_bonuses" 588 322)::
 (nat_lit 329,oc "_law_names" "_law_names" 614 615 616 212 2 3 324 181 325 326 327 328 621 212 622)::
 (nat_lit 330,of "_law_names" "_law_names" (top 45) "law_hastebook_k56_whole_streams_for_bonuses" 588 329)::
 (nat_lit 334,ob (vt "code") none (Data.fields #[vs "_law_numbers" 624,vs "_law_numbers" 625,vs "/claim/cut.py" 626,vi 217,vi 1,vi 0,vi 0,vi 3,vr 331,vb,vi 181,vr 332,vn,vn,vn,vr 333,vi 627,vi 217,vs "/claim/cut.py" 628]) #[])::
 (nat_lit 335,of "_law_numbers" "_law_numbers" (top 46) "law_hastebook_k56_whole_streams_for_bonuses" 588 334)::
 (nat_lit 341,oc "_law_work" "_law_work" 630 631 632 223 5 3 336 181 337 338 339 340 641 223 642)::
 (nat_lit 342,of "_law_work" "_law_work" (top 47) "law_hastebook_k56_whole_streams_for_bonuses" 588 341)::
 (nat_lit 348,oc "_law_lot_free" "_law_lot_free" 644 645 646 237 3 3 343 181 344 345 346 347 659 237 660)::
 (nat_lit 349,of "_law_lot_free" "_law_lot_free" (top 48) "law_hastebook_k56_whole_streams_for_bonuses" 588 348)::
 (nat_lit 353,ob (vt "code") none (Data.fields #[vs "_law_lot" 662,vs "_law_lot" 663,vs "/claim/cut.py" 664,vi 259,vi 3,vi 0,vi 0,vi 3,vr 350,vb,vi 181,vr 351,vn,vn,vn,vr 352,vi 665,vi 259,vs "/claim/cut.py" 666]) #[])::
 (nat_lit 354,of "_law_lot" "_law_lot" (top 49) "law_hastebook_k56_whole_streams_for_bonuses" 588 353)::
 (nat_lit 360,oc "_law_pairs" "_law_pairs" 668 669 670 277 1 3 355 181 356 357 358 359 673 277 674)::
 (nat_lit 361,of "_law_pairs" "_law_pairs" (top 50) "law_hastebook_k56_whole_streams_for_bonuses" 588 360)::
 (nat_lit 367,oc "_law_is_way" "_law_is_way" 676 677 678 284 3 3 362 181 363 364 365 366 683 284 684)::
 (nat_lit 368,of "_law_is_way" "_law_is_way" (top 51) "law_hastebook_k56_whole_streams_for_bonuses" 588 367)::
 (nat_lit 374,oc "_law_is_stream" "_law_is_stream" 686 687 688 293 3 3 369 181 370 371 372 373 693 293 694)::
 (nat_lit 375,of "_law_is_stream" "_law_is_stream" (top 52) "law_hastebook_k56_whole_streams_for_bonuses" 588 374)::
 (nat_lit 379,ob (vt "code") none (Data.fields #[vs "_law_worth" 696,vs "_law_worth" 697,vs "/claim/cut.py" 698,vi 302,vi 3,vi 0,vi 0,vi 3,vr 376,vb,vi 181,vr 377,vn,vn,vn,vr 378,vi 699,vi 302,vs "/claim/cut.py" 700]) #[])::
 (nat_lit 380,of "_law_worth" "_law_worth" (top 53) "law_hastebook_k56_whole_streams_for_bonuses" 588 379)::
 (nat_lit 386,oc "_law_bonus" "_law_bonus" 702 703 704 309 2 3 381 181 382 383 384 385 711 309 712)::
 (nat_lit 387,of "_law_bonus" "_law_bonus" (top 54) "law_hastebook_k56_whole_streams_for_bonuses" 588 386)::
 (nat_lit 393,oc "_law_spoil" "_law_spoil" 714 715 716 316 1 3 388 181 389 390 391 392 719 316 720)::
 (nat_lit 394,of "_law_spoil" "_law_spoil" (top 55) "law_hastebook_k56_whole_streams_for_bonuses" 588 393)::
 (nat_lit 398,ob (vt "code") none (Data.fields #[vs "law" 722,vs "law" 723,vs "/claim/cut.py" 724,vi 320,vi 1,vi 0,vi 0,vi 3,vr 395,vb,vi 181,vr 396,vn,vn,vn,vr 397,vi 725,vi 320,vs "/claim/cut.py" 726]) #[])::
 (nat_lit 399,of "law" "law" (top 56) "law_hastebook_k56_whole_streams_for_bonuses" 588 398)::[]
def KA:List Addr:=[2,3,15,22,23,24,25,28,35,36,37,45,46,52,53,57,58,62,63,67,68,74,75,79,80,93,94,95,96,97,98,99,109,113,114,120,121,127,128,134,135,139,140,146,147,151,152,156,157,163,164,165,166,167,168,169,177,178,184,185,191,192,198,199,203,204,210,211,215,216,222,223,229,230,234,235,239,240,244,245,251,252,256,257,261,262,268,269,275,276,282,283,289,290,294,295,301,302,308,309,315,316,322,323,329,330,334,335,341,342,348,349,353,354,360,361,367,368,374,375,379,380,386,387,393,394,398,399]
noncomputable def insAll:Nat->List Obj->BT->BT
 |_,[],t=>t
 |i,o::os,t=>insAll (i+1) os (t.ins i o)
noncomputable def iX(p:Program)(w:World)(m:Nat)(an:Option Value):Nat->SharedT->Thread->Option SharedT
 |0,_,_=>none
 |n+1,s,t=>match through t with
  |true=>some s
  |false=>match stepOk m an t with
   |false=>none
   |true=>match stepT (denote treeTable) p w s t with
    |some r=>iX p w m an n r.1 r.2
    |none=>none
theorem aG2{p:Program}{w:World}{m:Nat}{an:Option Value}:∀{n:Nat}{s s':SharedT}{t:Thread},iX p w m an n s t=some s'->topRun treeTable p w m an n s.abs t=some s'.abs
 |0,_,_,_,h=>by cases h
 |n+1,s,s',t,h=>by
  unfold iX at h;unfold topRun;cases h1:through t with
  |true=>rw[h1]at h;cases h;rfl
  |false=>
   rw[h1]at h;cases h2:stepOk m an t with
   |false=>rw[h2]at h;cases h
   |true=>
    rw[h2]at h;cases h3:stepT (denote treeTable) p w s t with
    |none=>rw[h3]at h;cases h
    |some r=>
     rw[h3]at h;rw[show step (denote treeTable) p w s.abs t=.go r.1.abs r.2 from stepT_spec h3]
     exact aG2 h
theorem leftOf{p q:Program}{Xt:Shared->Bool}{α:Type}{Yf:Shared->α}{Ya:World->α}{N:Nat}{s0:World->OsState->SharedT}{ran:World->OsState->Option SharedT}{fin:World->OsState->Shared}
 (hf:∀w os,fin w os=((ran w os).getD (s0 w os)).abs)
 (hr:∀w os,ran w os=iX p w (boot_heap w.params).objs.size ((boot_heap w.params).nsMap mainGlobals "__annotations__") N (s0 w os) (topStub p))
 (c0:(fun(w:World) (os:OsState)=>(s0 w os).abs)=fun w os=>⟨boot_heap w.params,aPc [],boot_drawn,boot_toks,os⟩)
 (c1:(fun w:World=>(boot_heap w.params).isNs mainGlobals)=fun _=>true)
 (c2:(fun(w:World) (os:OsState)=>(ran w os).isSome)=fun _ _=>true)
 (c3:(fun(w:World) (os:OsState)=>(staticsOk (importedModules p.main.body) (boot_heap w.params) (fin w os).heap&&namesBound p (fin w os).heap&&gensDone (fin w os))&&laidKept (boot_heap w.params) (fin w os).heap)=fun _ _=>true)
 (c4:(fun(w:World) (os:OsState)=>openSeen q [] (importedModules p.main.body) Xt true (fin w os))=fun _ _=>openGood q [])
 (c5:(fun(w:World) (os:OsState)=>Yf (fin w os))=fun w _=>Ya w)
 (c6:opening p=plainProg p.main.scope.names)(hN:Nat.ble 600 N=true)(hm:∀s,fenceModules? p s=some s):LeftO p q [] Xt Yf Ya N:=fun w=>by
 obtain⟨⟨h,gs,d,k,os⟩,e,e'⟩:=aL.mp (boot_open (p:=p) (N:=N) c6 hN hm w);obtain⟨rfl,rfl,rfl,rfl⟩:h=boot_heap w.params/\gs=aPc []/\d=boot_drawn/\k=boot_toks:=by simpa using e'
 have r:topRun treeTable p w (boot_heap w.params).objs.size ((boot_heap w.params).nsMap mainGlobals "__annotations__") N ⟨boot_heap w.params,aPc [],boot_drawn,boot_toks,os⟩ (topStub p)=some (fin w os):=by
  have q0:(s0 w os).abs=⟨boot_heap w.params,aPc [],boot_drawn,boot_toks,os⟩:=congrFun (congrFun c0 w) os;have q2:(ran w os).isSome=true:=congrFun (congrFun c2 w) os;rw[<-q0];obtain⟨x,hx⟩:=cP.mp q2;have:fin w os=x.abs:=by rw[hf,hx];rfl
  rw[this];rw[hr]at hx
  exact aG2 hx
 have t:topFrom treeTable p w N ⟨boot_heap w.params,aPc [],boot_drawn,boot_toks,os⟩=some (fin w os):=by
  unfold topFrom;dsimp only;rw[show(boot_heap w.params).isNs mainGlobals=true from congrFun c1 w,r];have q3:((staticsOk (importedModules p.main.body) (boot_heap w.params) (fin w os).heap&&namesBound p (fin w os).heap&&gensDone (fin w os))&&laidKept (boot_heap w.params) (fin w os).heap)=true:=congrFun (congrFun c3 w) os;show(match((staticsOk (importedModules p.main.body) (boot_heap w.params) (fin w os).heap&&namesBound p (fin w os).heap&&gensDone (fin w os))&&laidKept (boot_heap w.params) (fin w os).heap)with|true=>some (fin w os)|false=>none)=_;rw[q3]
 unfold openEnds;rw[e];show(topFrom treeTable p w N _).map _=_;rw[t]
 exact congrArg some (aP1 (congrFun (congrFun c4 w) os) (congrFun (congrFun c5 w) os))
noncomputable def s0(w:World)(os:OsState):SharedT:=⟨insAll 0 (boot_heap w.params).objs.toList .nil,(boot_heap w.params).objs.size,(boot_heap w.params).life,#[],boot_drawn,boot_toks,os⟩
noncomputable def ran(w:World)(os:OsState):Option SharedT:=iX PR w (boot_heap w.params).objs.size ((boot_heap w.params).nsMap mainGlobals "__annotations__") 4080 (s0 w os) (topStub PR)
noncomputable def fin(w:World)(os:OsState):Shared:=((ran w os).getD (s0 w os)).abs
def vw:Program:=view PR [1,2,4,5,6,7,9,10,11,13,14,15,16,17,18,19,20,21,22,23,24,25,26,27,28,30,31,32,33,35,37,38,39,40,42,43,44,45,46,47,48,49,50,51,52,53,54,55,56]
noncomputable def xt(s:Shared):Bool:=xlAt vw [] s&&recOk (RowW.records (OpenRow.toRowW (OpenLaw.row PySem.Challenge.rw_hastebook_k56_whole_streams_for_bonuses))) s
set_option maxHeartbeats 0 in
theorem c0:(fun(w:World) (os:OsState)=>(s0 w os).abs)=fun w os=>⟨boot_heap w.params,aPc [],boot_drawn,boot_toks,os⟩:=by kernel_rfl
theorem c1:(fun w:World=>(boot_heap w.params).isNs mainGlobals)=fun _=>true:=by kernel_rfl
set_option maxHeartbeats 0 in
theorem c2:(fun(w:World) (os:OsState)=>(ran w os).isSome)=fun _ _=>true:=by kernel_rfl
set_option maxHeartbeats 0 in
theorem c3:(fun(w:World) (os:OsState)=>(staticsOk (importedModules PR.main.body) (boot_heap w.params) (fin w os).heap&&namesBound PR (fin w os).heap&&gensDone (fin w os))&&laidKept (boot_heap w.params) (fin w os).heap)=fun _ _=>true:=by kernel_rfl
set_option maxHeartbeats 0 in
theorem c4:(fun(w:World) (os:OsState)=>openSeen vw [] (importedModules PR.main.body) xt true (fin w os))=fun _ _=>openGood vw []:=by kernel_rfl
set_option maxHeartbeats 0 in
theorem c5:(fun(w:World) (os:OsState)=>KA.map (fin w os).heap.get?)=fun w _=>(KH w.params).map fun p=>some p.2:=by kernel_rfl
theorem c6:opening PR=plainProg PR.main.scope.names:=by kernel_rfl
theorem left:LeftO PR vw [] xt (fun s=>KA.map s.heap.get?) (fun w=>(KH w.params).map fun p=>some p.2) 4080:=
 leftOf (s0:=s0) (ran:=ran) (fin:=fin) (fun _ _=>rfl) (fun _ _=>rfl) c0 c1 c2 c3 c4 c5 c6 rfl (fun _=>rfl)
theorem ka(P:Params):KA=(KH P).map (·.1):=by kernel_rfl
theorem xs:∀s,xt s=true->XL vw [] (s.heap.nsMap mainGlobals) s.heap:=fun s e=>xl_of s (eV.mp e).1
theorem rs:∀s,xt s=true->RecFacts (RowW.records (OpenRow.toRowW (OpenLaw.row PySem.Challenge.rw_hastebook_k56_whole_streams_for_bonuses))) s.heap:=fun s e=>recFacts_of (eV.mp e).2
end HT
noncomputable section
set_option maxRecDepth 100000
namespace L2
open PySem PySem.Spec PyProof.Rows
variable{H:Hp}{a b:Addr}{o:HO}
noncomputable abbrev Key:=Sum Int Str
noncomputable def aAp:Key->Value->Bool
 | .inl k,v=>Value.isInt k v
 | .inr x,v=>Value.isStrOf x v
noncomputable def keyH(w:World):Key->Int
 | .inl k=>hashInt k
 | .inr x=>hashStr w x
theorem jM:∀{k:Key}{v:Value},aAp k v=true->(∃i t,k=Sum.inl i/\v=Value.int i t)\/(∃x t,k=Sum.inr x/\v=Value.str x t)
 | .inl i,v,h=>by
   obtain⟨t,e⟩:=Value.isInt_shape (k:=i) (v:=v) h
   exact .inl ⟨i,t,rfl,e⟩
 | .inr x,v,h=>by
   obtain⟨t,e⟩:=Value.isStrOf_shape (x:=x) (v:=v) h
   exact .inr ⟨x,t,rfl,e⟩
theorem aFx(i:Int)(t:Tok):aAp (.inl i) (.int i t)=true:=by simp[aAp,Value.isInt]
theorem aFF(x:Str)(t:Tok):aAp (.inr x) (.str x t)=true:=by simp[aAp,Value.isStrOf]
theorem aMJ(a b:Int):decide ((Sum.inl a:Key)=Sum.inl b)=(a==b):=by
 by_cases e:a=b
 ·subst e;simp
 ·have h:¬(Sum.inl a:Key)=Sum.inl b:=fun q=>e (Sum.inl.inj q)
  rw[decide_eq_false h]
  exact(beq_eq_false_iff_ne.mpr e).symm
theorem aMM(a b:Str):decide ((Sum.inr a:Key)=Sum.inr b)=decide (a=b):=by
 by_cases e:a=b
 ·subst e;simp
 ·have h:¬(Sum.inr a:Key)=Sum.inr b:=fun q=>e (Sum.inr.inj q)
  rw[decide_eq_false h,decide_eq_false e]
theorem aLk(a:Int)(b:Str):decide ((Sum.inl a:Key)=Sum.inr b)=false:=decide_eq_false (fun q=>nomatch q)
theorem aMs(a:Str)(b:Int):decide ((Sum.inr a:Key)=Sum.inl b)=false:=decide_eq_false (fun q=>nomatch q)
def i6(prog:Program)(w:World):PySem.KeyKind prog w Key where
 is:=aAp
 hash:=keyH w
 inj:=fun v a b ha hb=>by
  rcases jM ha with⟨i,t,rfl,rfl⟩| ⟨x,t,rfl,rfl⟩
  ·rcases jM hb with⟨j,u,rfl,e⟩| ⟨y,u,rfl,e⟩
   ·injection e with e1 _;rw[e1]
   ·exact nomatch e
  ·rcases jM hb with⟨j,u,rfl,e⟩| ⟨y,u,rfl,e⟩
   ·exact nomatch e
   ·injection e with e1 _;rw[e1]
 byValue:=fun k v h=>by
  rcases jM h with⟨i,t,rfl,rfl⟩| ⟨x,t,rfl,rfl⟩<;>rfl
 pyHash:=fun hv h=>by
  rcases jM hv with⟨i,t,rfl,rfl⟩| ⟨x,t,rfl,rfl⟩
  ·exact wpAny_pyHash_int h
  ·exact wpAny_pyHash_str h
 eqBool:=fun hu hv h=>by
  rcases jM hu with⟨i,t,rfl,rfl⟩| ⟨x,t,rfl,rfl⟩
  ·rcases jM hv with⟨j,u,rfl,rfl⟩| ⟨y,u,rfl,rfl⟩
   ·rw[aMJ]at h;exact wpAny_eqBool_int h
   ·rw[aLk]at h;exact SeqAt.EqAt.int_str i t y u _ _ _ _ h
  ·rcases jM hv with⟨j,u,rfl,rfl⟩| ⟨y,u,rfl,rfl⟩
   ·rw[aMs]at h;exact SeqAt.EqAt.str_int x t j u _ _ _ _ h
   ·rw[aMM]at h;exact wpAny_eqBool_str h
 «strs»:=fun k x t v h=>by
  rcases jM h with⟨i,u,rfl,e⟩| ⟨y,u,rfl,e⟩
  ·exact nomatch e
  ·injection e with e1 _
   subst e1;cases v<;>rfl
theorem aCQ(prog:Program)(w:World)(i:Int)(t:Tok):(i6 prog w).is (.inl i) (.int i t)=true:=aFx i t
theorem aCO(prog:Program)(w:World)(x:Str)(t:Tok):(i6 prog w).is (.inr x) (.str x t)=true:=aFF x t
inductive V where
 |non|bl (b:Bool)|int (i:Int)|str (x:Str)|byt (b:Array UInt8)|flt (b:UInt64)|ref (a:Addr)|ty (n:String)
 deriving DecidableEq
def RelV:V->Value->Prop
 | .non,u=>u=Value.none
 | .bl b,u=>u=Value.bool b
 | .int i,u=>∃t,u=Value.int i t
 | .str x,u=>∃t,u=Value.str x t
 | .byt b,u=>∃t,u=Value.bytes b t
 | .flt b,u=>∃t,u=Value.float b t
 | .ref a,u=>u=Value.ref a
 | .ty n,u=>u=Value.type n
abbrev Vals:List V->List Value->Prop:=Paired RelV
theorem Vals.length{xs:List V}{us:List Value}(r:Vals xs us):xs.length=us.length:=Paired.length r
theorem Vals.get:∀{xs:List V}{us:List Value}{i:Nat}{x:V},Vals xs us->xs[i]?=some x->∃u,us[i]?=some u/\RelV x u
 |_,_,_,_,.nil,e=>by simp at e
 |_,_,0,_,.cons r _,e=>by simp at e;subst e;exact⟨_,rfl,r⟩
 |_,_,i+1,x,.cons _ t,e=>by
  obtain⟨u,h1,h2⟩:=Vals.get (i:=i) (x:=x) t (by simpa using e)
  exact⟨u,by simpa using h1,h2⟩
theorem Vals.set{x:V}{u:Value}(r:RelV x u):∀{xs:List V}{us:List Value}(i:Nat),Vals xs us->Vals (xs.set i x) (us.set i u)
 |_,_,_,.nil=>.nil
 |_,_,0,.cons _ t=>.cons r t
 |_,_,i+1,.cons q t=>.cons q (Vals.set r i t)
theorem Vals.append:∀{xs ys:List V}{us ws:List Value},Vals xs us->Vals ys ws->Vals (xs++ys) (us++ws)
 |_,_,_,_,.nil,s=>s
 |_,_,_,_,.cons r t,s=>.cons r (Vals.append t s)
theorem Vals.take:∀{xs:List V}{us:List Value}(n:Nat),Vals xs us->Vals (xs.take n) (us.take n)
 |_,_,0,_=>.nil
 |_,_,_+1,.nil=>.nil
 |_,_,n+1,.cons r t=>.cons r (Vals.take n t)
theorem Vals.drop:∀{xs:List V}{us:List Value}(n:Nat),Vals xs us->Vals (xs.drop n) (us.drop n)
 |_,_,0,r=>r
 |_,_,_+1,.nil=>.nil
 |_,_,n+1,.cons _ t=>Vals.drop n t
def p7:Option V->Option Value->Prop
 |some v,some u=>RelV v u
 |none,none=>True
 |_,_=>False
def KV{κ:Type}:List (κ×V)->List (κ×Value)->Prop:=Paired fun(p:κ×V) (q:κ×Value)=>p.1=q.1/\RelV p.2 q.2
noncomputable def kV:Key->V
 | .inl i=>.int i
 | .inr x=>.str x
inductive HO where
 |lst (xs:List V)
 |tup (xs:List V)
 |dK (kvs:List (Key×V))|dT (kvs:List (List Key×V))
 |set (S:Int->Bool) (n:Nat)
 |ins (C dx:Addr) (fs:List (Str×V))
 |own (x:Addr)
 |xd (fs:List (Str×V))
 |met (f x:Addr)
 |rng (lo hi:Int)
 |frz (o:Obj) (u:HO)
 |tbl (ps:Array Value)
 |ext (φ:Heap->Prop)
noncomputable abbrev Hp:=Addr->Option HO
noncomputable def upd(H:Hp)(a:Addr)(o:HO):Hp:=fun b=>if b=a then some o else H b
theorem i9:upd H a o a=some o:=by unfold upd;rw[if_pos rfl]
theorem fO(h:b≠a):upd H a o b=H b:=by unfold upd;rw[if_neg h]
theorem oF{u:HO}(h:H a=some o)(h':H b=some u)(d:o≠u):a≠b:=by
 intro e;subst e;rw[h]at h';exact d (cO.inj h')
theorem nS(h:H a=some o)(h':H b=none):a≠b:=by
 intro e;subst e;rw[h]at h';cases h'
section
variable (P:Program)(w:World)
def jQ(H:Hp)(h:Heap)(a:Addr):HO->Prop
 | .lst xs=>xs.length<=sizeLine/\∃(its:List Value)(n:Nat),Vals xs its/\h.get? a=some {cls:=.type "list",data:=.seq its.toArray n}
 | .tup xs=>xs.length<=sizeLine/\∃its:List Value,Vals xs its/\IsTup h a its.toArray
 | .dK kvs=>kvs.length<=sizeLine/\(a==sysModules)=false/\∃vs,KV kvs vs/\h.DictOf (i6 P w) a vs
 | .dT kvs=>kvs.length<=sizeLine/\(a==sysModules)=false/\∃xs:List (List Key×Addr×Value),
  Paired (fun(p:List Key×V) (q:List Key×Addr×Value)=>p.1=q.1/\H q.2.1=some (.tup (p.1.map kV))/\RelV p.2 q.2.2) kvs xs/\
  ∃o es ep,h.get? a=some o/\o.ExactDict/\o.data=.dict es ep/\es.toList=xs.map (entryOfKey (tupleKind (i6 P w)))/\(xs.map (·.1)).Nodup
 | .set S n=>h.SetOf (intKind P w) a S n
 | .ins C dx fs=>H dx=some (.own a)/\fs.length<=1000/\dx≠a/\h.get? a=some (dP C dx)/\
  ∃mA,h.Ns1 dx mA/\(∀f,p7 (fs.lookup f) (mA f))/\PySem.Within mA (fs.map (·.1))
 | .own _=>∃o,h.get? a=some o
 | .xd fs=>∃mA,h.Ns1 a mA/\∀f,p7 (fs.lookup f) (mA f)
 | .rng lo hi=>∃t u v,h.get? a=some {cls:=.type "range",data:=.fields #[.int lo t,.int hi u,.int 1 v]}
 | .frz o u=>h.get? a=some o/\jQ H h a u
 | .tbl ps=>h.get? a=some {cls:=.none,data:=.fields ps}
 | .met f x=>h.get? a=some (aOQ (.ref f) (.ref x))
 | .ext φ=>φ h/\(∃o,h.get? a=some o)/\∀h1 h2:Heap,φ h1->(∀o,h1.get? a=some o->h2.get? a=some o)->φ h2
def HOk(H:Hp)(h:Heap):Prop:=∀a o,H a=some o->jQ P w H h a o
end
section
variable {P:Program}{w:World}{H H':Hp}{h h':Heap}{a:Addr}{o:HO}
theorem jQ.lt(x:jQ P w H h a o):a<h.objs.size:=by
 cases o with
 |lst xs=>obtain⟨_,_,_,_,e⟩:=x;exact Heap.lt_size e
 |tup xs=>obtain⟨_,_,_,p⟩:=x;exact p.lt
 |dK kvs=>obtain⟨_,_,_,_,o,_,_,e,_⟩:=x;exact Heap.lt_size e
 |dT kvs=>obtain⟨_,_,_,_,o,_,_,e,_⟩:=x;exact Heap.lt_size e
 |set S n=>obtain⟨o,_,_,_,e,_⟩:=x;exact Heap.lt_size e
 |ins C dx fs=>obtain⟨_,_,_,e,_⟩:=x;exact Heap.lt_size e
 |own y=>obtain⟨_,e⟩:=x;exact Heap.lt_size e
 |xd fs=>obtain⟨_,⟨_,_,_,e,_⟩,_⟩:=x;exact Heap.lt_size e
 |rng lo hi=>obtain⟨_,_,_,e⟩:=x;exact Heap.lt_size e
 |frz ob u=>obtain⟨e,_⟩:=x;exact Heap.lt_size e
 |tbl ps=>exact Heap.lt_size (show h.get? a=some _ from x)
 |met f y=>exact Heap.lt_size (show h.get? a=some _ from x)
 |ext φ=>obtain⟨_,⟨_,e⟩,_⟩:=x;exact Heap.lt_size e
theorem Paired.mapP{α β:Type}{F G:α->β->Prop}:∀{gw:List α}{gu:List β},Paired F gw gu->(∀a b,F a b->G a b)->Paired G gw gu
 |_,_,.nil,_=>.nil
 |_,_,.cons r t,f=>.cons (f _ _ r) (Paired.mapP t f)
theorem jQ.stay(x:jQ P w H h a o)(k:∀b u,(b=a\/H b=some (.own a))->h.get? b=some u->h'.get? b=some u)
 (ho:∀b,H b=some (.own a)->H' b=some (.own a))(ht:∀b xs,H b=some (.tup xs)->H' b=some (.tup xs)):jQ P w H' h' a o:=by
 induction o with
 |lst xs=>obtain⟨z,its,n,r,e⟩:=x;exact⟨z,its,n,r,k _ _ (.inl rfl) e⟩
 |tup xs=>obtain⟨z,its,r,ob,e,c⟩:=x;exact⟨z,its,r,ob,k _ _ (.inl rfl) e,c⟩
 |dK kvs=>obtain⟨z,y,vs,r,ob,es,ep,e,c⟩:=x;exact⟨z,y,vs,r,ob,es,ep,k _ _ (.inl rfl) e,c⟩
 |dT kvs=>
  obtain⟨z,y,xs,r,ob,es,ep,e,c⟩:=x
  exact⟨z,y,xs,Paired.mapP r fun p q z=>⟨z.1,ht _ _ z.2.1,z.2.2⟩,ob,es,ep,k _ _ (.inl rfl) e,c⟩
 |set S n=>obtain⟨ob,es,ep,t,e,c⟩:=x;exact⟨ob,es,ep,t,k _ _ (.inl rfl) e,c⟩
 |ins C dx fs=>
  obtain⟨d,z,ne,e,mA,⟨od,es,ep,e2,c⟩,r⟩:=x
  exact⟨ho _ d,z,ne,k _ _ (.inl rfl) e,mA,⟨od,es,ep,k _ _ (.inr d) e2,c⟩,r⟩
 |own y=>obtain⟨ob,e⟩:=x;exact⟨ob,k _ _ (.inl rfl) e⟩
 |xd fs=>obtain⟨mA,⟨od,es,ep,e,c⟩,r⟩:=x;exact⟨mA,⟨od,es,ep,k _ _ (.inl rfl) e,c⟩,r⟩
 |rng lo hi=>obtain⟨t,u,v,e⟩:=x;exact⟨t,u,v,k _ _ (.inl rfl) e⟩
 |frz ob u ih=>obtain⟨e,q⟩:=x;exact⟨k _ _ (.inl rfl) e,ih q⟩
 |tbl ps=>
  have e:h.get? a=some {cls:=.none,data:=.fields ps}:=x;show h'.get? a=some {cls:=.none,data:=.fields ps}
  exact k a _ (.inl rfl) e
 |met f y=>
  have e:h.get? a=some (aOQ (.ref f) (.ref y)):=x;show h'.get? a=some (aOQ (.ref f) (.ref y))
  exact k a _ (.inl rfl) e
 |ext φ=>obtain⟨p,⟨o,e⟩,st⟩:=x;exact⟨st _ _ p fun o q=>k _ _ (.inl rfl) q,⟨o,k _ _ (.inl rfl) e⟩,st⟩
theorem HOk.lt(x:HOk P w H h)(e:H a=some o):a<h.objs.size:=(x a o e).lt
theorem HOk.fresh(x:HOk P w H h)(e:h.objs.size<=a):H a=none:=by
 cases q:H a with
 |none=>rfl
 |some u=>exact absurd (bN (x.lt q) e) (cQ _)
theorem HOk.kept(x:HOk P w H h)(k:∀b u,h.get? b=some u->h'.get? b=some u):HOk P w H h':=fun a o e=>
 (x a o e).stay (fun b u _ q=>k b u q) (fun _ q=>q) fun _ _ q=>q
theorem HOk.laid(x:HOk P w H h)(k:∀b u,h.get? b=some u->h'.get? b=some u)(hp:h.objs.size<=a)(new:jQ P w (upd H a o) h' a o):HOk P w (upd H a o) h':=fun b u e=>by
 have hn:=x.fresh hp;by_cases hb:b=a
 ·subst hb;rw[i9]at e;cases e;exact new
 ·rw[fO hb]at e
  exact(x b u e).stay (fun c v _ q=>k c v q) (fun c q=>by rw[fO (nS q hn)];exact q) fun c xs q=>by rw[fO (nS q hn)];exact q
end
def Rd(H:Hp)(a:Addr)(u:HO):Prop:=H a=some u\/∃o,H a=some (.frz o u)
theorem Rd.ok{P:Program}{w:World}{H:Hp}{h:Heap}{a:Addr}{u:HO}(r:Rd H a u)(x:HOk P w H h):jQ P w H h a u:=by
 rcases r with r| ⟨o,r⟩
 ·exact x a u r
 ·obtain⟨_,q⟩:=x a _ r
  exact q
def Mut:Option HO->Prop
 |some (.lst _)=>True
 |some (.dK _)=>True
 |some (.dT _)=>True
 |some (.set _ _)=>True
 |some (.ins _ _ _)=>True
 |some (.ext _)=>True
 |_=>False
section
variable {P:Program}{w:World}{H:Hp}{h h':Heap}{x e:Addr}{o':HO}
theorem HOk.write(ok:HOk P w H h)(mu:Mut (H x))(he:e=x\/H e=some (.own x))(k:∀b u,b≠e->h.get? b=some u->h'.get? b=some u)(ow:∃u,h'.get? e=some u)
 (new:jQ P w (upd H x o') h' x o'):HOk P w (upd H x o') h':=fun b u q=>by
 have qq:∀c y,H c=some (.own y)->c≠x:=fun c y r z=>by subst z;rw[r]at mu;exact mu
 have wg:∀c xs,H c=some (.tup xs)->c≠x:=fun c xs r z=>by subst z;rw[r]at mu;exact mu
 by_cases hb:b=x
 ·subst hb;rw[i9]at q;cases q;exact new
 ·rw[fO hb]at q;by_cases iz:b=e
  ·have q':H b=some (.own x):=by
    rcases he with z|z
    ·exact absurd (iz.trans z) hb
    ·rw[iz];exact z
   rw[q]at q';cases q';obtain⟨v,hv⟩:=ow
   exact⟨v,by rw[iz];exact hv⟩
  ·refine(ok b u q).stay (fun c v hc r=>k c v ?_ r) (fun c r=>by rw[fO (qq c b r)];exact r) fun c xs r=>by rw[fO (wg c xs r)];exact r
   rcases hc with rfl|hc
   ·exact iz
   ·rintro rfl;rcases he with z|z
    ·exact qq c b hc z
    ·rw[hc]at z;cases z;exact hb rfl
end
structure Un(fs ex:List Addr)(H H':Hp)(h h':Heap):Prop where
 keep:∀b o,h.get? b=some o->H b=none->b∉fs->b∉ex->h'.get? b=some o
 slot:∀b o,h.get? b=some o->H b=none->b∈fs->b∉ex->∃sl,h'.get? b=some {o with slots:=sl}
 free:∀b o,h.get? b=some o->H b=none->b∉ex->H' b=none
 there:∀b o,h.get? b=some o->b∉ex->∃o',h'.get? b=some o'
 tups:∀b xs,H b=some (.tup xs)->H' b=some (.tup xs)
 frzs:∀b o u,H b=some (.frz o u)->H' b=some (.frz o u)
 tbls:∀b ps,H b=some (.tbl ps)->∃more,H' b=some (.tbl (ps++more))
section
variable {fs pe ex ze:List Addr}{H H1 H2:Hp}{h h1 h2 h':Heap}{a x e:Addr}{o:HO}
theorem Un.any(u:Un fs ex H H1 h h1){b:Addr}{ob:Obj}(q:h.get? b=some ob)(n:H b=none)(hx:b∉ex):∃sl,h1.get? b=some {ob with slots:=sl}:=by
 by_cases hb:b∈fs
 ·exact u.slot b ob q n hb hx
 ·exact⟨ob.slots,u.keep b ob q n hb hx⟩
theorem Un.kept(k:∀b u,h.get? b=some u->h'.get? b=some u):Un fs ex H H h h':=
 ⟨fun b ob q _ _ _=>k b ob q,fun b ob q _ _ _=>⟨ob.slots,k b ob q⟩,fun _ _ _ n _=>n,fun b ob q _=>⟨ob,k b ob q⟩,fun _ _ q=>q,fun _ _ _ q=>q,fun _ ps q=>⟨#[],by rw[q];simp⟩⟩
theorem Un.refl:Un fs ex H H h h:=Un.kept fun _ _ q=>q
theorem Un.laid(k:∀b u,h.get? b=some u->h'.get? b=some u)(hp:h.objs.size<=a)(hn:H a=none):Un fs ex H (upd H a o) h h' where
 keep:=fun b u q _ _ _=>k b u q
 slot:=fun b u q _ _ _=>⟨u.slots,k b u q⟩
 free:=fun b u q n _=>by rw[fO (bU (bN (Heap.lt_size q) hp))];exact n
 there:=fun b u q _=>⟨u,k b u q⟩
 tups:=fun b xs q=>by rw[fO (nS q hn)];exact q
 frzs:=fun b u xs q=>by rw[fO (nS q hn)];exact q
 tbls:=fun b ps q=>⟨#[],by rw[fO (nS q hn),q];simp⟩
theorem Un.write(mu:Mut (H x))(he:e=x\/H e=some (.own x))(k:∀b u,b≠e->h.get? b=some u->h'.get? b=some u)(ow:∃u,h'.get? e=some u):Un fs ex H (upd H x o) h h':=by
 have hx:∀b,H b=none->b≠x:=fun b n z=>by subst z;rw[n]at mu;exact mu
 have hb:∀b,H b=none->b≠e:=fun b n z=>by
  subst z;rcases he with r|r
  ·exact hx b n r
  ·rw[n]at r;cases r
 have hm:∀b u,H b=some u->¬Mut (some u)->b≠x:=fun b u q nm z=>by subst z;rw[q]at mu;exact nm mu
 refine⟨fun b u q n _ _=>k b u (hb b n) q,fun b u q n _ _=>⟨u.slots,k b u (hb b n) q⟩,fun b u q n _=>by rw[fO (hx b n)];exact n,fun b u q _=>?_,
  fun b xs q=>by rw[fO (hm b _ q fun z=>z)];exact q,fun b u xs q=>by rw[fO (hm b _ q fun z=>z)];exact q,fun b ps q=>⟨#[],by rw[fO (hm b _ q fun z=>z),q];simp⟩⟩
 by_cases iz:b=e
 ·subst iz;exact ow
 ·exact⟨u,k b u iz q⟩
end
noncomputable def trk(h:Heap)(H:Hp):List Addr:=(bK h.objs.size).filter fun a=>(H a).isSome
def aBf(h:Heap)(H:Hp):Heap:=PySem.W.hideAll h (trk h H)
theorem aFQ(h:Heap)(H:Hp):(aBf h H).objs.size=h.objs.size:=PySem.W.hideAll_size _ _
theorem aHK{h:Heap}{H:Hp}{b:Addr}{o:Obj}(e:h.get? b=some o)(n:H b=none):(aBf h H).get? b=some o:=
 PySem.W.hideAll_get _ e fun hm=>by
  have q:(H b).isSome=true:=(c8.mp hm).2;rw[n]at q;simp at q
theorem aJS{h:Heap}{H:Hp}{b:Addr}{o:Obj}(e:(aBf h H).get? b=some o):h.get? b=some o/\H b=none:=by
 have e':h.get? b=some o:=PySem.W.of_hideAll (trk h H) e
 refine⟨e',?_⟩
 cases q:H b with
 |none=>rfl
 |some x=>
  have hm:b∈trk h H:=c8.mpr ⟨cG.mpr (Heap.lt_size e'),by simp[q]⟩;have z:(aBf h H).get? b=none:=PySem.W.hideAll_none (trk h H) hm;rw[z]at e;cases e
noncomputable def allNews(g h:Heap)(L:Addr):List (Addr×Obj):=(bK h.objs.size).filterMap fun a=>if a=L\/(g.get? a).isSome=true then none else(h.get? a).map fun o=>(a,o)
def rest(g h:Heap)(L d:Addr):List (Addr×Obj):=(allNews g h L).filter fun p=>decide (p.1≠d)
structure Mod(K:aO)(mg:Str->Option Value)(base:Heap):Prop where
 kin:K.In base
 glob:base.Ns mainGlobals mg
 blt:∃mb,base.Ns builtinsNs mb/\∀x:Str,x≠"__name__"->mb x=bootBuiltins x
 nolimit:base.NoLimit
structure Cx where
 prog:Program
 w:World
 K:aO
 mg:Str->Option Value
 base:Heap
 A:Around
 N:List Str
 s₀:Shared
 H₀:Hp
 env:Env
 outer:List Env
 stack:List Env
 ex:List Addr
 fn:Str->Bool
 calm:Bool
 pn:List (Addr×Obj)
 xe:Value->Shared->Prop
noncomputable def frs(l:List Env):List Addr:=l.filterMap (·.frame)
abbrev Cx.fs(X:Cx):List Addr:=frs X.outer
def Vis(sc:Scope)(x:Str):Prop:=sc.names.lookup x=some .local\/sc.names.lookup x=some .cell\/sc.names.lookup x=some .free
def Loc(sc:Scope)(x:Str):Prop:=sc.names.lookup x=some .local\/sc.names.lookup x=some .cell
def Look(env:Env)(h:Heap)(m:Str->Option Value)(x:Str)(u:Value):Prop:=
 (env.kindOf x=some .local/\m x=some u)\/((env.kindOf x=some .cell\/env.kindOf x=some .free)/\∃c,env.cells.lookup x=some c/\h.IsCell c (some u))
structure Cx.Ok(X:Cx):Prop where
 mod:Mod X.K X.mg X.base
 kind:X.env.scope.kind=.function
 glob:X.env.globals=mainGlobals
 blt:X.env.builtins=builtinsNs
 above:X.s₀.heap.objs.size<=X.env.locals
 inj:∀x y c,X.env.cells.lookup x=some c->X.env.cells.lookup y=some c->x=y
 has:∀x,(X.env.kindOf x=some .cell\/X.env.kindOf x=some .free)->∃c,X.env.cells.lookup x=some c
 cab:∀x c,X.fn x=true->X.env.cells.lookup x=some c->X.s₀.heap.objs.size<=c
 hd:X.calm=true->X.A.handled=none
 frames:X.A.frames=some X.stack
 stk:X.stack=X.outer\/(X.stack=X.env::X.outer/\X.env.frame=some X.env.locals)
 exf:∀b∈X.ex,b≠X.env.locals/\∀x c,X.env.cells.lookup x=some c->c≠b
 bs:∀b o,X.base.get? b=some o->X.s₀.heap.get? b=some o/\X.H₀ b=none
 bsz:X.base.objs.size<=X.s₀.heap.objs.size
 noex:∀b o,X.base.get? b=some o->b∉X.ex
 exfs:∀b∈X.ex,b∉X.fs
 funs:X.s₀.heap.FunFrames X.base X.outer
 frf:∀b∈X.fs,X.H₀ b=none
structure Inv(X:Cx)(aa:List (Addr×Obj))(σ:List (Option V))(H:Hp)(s:Shared):Prop where
 ok:X.Ok
 os:s.os=X.s₀.os
 bare:AllBare s.gens
 base:Un X.fs X.ex X.H₀ H X.s₀.heap s.heap
 loc:∃m,s.heap.Ns X.env.locals m/\∀(i:Nat)(x:Str)(v:V),X.N[i]?=some x->σ[i]?=some (some v)->Vis X.env.scope x->∃u,RelV v u/\Look X.env s.heap m x u
 cell:∀x c,X.env.cells.lookup x=some c->∃v,s.heap.IsCell c v
 free:H X.env.locals=none
 freeC:∀x c,X.env.cells.lookup x=some c->H c=none
 pin:∀p∈X.pn++aa,s.heap.get? p.1=some p.2/\H p.1=none/\p.1≠X.env.locals/\p.1∉X.fs/\∀v,p.2.data≠ .cell v
 hok:HOk X.prog X.w H s.heap
 len:σ.length=X.N.length
section
variable {X:Cx}{aa:List (Addr×Obj)}{σ:List (Option V)}{H H':Hp}{s:Shared}{h':Heap}
variable{g':Array GenState}{t' i:Nat}{d':Drawn}{ch:List Addr}{x:Str}{M:Model}{A:Around}{E:Value->Shared->Prop}{v:V}{u:Value}{Q:Unit->Shared->Prop}
theorem Cx.Ok.nofr(ok:X.Ok){b:Addr}{o:Obj}(e:X.base.get? b=some o):b∉X.fs:=fun hb=>by
 have:=(ok.funs.mem hb).1;rw[e]at this;cases this
theorem Inv.bs(I:Inv X aa σ H s):∀b o,X.base.get? b=some o->s.heap.get? b=some o/\H b=none:=fun b o e=>
 ⟨I.base.keep b o (I.ok.bs b o e).1 (I.ok.bs b o e).2 (I.ok.nofr e) (I.ok.noex b o e),I.base.free b o (I.ok.bs b o e).1 (I.ok.bs b o e).2 (I.ok.noex b o e)⟩
theorem Inv.bk(I:Inv X aa σ H s):∀b o,X.base.get? b=some o->s.heap.get? b=some o:=fun b o e=>(I.bs b o e).1
theorem Inv.mod(I:Inv X aa σ H s):Mod X.K X.mg X.base:=I.ok.mod
theorem Inv.kIn(I:Inv X aa σ H s):X.K.In s.heap:=I.ok.mod.kin.keeps I.bk
theorem Inv.lt(I:Inv X aa σ H s):X.env.locals<s.heap.objs.size:=let ⟨_,hn,_⟩:=I.loc;hn.lt
theorem Inv.sz(I:Inv X aa σ H s):X.s₀.heap.objs.size<=s.heap.objs.size:=cA I.ok.above (aPs I.lt)
theorem Inv.nofs(I:Inv X aa σ H s){a:Addr}(h:s.heap.objs.size<=a):a∉X.fs:=fun hb=>by
 obtain⟨_,o,ho,_⟩:=I.ok.funs.mem hb
 exact absurd (bN (Heap.lt_size ho) (cA I.sz h)) (cQ _)
theorem Inv.cne(I:Inv X aa σ H s):∀x c,X.env.cells.lookup x=some c->c≠X.env.locals:=fun x c e z=>by
 obtain⟨v,o,ho,hd⟩:=I.cell x c e;obtain⟨m,⟨o',es,ep,ip,jg,_⟩,_⟩:=I.loc;rw[z,ip]at ho;cases ho;rw[jg]at hd;cases hd
theorem Inv.funs(I:Inv X aa σ H s):s.heap.FunFrames X.base X.outer:=by
 have all:∀(l:List Env),(∀b∈frs l,b∈X.fs)->X.s₀.heap.FunFrames X.base l->s.heap.FunFrames X.base l:=by
  intro l;induction l with
  |nil=>intro _ _;trivial
  |cons env r ih=>
   intro hs hl;obtain⟨hk,⟨L,o,hf,hn,ho,hd⟩,hr⟩:=hl;have hL:L∈X.fs:=hs L (by unfold frs;rw[aOk,hf];exact bJ);obtain⟨sl,e⟩:=I.base.slot L o ho (I.ok.frf L hL) hL fun z=>I.ok.exfs L z hL
   exact⟨hk,⟨L,_,hf,hn,e,hd⟩,ih (fun b hb=>hs b (by unfold frs;rw[aOk,hf];exact aU _ hb)) hr⟩
 exact all X.outer (fun _ hb=>hb) I.ok.funs
theorem Inv.stack(I:Inv X aa σ H s):s.heap.FunFrames X.base X.stack:=by
 rcases I.ok.stk with e| ⟨e,hf⟩
 ·rw[e];exact I.funs
 ·rw[e];obtain⟨m,hn,_⟩:=I.loc
  refine .cons (by rw[I.ok.kind];decide) hf hn ?_ I.funs
  exact Heap.get?_none_of_le (cA I.ok.bsz I.ok.above)
theorem Inv.stkSub(I:Inv X aa σ H s):∀b∈frs X.stack,b∈X.env.locals::X.fs:=fun b hb=>by
 rcases I.ok.stk with e| ⟨e,hf⟩
 ·rw[e]at hb;exact aU _ hb
 ·rw[e]at hb;unfold frs at hb;rw[aOk,hf]at hb
  exact hb
theorem Inv.stkFree(I:Inv X aa σ H s):∀b∈frs X.stack,H b=none:=fun b hb=>by
 rcases bE.mp (I.stkSub b hb)with e|hb
 ·rw[e];exact I.free
 ·obtain⟨_,o,ho,_⟩:=I.ok.funs.mem hb
  exact I.base.free b o ho (I.ok.frf b hb) fun z=>I.ok.exfs b z hb
theorem Inv.step(I:Inv X aa σ H s)
 (bv:∀b∈ch,(b∈X.ex\/X.s₀.heap.objs.size<=b)/\b≠X.env.locals/\(∀x c,X.env.cells.lookup x=some c->c≠b)/\∀p∈X.pn++aa,p.1≠b)
 (keep:∀b o,b≠X.env.locals->b∉X.fs->b∉ch->s.heap.get? b=some o->H b=none->h'.get? b=some o)
 (slot:∀b o,b≠X.env.locals->b∈X.fs->b∉ch->s.heap.get? b=some o->H b=none->∃sl,h'.get? b=some {o with slots:=sl})(free:∀b o,b∉ch->s.heap.get? b=some o->H b=none->H' b=none)
 (there:∀b o,b∉ch->s.heap.get? b=some o->∃o',h'.get? b=some o')
 (tups:∀b xs,H b=some (.tup xs)->H' b=some (.tup xs))(frzs:∀b o u,H b=some (.frz o u)->H' b=some (.frz o u))(tbls:∀b ps,H b=some (.tbl ps)->∃more,H' b=some (.tbl (ps++more)))
 (ns:∀m,s.heap.Ns X.env.locals m->h'.Ns X.env.locals m)(hok:HOk X.prog X.w H' h')(hg:AllBare g'):
 Inv X aa σ H' {s with heap:=h',gens:=g',drawn:=d',toks:=t'}:=by
 have neL:∀b o,X.s₀.heap.get? b=some o->b≠X.env.locals:=fun b o e=>bU (bN (Heap.lt_size e) I.ok.above)
 have ut:∀b o,X.s₀.heap.get? b=some o->b∉X.ex->b∉ch:=fun b o e hx hb=>by
  rcases(bv b hb).1 with z|z
  ·exact hx z
  ·exact absurd (bN (Heap.lt_size e) z) (cQ _)
 have cellK:∀x c,X.env.cells.lookup x=some c->∀v,s.heap.IsCell c v->h'.IsCell c v:=fun x c e v ⟨o,ho,hd⟩=>by
  have il:c∉ch:=fun z=>(bv c z).2.2.1 x c e rfl
  by_cases hc:c∈X.fs
  ·obtain⟨sl,q⟩:=slot c o (I.cne x c e) hc il ho (I.freeC x c e)
   exact⟨_,q,hd⟩
  ·exact⟨o,keep c o (I.cne x c e) hc il ho (I.freeC x c e),hd⟩
 refine⟨I.ok,I.os,hg,⟨fun b o e n hb hx=>?_,fun b o e n hb hx=>?_,fun b o e n hx=>?_,fun b o e hx=>?_,fun b xs e=>tups b xs (I.base.tups b xs e),fun b o xs e=>frzs b o xs (I.base.frzs b o xs e),fun b ps e=>?_⟩,?_,fun x c e=>?_,?_,fun x c e=>?_,fun p hp=>?_,hok,I.len⟩
 ·exact keep b o (neL b o e) hb (ut b o e hx) (I.base.keep b o e n hb hx) (I.base.free b o e n hx)
 ·obtain⟨sl,e1⟩:=I.base.slot b o e n hb hx;obtain⟨sl',e2⟩:=slot b _ (neL b o e) hb (ut b o e hx) e1 (I.base.free b o e n hx)
  exact⟨sl',e2⟩
 ·obtain⟨o',e1⟩:=I.base.there b o e hx
  exact free b o' (ut b o e hx) e1 (I.base.free b o e n hx)
 ·obtain⟨o',e1⟩:=I.base.there b o e hx
  exact there b o' (ut b o e hx) e1
 ·obtain⟨m1,e1⟩:=I.base.tbls b ps e;obtain⟨m2,e2⟩:=tbls b _ e1
  exact⟨m1++m2,by rw[e2,Array.append_assoc]⟩
 ·obtain⟨m,hn,hl⟩:=I.loc
  refine⟨m,ns m hn,fun i x v e1 e2 e3=>?_⟩
  obtain⟨u,r,l⟩:=hl i x v e1 e2 e3
  refine⟨u,r,?_⟩
  rcases l with l| ⟨k,c,e,z⟩
  ·exact .inl l
  ·exact .inr ⟨k,c,e,cellK x c e _ z⟩
 ·obtain⟨v,z⟩:=I.cell x c e
  exact⟨v,cellK x c e v z⟩
 ·obtain⟨m,⟨o,_,_,ho,_⟩,_⟩:=I.loc
  exact free _ o (fun z=>(bv _ z).2.1 rfl) ho I.free
 ·obtain⟨v,o,ho,hd⟩:=I.cell x c e
  exact free c o (fun z=>(bv c z).2.2.1 x c e rfl) ho (I.freeC x c e)
 ·obtain⟨e,n,ne,nf,d⟩:=I.pin p hp;have il:p.1∉ch:=fun z=>(bv p.1 z).2.2.2 p hp rfl
  exact⟨keep p.1 p.2 ne nf il e n,free p.1 p.2 il e n,ne,nf,d⟩
theorem Inv.un(I:Inv X aa σ H s)(u:Un X.fs [] H H' s.heap h')(hok:HOk X.prog X.w H' h'):Inv X aa σ H' {s with heap:=h',toks:=t'}:=by
 obtain⟨m,⟨o,es,ep,ho,r⟩,_⟩:=id I.loc;obtain⟨sl,hL⟩:=u.any ho I.free (by simp)
 exact I.step (g':=s.gens) (d':=s.drawn) (ch:=[]) (fun _ z=>nomatch z) (fun b o _ hb _ e n=>u.keep b o e n hb (by simp)) (fun b o _ hb _ e n=>u.slot b o e n hb (by simp)) (fun b o _ e n=>u.free b o e n (by simp)) (fun b o _ e=>u.there b o e (by simp)) u.tups u.frzs u.tbls (fun m' hm=>by
  obtain⟨o',zf,zg,ip,r'⟩:=hm;rw[ho]at ip;cases ip
  exact⟨_,zf,zg,hL,r'⟩) hok I.bare
theorem Inv.call(I:Inv X aa σ H s)(u:Un (frs X.stack) ch H H' s.heap h')(hok:HOk X.prog X.w H' h')(hg:AllBare g')
 (bv:∀b∈ch,(b∈X.ex\/X.s₀.heap.objs.size<=b)/\b≠X.env.locals/\(∀x c,X.env.cells.lookup x=some c->c≠b)/\∀p∈X.pn++aa,p.1≠b):
 Inv X aa σ H' {s with heap:=h',gens:=g',drawn:=d',toks:=t'}:=by
 obtain⟨m,⟨o,es,ep,ho,r⟩,_⟩:=id I.loc;obtain⟨sl,hL⟩:=u.any ho I.free fun z=>(bv _ z).2.1 rfl
 exact I.step (ch:=ch) bv (fun b o hL hb hc e n=>u.keep b o e n (fun z=>(bE.mp (I.stkSub b z)).elim hL hb) hc) (fun b o _ _ hc e n=>u.any e n hc) (fun b o hc e n=>u.free b o e n hc) (fun b o hc e=>u.there b o e hc) u.tups u.frzs u.tbls (fun m' hm=>by
  obtain⟨o',zf,zg,ip,r'⟩:=hm;rw[ho]at ip;cases ip
  exact⟨_,zf,zg,hL,r'⟩) hok hg
theorem Inv.turned{it:Addr}(I:Inv X aa σ H s)(k:∀b o,b≠it->s.heap.get? b=some o->h'.get? b=some o)(hn:H it=none)(hL:it≠X.env.locals)
 (h1:it∈X.ex\/X.s₀.heap.objs.size<=it)(h2:∀x c,X.env.cells.lookup x=some c->c≠it)(h3:∀p∈X.pn++aa,p.1≠it):Inv X aa σ H {s with heap:=h',toks:=t'}:=by
 have nit:∀b u,H b=some u->b≠it:=fun b u e z=>by rw[z,hn]at e;cases e
 refine I.step (g':=s.gens) (d':=s.drawn) (ch:=[it]) (fun b hb=>?_) (fun b o _ _ hc e _=>k b o (fun z=>hc (by simp[z])) e) (fun b o _ _ hc e _=>⟨o.slots,k b o (fun z=>hc (by simp[z])) e⟩) (fun _ _ _ _ n=>n)
  (fun b o hc e=>⟨o,k b o (fun z=>hc (by simp[z])) e⟩) (fun _ _ e=>e) (fun _ _ _ e=>e) (fun b ps e=>⟨#[],by rw[e];simp⟩) (fun m hm=>?_) (fun b u e=>?_) I.bare
 ·have e:b=it:=by simpa using hb
  subst e
  exact⟨h1,hL,h2,h3⟩
 ·obtain⟨o,es,ep,ho,r⟩:=hm
  exact⟨o,es,ep,k _ o (Ne.symm hL) ho,r⟩
 ·refine(I.hok b u e).stay (fun c v hc q=>k c v ?_ q) (fun _ q=>q) fun _ _ q=>q
  rcases hc with z|z
  ·rw[z];exact nit b u e
  ·exact nit c _ z
theorem Inv.tok(I:Inv X aa σ H s)(t:Nat):Inv X aa σ H {s with toks:=t}:=I.un (h':=s.heap) (t':=t) Un.refl I.hok
theorem Inv.kept(I:Inv X aa σ H s)(k:∀b u,s.heap.get? b=some u->h'.get? b=some u):Inv X aa σ H {s with heap:=h',toks:=t'}:=I.un (Un.kept k) (I.hok.kept k)
theorem Inv.laid{a:Addr}{o:HO}(I:Inv X aa σ H s)(k:∀b u,s.heap.get? b=some u->h'.get? b=some u)(hp:s.heap.objs.size<=a)(new:jQ X.prog X.w (upd H a o) h' a o):
 Inv X aa σ (upd H a o) {s with heap:=h',toks:=t'}:=I.un (Un.laid k hp (I.hok.fresh hp)) (I.hok.laid k hp new)
theorem Inv.write{x e:Addr}{o:HO}(I:Inv X aa σ H s)(mu:Mut (H x))(he:e=x\/H e=some (.own x))(k:∀b u,b≠e->s.heap.get? b=some u->h'.get? b=some u)(ow:∃u,h'.get? e=some u)
 (new:jQ X.prog X.w (upd H x o) h' x o):Inv X aa σ (upd H x o) {s with heap:=h',toks:=t'}:=I.un (Un.write mu he k ow) (I.hok.write mu he k ow new)
theorem Inv.pins_of{kc:List (Addr×Obj)}(I:Inv X aa σ H s)(h:∀p∈kc,s.heap.get? p.1=some p.2/\H p.1=none/\p.1≠X.env.locals/\p.1∉X.fs/\∀v,p.2.data≠ .cell v):Inv X kc σ H s:=
 ⟨I.ok,I.os,I.bare,I.base,I.loc,I.cell,I.free,I.freeC,fun p hp=>(bL.mp hp).elim (fun z=>I.pin p (aOx _ z)) (h p),I.hok,I.len⟩
theorem aCG{N:List Str}(hN:N.Nodup){j:Nat}(a:N[i]?=some x)(b:N[j]?=some x):i=j:=by
 obtain⟨h1,e1⟩:=aR.mp a;obtain⟨h2,e2⟩:=aR.mp b
 exact(aOX hN).mp (e1.trans e2.symm)
theorem aAC(I:Inv X aa σ H s)(hN:X.N.Nodup)(hi:X.N[i]?=some x)(hx:Loc X.env.scope x)(r:RelV v u)
 (h:∀s',Inv X aa (σ.set i (some v)) H s'->(∃a,Heap.SameBut a s.heap s'.heap/\(a=X.env.locals\/X.env.cells.lookup x=some a))->Q () s')(hf:X.fn x=true\/X.env.scope.names.lookup x=some .local:=by first|exact .inl rfl|exact .inr rfl|assumption):wpAny M A (storeName X.env x u) Q E s:=by
 obtain⟨m,hn,hl⟩:=id I.loc;have yt:(X.env.scope.kind== .class||(X.env.scope.kind== .module&&X.env.locals !=X.env.globals))=false:=by rw[I.ok.kind];rfl
 have tm:i<σ.length:=by rw[I.len];exact(aR.mp hi).1
 have cne:=I.cne;have tracked:∀{a:Addr}{h':Heap},(∃o,s.heap.get? a=some o/\H a=none)->Heap.SameBut a s.heap h'->HOk X.prog X.w H h':=fun {a h'} ha hs b ob e=>by
  obtain⟨_,_,dq⟩:=ha
  refine(I.hok b ob e).stay (fun c w' hc q=>(hs.2 c ?_).trans q) (fun _ q=>q) fun _ _ q=>q
  rintro rfl;rcases hc with rfl|hc
  ·rw[dq]at e;cases e
  ·rw[dq]at hc;cases hc
 rcases hx with hk|hk
 ·refine wpAny_storeName_local hk hn (fun h' kj hs=>?_) yt
  obtain⟨oL,_,_,hoL,_⟩:=id hn
  refine h _ ⟨I.ok,I.os,I.bare,⟨fun b o e n hb hx=>?_,fun b o e n hb hx=>?_,I.base.free,fun b o e hx=>?_,I.base.tups,I.base.frzs,I.base.tbls⟩,⟨_,kj,fun j y v' e1 e2 e3=>?_⟩,fun y c e=>?_,I.free,I.freeC,fun p hp=>?_,tracked ⟨oL,hoL,I.free⟩ hs,by simpa using I.len⟩ ⟨_,hs,.inl rfl⟩
  ·exact(hs.2 b (bU (bN (Heap.lt_size e) I.ok.above))).trans (I.base.keep b o e n hb hx)
  ·obtain⟨sl,e1⟩:=I.base.slot b o e n hb hx
   exact⟨sl,(hs.2 b (bU (bN (Heap.lt_size e) I.ok.above))).trans e1⟩
  ·obtain⟨o',e1⟩:=I.base.there b o e hx
   exact⟨o',(hs.2 b (bU (bN (Heap.lt_size e) I.ok.above))).trans e1⟩
  ·by_cases hj:j=i
   ·subst hj;rw[hi]at e1;cases e1;rw[bO tm]at e2;cases e2
    exact⟨u,r,.inl ⟨hk,by simp⟩⟩
   ·rw[aQ (Ne.symm hj)]at e2;obtain⟨u',r',q⟩:=hl j y v' e1 e2 e3
    refine⟨u',r',?_⟩
    rcases q with⟨k,e⟩| ⟨k,c,e,z⟩
    ·refine .inl ⟨k,?_⟩
     have:y≠x:=fun e=>hj (aCG hN e1 (e ▸ hi))
     simp[this,e]
    ·exact .inr ⟨k,c,e,z.sameBut hs (cne y c e)⟩
  ·obtain⟨w',z⟩:=I.cell y c e
   exact⟨w',z.sameBut hs (cne y c e)⟩
  ·obtain⟨e,n,ne,nf,d⟩:=I.pin p hp
   exact⟨(hs.2 p.1 ne).trans e,n,ne,nf,d⟩
 ·have yl:X.fn x=true:=by
   rcases hf with z|z
   ·exact z
   ·rw[z]at hk;cases hk
  obtain⟨c,hc⟩:=I.ok.has x (.inl hk);obtain⟨w',z⟩:=I.cell x c hc
  refine wpAny_storeName_cell I.ok.kind hk hc z (fun h' oy hs=>?_)
  obtain⟨oc,hoc,xz⟩:=id z
  refine h {s with heap:=h'} ⟨I.ok,I.os,I.bare,⟨fun b o e n hb hx=>?_,fun b o e n hb hx=>?_,I.base.free,fun b o e hx=>?_,I.base.tups,I.base.frzs,I.base.tbls⟩,⟨m,hn.sameBut hs (Ne.symm (cne x c hc)),fun j y v' e1 e2 e3=>?_⟩,fun y c' e=>?_,I.free,I.freeC,fun p hp=>?_,tracked ⟨oc,hoc,I.freeC x c hc⟩ hs,by simpa using I.len⟩ ⟨c,hs,.inr hc⟩
  ·exact(hs.2 b (bU (bN (Heap.lt_size e) (I.ok.cab x c yl hc)))).trans (I.base.keep b o e n hb hx)
  ·obtain⟨sl,e1⟩:=I.base.slot b o e n hb hx
   exact⟨sl,(hs.2 b (bU (bN (Heap.lt_size e) (I.ok.cab x c yl hc)))).trans e1⟩
  ·obtain⟨o',e1⟩:=I.base.there b o e hx
   exact⟨o',(hs.2 b (bU (bN (Heap.lt_size e) (I.ok.cab x c yl hc)))).trans e1⟩
  ·by_cases hj:j=i
   ·subst hj;rw[hi]at e1;cases e1;rw[bO tm]at e2;cases e2
    exact⟨u,r,.inr ⟨.inl hk,c,hc,oy⟩⟩
   ·rw[aQ (Ne.symm hj)]at e2;obtain⟨u',r',q⟩:=hl j y v' e1 e2 e3
    refine⟨u',r',?_⟩
    rcases q with q| ⟨k,c',e,z'⟩
    ·exact .inl q
    ·refine .inr ⟨k,c',e,z'.sameBut hs ?_⟩
     rintro rfl
     exact hj (aCG hN e1 (I.ok.inj _ _ _ e hc ▸ hi))
  ·by_cases hcc:c'=c
   ·subst hcc;exact⟨_,oy⟩
   ·obtain⟨w2,z2⟩:=I.cell y c' e
    exact⟨w2,z2.sameBut hs hcc⟩
  ·obtain⟨e,n,ne,nf,d⟩:=I.pin p hp
   refine⟨(hs.2 p.1 ?_).trans e,n,ne,nf,d⟩
   intro q;rw[q,hoc]at e;have q':oc=p.2:=cO.inj e
   exact d w' (by rw[<-q'];exact xz)
theorem wW(I:Inv X aa σ H s)(hN:X.N.Nodup)(hi:X.N[i]?=some x)(hx:Loc X.env.scope x)(r:RelV v u)
 (h:∀s',Inv X aa (σ.set i (some v)) H s'->Q () s')(hf:X.fn x=true\/X.env.scope.names.lookup x=some .local:=by first|exact .inl rfl|exact .inr rfl|assumption):wpAny M A (storeName X.env x u) Q E s:=
 aAC I hN hi hx r (fun s' I' _=>h s' I') hf
theorem Inv.call'{s':Shared}(I:Inv X aa σ H s)(ho:s'.os=s.os)(u:Un (frs X.stack) ch H H' s.heap s'.heap)(hok:HOk X.prog X.w H' s'.heap)(hg:AllBare s'.gens)
 (bv:∀b∈ch,(b∈X.ex\/X.s₀.heap.objs.size<=b)/\b≠X.env.locals/\(∀x c,X.env.cells.lookup x=some c->c≠b)/\∀p∈X.pn++aa,p.1≠b):Inv X aa σ H' s':=by
 obtain⟨h',g',d',t',o'⟩:=s';have e:o'=s.os:=ho;subst e
 exact I.call (g':=g') (t':=t') (d':=d') u hok hg bv
end
abbrev XK:=Value->Option Addr->Hp->Prop
noncomputable abbrev St:=List (Option V)
abbrev VK:=V->Hp->Prop
abbrev TE:=St->Hp->VK->Prop
abbrev TT:=St->Hp->(Bool->Hp->Prop)->Prop
abbrev TA:=St->Hp->(List V->Hp->Prop)->Prop
structure Ends where
 nx:St->Hp->Prop
 rt:VK
 bk:St->Hp->Prop:=fun _ _=>False
 ct:St->Hp->Prop:=fun _ _=>False
abbrev TS:=Ends->St->Hp->Prop
def EP(X:Cx)(aa:List (Addr×Obj))(σ:St)(Q:VK)(u:Value)(s':Shared):Prop:=∃v H',Inv X aa σ H' s'/\RelV v u/\Q v H'
def TP(X:Cx)(aa:List (Addr×Obj))(σ:St)(Q:Bool->Hp->Prop)(b:Bool)(s':Shared):Prop:=∃H',Inv X aa σ H' s'/\Q b H'
def AP(X:Cx)(aa:List (Addr×Obj))(σ:St)(Q:List V->Hp->Prop)(us:List Value)(s':Shared):Prop:=∃vs H',Inv X aa σ H' s'/\Vals vs us/\Q vs H'
def SP(X:Cx)(aa:List (Addr×Obj))(D:Ends)(f:Flow)(s':Shared):Prop:=
 match f with
 | .next=>∃ah H',Inv X aa ah H' s'/\D.nx ah H'
 | .brk=>∃ah H',Inv X aa ah H' s'/\D.bk ah H'
 | .cont=>∃ah H',Inv X aa ah H' s'/\D.ct ah H'
 | .ret u=>∃v ah H',Inv X aa ah H' s'/\RelV v u/\D.rt v H'
def PE(X:Cx)(e:Expr)(t:TE):Prop:=
 ∀(aa:List (Addr×Obj))(s:Shared)(σ:St)(H:Hp)(Q:VK),Inv X aa σ H s->t σ H Q->wpAny (model X.prog X.w) X.A (eval e X.env) (EP X aa σ Q) X.xe s
def PT(X:Cx)(e:Expr)(t:TT):Prop:=
 ∀(aa:List (Addr×Obj))(s:Shared)(σ:St)(H:Hp)(Q:Bool->Hp->Prop),Inv X aa σ H s->t σ H Q->wpAny (model X.prog X.w) X.A (isTrue e X.env (eval e X.env)) (TP X aa σ Q) X.xe s
def PW(X:Cx)(e:Expr)(t:TT):Prop:=
 ∀(whole:Sem Value)(aa:List (Addr×Obj))(s:Shared)(σ:St)(H:Hp)(Q:Bool->Hp->Prop),Inv X aa σ H s->t σ H Q->wpAny (model X.prog X.w) X.A (isTrue e X.env whole) (TP X aa σ Q) X.xe s
theorem PW.pt{X:Cx}{e:Expr}{t:TT}(h:PW X e t):PT X e t:=h _
def PA(X:Cx)(es:List Expr)(t:TA):Prop:=
 ∀(pos:Pos)(aa:List (Addr×Obj))(s:Shared)(σ:St)(H:Hp)(Q:List V->Hp->Prop),Inv X aa σ H s->t σ H Q->wpAny (model X.prog X.w) X.A (spliced (backTo pos (starEach es X.env))) (AP X aa σ Q) X.xe s
def PS(X:Cx)(st:Stmt)(t:TS):Prop:=
 ∀(aa:List (Addr×Obj))(s:Shared)(σ:St)(H:Hp)(D:Ends),Inv X aa σ H s->t D σ H->wpAny (model X.prog X.w) X.A (exec st X.env) (SP X aa D) X.xe s
def PSs(X:Cx)(st:List Stmt)(t:TS):Prop:=
 ∀(aa:List (Addr×Obj))(s:Shared)(σ:St)(H:Hp)(D:Ends),Inv X aa σ H s->t D σ H->wpAny (model X.prog X.w) X.A (execs st X.env) (SP X aa D) X.xe s
theorem thn{α:Type}{t:Sem α}{Q Q':α->Shared->Prop}{M:Model}{A:Around}{E:Value->Shared->Prop}{s:Shared}(h:wpAny M A t Q E s)(hQ:∀a s,Q a s->Q' a s):wpAny M A t Q' E s:=wpAny_mono h hQ fun _ _ x=>x
section
variable {X:Cx}
variable{x:Str}{pos:Pos}{E Q:Value->Shared->Prop}{aa:List (Addr×Obj)}{s:Shared}{σ:St}{u:Value}{v:V}
noncomputable def tVar(i:Nat):TE:=fun σ H Q=>∃v,σ[i]?=some (some v)/\Q v H
noncomputable def tC(v:V):TE:=fun _ H Q=>Q v H
theorem aLC{i:Nat}(hN:X.N[i]?=some x)(hv:Vis X.env.scope x)(hd:(x==("__debug__":Str))=false:=by decide)(iy:(x==("__classdict__":Str))=false:=by decide):PE X (.Name x pos) (tVar i):=by
 intro aa s σ H Q I h;obtain⟨v,e,h⟩:=h;obtain⟨m,hn,hl⟩:=I.loc;obtain⟨u,r,l⟩:=hl i x v hN e hv;have fin:EP X aa σ Q u s:=⟨v,H,I,r,h⟩;rcases l with⟨hk,hm⟩| ⟨hk,c,hc,gm⟩
 ·exact wpAny_Name (wpAny_loadName_local I.ok.kind hk hn hm fin) hd
 ·rcases hk with hk|hk
  ·exact wpAny_Name (wpAny_loadName_cell I.ok.kind hk hc gm fin) hd
  ·exact wpAny_Name (wpAny_loadName_free I.ok.kind hk hc gm fin iy) hd
theorem aDK{i j pos}:PE X (.Constant (.int i) j pos) (tC (.int i)):=fun _ _ _ H _ I h=>wpAny_Constant_int ⟨.int i,H,I.tok _,⟨_,rfl⟩,h⟩
theorem aNL{b j pos}:PE X (.Constant (.bool b) j pos) (tC (.bl b)):=fun _ _ _ H _ I h=>Constant_bool ⟨.bl b,H,I,rfl,h⟩
theorem aLt{j pos}:PE X (.Constant .none j pos) (tC .non):=fun _ _ _ H _ I h=>Constant_none ⟨.non,H,I,rfl,h⟩
def Gl(X:Cx)(x:Str):Prop:=X.env.kindOf x=some .globalImplicit
theorem aBn{H:Hp}(I:Inv X aa σ H s)(hg:Gl X x)(hm:X.mg x=some u)(h:Q u s)
 (hd:(x==("__debug__":Str))=false:=by decide):wpAny (model X.prog X.w) X.A (eval (.Name x pos) X.env) Q E s:=
 Calls.Name_function_global I.ok.kind hg (Calls.loadGlobal_global (by rw[I.ok.glob];exact I.mod.glob.keeps I.bk) hm h) hd
theorem qY{H:Hp}(I:Inv X aa σ H s)(hg:Gl X x)(hm:X.mg x=none)(hv:bootBuiltins x=some u)(h:Q u s)
 (hn:x≠"__name__":=by decide)(hd:(x==("__debug__":Str))=false:=by decide):wpAny (model X.prog X.w) X.A (eval (.Name x pos) X.env) Q E s:=by
 obtain⟨mb,h1,h2⟩:=I.mod.blt
 exact Calls.Name_function_global I.ok.kind hg (Calls.loadGlobal_builtin (by rw[I.ok.glob];exact I.mod.glob.keeps I.bk) hm (by rw[I.ok.blt];exact h1.keeps I.bk) ((h2 x hn).trans hv) h) hd
theorem aJh(hg:Gl X x)(hm:X.mg x=some u)(r:RelV v u)(hd:(x==("__debug__":Str))=false:=by decide):PE X (.Name x pos) (tC v):=
 fun _ _ _ H _ I h=>aBn I hg hm ⟨v,H,I,r,h⟩ hd
theorem aKf(hg:Gl X x)(hm:X.mg x=none)(hv:bootBuiltins x=some u)(r:RelV v u)(hn:x≠"__name__":=by decide)(hd:(x==("__debug__":Str))=false:=by decide):PE X (.Name x pos) (tC v):=
 fun _ _ _ H _ I h=>qY I hg hm hv ⟨v,H,I,r,h⟩ hn hd
variable {a b:Expr}{ta tb:TE}{pos:Pos}
def PC(X:Cx)(op:CmpOp)(a b:Expr)(t:TE):Prop:=
 ∀(aa:List (Addr×Obj))(s:Shared)(σ:St)(H:Hp)(Q:VK),Inv X aa σ H s->t σ H Q->
  wpAny (model X.prog X.w) X.A (eval a X.env) (fun v aj=>wpAny (model X.prog X.w) X.A (eval b X.env) (fun u bq=>wpAny (model X.prog X.w) X.A (compareOp op v u) (EP X aa σ Q) X.xe bq) X.xe aj) X.xe s
noncomputable def tB(t:TE):TT:=fun σ H Q=>t σ H fun x H1=>∃c,x=.bl c/\Q c H1
theorem aH9{op:CmpOp}{t:TE}(h:PC X op a b t)(h1:behindInMarks op b=false:=by first|exact qr _ (by decide) (by decide)|rfl):PT X (.Compare a [op] [b] pos) (tB t):=by
 intro aa s σ H Q I hw
 refine wpAny_isTrue_Compare1 (thn (h aa s σ H _ I hw) fun v s1 h1=>thn h1 fun u s2 h2=>thn h2 fun c s3 ⟨x,H1,I1,r1,q1⟩=>?_) h1
 obtain⟨d,rfl,q⟩:=q1;cases r1
 exact wpAny_truthy_bool ⟨H1,I1,q⟩
variable {tA um:TT}{rest:List Expr}
noncomputable def tAnd(t u:TT):TT:=fun σ H Q=>t σ H fun c H1=>if c=true then u σ H1 Q else Q false H1
noncomputable def tOr(t u:TT):TT:=fun σ H Q=>t σ H fun c H1=>if c=true then Q true H1 else u σ H1 Q
noncomputable def tNot(t:TT):TT:=fun σ H Q=>t σ H fun c H1=>Q (!c) H1
theorem aI1(ha:PT X a tA):PW X (.BoolOp .And [a] pos) tA:=by
 intro wh aa s σ H Q I h
 refine isTrue_and (thn (ha aa s σ H Q I h) fun c s1 e=>?_)
 cases c with
 |true=>exact isTrue_and_nil e
 |false=>exact e
theorem aLR(ha:PT X a tA):PW X (.BoolOp .Or [a] pos) tA:=by
 intro wh aa s σ H Q I h
 refine isTrue_or (thn (ha aa s σ H Q I h) fun c s1 e=>?_)
 cases c with
 |false=>exact isTrue_or_nil e
 |true=>exact e
theorem aMF(ha:PT X a tA)(hb:PW X (.BoolOp .And (b::rest) pos) um):PW X (.BoolOp .And (a::b::rest) pos) (tAnd tA um):=by
 intro wh aa s σ H Q I h
 refine isTrue_and (thn (ha aa s σ H _ I h) fun c s1 ⟨H1,I1,q1⟩=>?_)
 cases c with
 |true=>exact hb wh aa s1 σ H1 Q I1 q1
 |false=>exact⟨H1,I1,q1⟩
theorem aNJ(ha:PT X a tA)(hb:PW X (.BoolOp .Or (b::rest) pos) um):PW X (.BoolOp .Or (a::b::rest) pos) (tOr tA um):=by
 intro wh aa s σ H Q I h
 refine isTrue_or (thn (ha aa s σ H _ I h) fun c s1 ⟨H1,I1,q1⟩=>?_)
 cases c with
 |true=>exact⟨H1,I1,q1⟩
 |false=>exact hb wh aa s1 σ H1 Q I1 q1
theorem aLZ(ha:PT X a tA):PT X (.UnaryOp .Not a pos) (tNot tA):=by
 intro aa s σ H Q I h
 exact isTrue_not (ha aa s σ H (fun c H1=>Q (!c) H1) I h)
noncomputable def tAndV(ta tb:TE):TE:=fun σ H Q=>ta σ H fun x H1=>∃c,x=.bl c/\if c=true then tb σ H1 Q else Q (.bl false) H1
noncomputable def tNotV(ta:TE):TE:=fun σ H Q=>ta σ H fun x H1=>∃c,x=.bl c/\Q (.bl (!c)) H1
theorem aMR{op}{t:TE}(h:PE X a t):PE X (.BoolOp op [a] pos) t:=fun aa s σ H Q I hw=>BoolOp_one (h aa s σ H Q I hw)
theorem aMQ(ha:PE X a ta)(hb:PE X (.BoolOp .And (b::rest) pos) tb):PE X (.BoolOp .And (a::b::rest) pos) (tAndV ta tb):=by
 intro aa s σ H Q I h
 refine BoolOp_and (thn (ha aa s σ H _ I h) fun v s1 zz=>?_)
 obtain⟨x,H1,I1,r1,q1⟩:=zz;obtain⟨c,rfl,q1⟩:=q1;cases r1
 refine wpAny_truthy_bool ?_
 cases c with
 |true=>exact hb aa s1 σ H1 Q I1 q1
 |false=>exact⟨.bl false,H1,I1,rfl,q1⟩
theorem aL7(ha:PE X a ta):PE X (.UnaryOp .Not a pos) (tNotV ta):=by
 intro aa s σ H Q I h
 refine UnaryOp_ (thn (ha aa s σ H _ I h) fun v s1 zz=>?_)
 obtain⟨x,H1,I1,r1,q1⟩:=zz;obtain⟨c,rfl,q1⟩:=q1;cases r1
 exact not_of (wpAny_truthy_bool ⟨.bl (!c),H1,I1,rfl,q1⟩)
noncomputable def tIf(t:TT)(ta tb:TE):TE:=fun σ H Q=>t σ H fun c H1=>if c=true then ta σ H1 Q else tb σ H1 Q
theorem aHr{c:Expr}(hc:PT X c tA)(ha:PE X a ta)(hb:PE X b tb):PE X (.IfExp c a b pos) (tIf tA ta tb):=by
 intro aa s σ H Q I h
 refine wpAny_IfExp (thn (hc aa s σ H _ I h) fun d s1 ⟨H1,I1,q1⟩=>?_)
 cases d with
 |true=>exact ha aa s1 σ H1 Q I1 q1
 |false=>exact hb aa s1 σ H1 Q I1 q1
end
variable{x:V}{u:Value}
def SqL(K:aO)(H:Hp)(a:Addr)(xs:List V):Prop:=
 Rd H a (.lst xs)\/
  ∃(o:Obj)(its:Array Value)(n:Nat),K.lookup a=some o/\o.cls=.type "list"/\o.dict=none/\o.data=.seq its n/\its.size<=sizeLine/\Vals xs its.toList
def SqT(K:aO)(H:Hp)(a:Addr)(xs:List V):Prop:=
 Rd H a (.tup xs)\/
  ∃(o:Obj)(its:Array Value)(n:Nat),K.lookup a=some o/\o.cls=.type "tuple"/\o.data=.seq its n/\its.size<=sizeLine/\Vals xs its.toList
noncomputable def absV:Value->Option V
 | .none=>some .non
 | .bool b=>some (.bl b)
 | .int i _=>some (.int i)
 | .str x _=>some (.str x)
 | .bytes b _=>some (.byt b)
 | .float b _=>some (.flt b)
 | .ref a=>some (.ref a)
 | .type n=>some (.ty n)
 |_=>none
theorem RelV.abs(r:RelV x u):absV u=some x:=by
 cases x with
 |non=>cases r;rfl
 |bl _=>cases r;rfl
 |int _=>obtain⟨t,rfl⟩:=r;rfl
 |str _=>obtain⟨t,rfl⟩:=r;rfl
 |byt _=>obtain⟨t,rfl⟩:=r;rfl
 |flt _=>obtain⟨t,rfl⟩:=r;rfl
 |ref _=>cases r;rfl
 |ty _=>cases r;rfl
theorem RelV.inj{y:V}(r:RelV x u)(q:RelV y u):x=y:=cO.inj (r.abs.symm.trans q.abs)
theorem Vals.inj:∀{xs ys:List V}{us:List Value},Vals xs us->Vals ys us->xs=ys
 |_,_,_,.nil,.nil=>rfl
 |_,_,_,.cons r t,.cons r' t'=>by rw[r.inj r',Vals.inj t t']
section
variable {X:Cx}{aa:List (Addr×Obj)}{σ:St}{H:Hp}{s:Shared}{a:Addr}{xs ys:List V}
variable{K:aO}
theorem SqL.of(h:H a=some (.lst xs)):SqL K H a xs:=.inl (.inl h)
theorem SqT.of(h:H a=some (.tup xs)):SqT K H a xs:=.inl (.inl h)
theorem Inv.list(I:Inv X aa σ H s)(h:SqL X.K H a xs):∃its:List Value,Vals xs its/\PlainL s.heap a its.toArray/\xs.length<=sizeLine:=by
 rcases h with h| ⟨o,its,n,hk,hc,hd,hs,hz,r⟩
 ·obtain⟨z,its,n,r,e⟩:=h.ok I.hok
  exact⟨its,r,⟨_,n,e,rfl,rfl,rfl⟩,z⟩
 ·refine⟨its.toList,r,⟨o,n,I.kIn a o hk,hc,hd,by simpa using hs⟩,?_⟩
  have e:=r.length;simp only[cF]at e
  lia
theorem Inv.tuple(I:Inv X aa σ H s)(h:SqT X.K H a xs):∃its:List Value,Vals xs its/\IsTup s.heap a its.toArray/\xs.length<=sizeLine:=by
 rcases h with h| ⟨o,its,n,hk,hc,hs,hz,r⟩
 ·obtain⟨z,its,r,p⟩:=h.ok I.hok
  exact⟨its,r,p,z⟩
 ·refine⟨its.toList,r,⟨o,I.kIn a o hk,hc,n,by simpa using hs⟩,?_⟩
  have e:=r.length;simp only[cF]at e
  lia
theorem Inv.list_inj(I:Inv X aa σ H s)(h:SqL X.K H a xs)(h':SqL X.K H a ys):xs=ys:=by
 obtain⟨its,r,⟨o,n,e,_,_,d⟩,_⟩:=I.list h;obtain⟨its',r',⟨o',n',e',_,_,d'⟩,_⟩:=I.list h';rw[e]at e';cases e';rw[d]at d';injection d' with d1 _
 have:its=its':=by simpa using congrArg Array.toList d1
 subst this
 exact r.inj r'
end
noncomputable abbrev Cx.wish(X:Cx)(E:Value->Shared->Prop):Cx:={X with xe:=E}
abbrev Cx.nox(X:Cx):Cx:=X.wish fun _ _=>False
theorem Cx.Ok.wish{X:Cx}(ok:X.Ok)(E:Value->Shared->Prop):(X.wish E).Ok:=
 ⟨ok.mod,ok.kind,ok.glob,ok.blt,ok.above,ok.inj,ok.has,ok.cab,ok.hd,ok.frames,ok.stk,ok.exf,ok.bs,ok.bsz,ok.noex,ok.exfs,ok.funs,ok.frf⟩
theorem Cx.Ok.unwish{X:Cx}{E:Value->Shared->Prop}(ok:(X.wish E).Ok):X.Ok:=
 ⟨ok.mod,ok.kind,ok.glob,ok.blt,ok.above,ok.inj,ok.has,ok.cab,ok.hd,ok.frames,ok.stk,ok.exf,ok.bs,ok.bsz,ok.noex,ok.exfs,ok.funs,ok.frf⟩
section
variable {X:Cx}{aa:List (Addr×Obj)}{σ:St}{H:Hp}{s:Shared}{E:Value->Shared->Prop}
theorem Inv.wish(I:Inv X aa σ H s)(E:Value->Shared->Prop):Inv (X.wish E) aa σ H s:=⟨I.ok.wish E,I.os,I.bare,I.base,I.loc,I.cell,I.free,I.freeC,I.pin,I.hok,I.len⟩
theorem Inv.unwish(I:Inv (X.wish E) aa σ H s):Inv X aa σ H s:=⟨I.ok.unwish,I.os,I.bare,I.base,I.loc,I.cell,I.free,I.freeC,I.pin,I.hok,I.len⟩
theorem SP.unwish{D:Ends}{f:Flow}{s':Shared}(h:SP (X.wish E) aa D f s'):SP X aa D f s':=by
 cases f with
 |next=>obtain⟨ah,H',I,q⟩:=h;exact⟨ah,H',I.unwish,q⟩
 |brk=>obtain⟨ah,H',I,q⟩:=h;exact⟨ah,H',I.unwish,q⟩
 |cont=>obtain⟨ah,H',I,q⟩:=h;exact⟨ah,H',I.unwish,q⟩
 |ret u=>obtain⟨v,ah,H',I,r,q⟩:=h;exact⟨v,ah,H',I.unwish,r,q⟩
theorem PSs.nox{st:List Stmt}{t:TS}(h:PSs X.nox st t):PSs X st t:=fun aa s σ H D I hw=>
 wpAny_mono (h aa s σ H D (I.wish _) hw) (fun _ _ q=>q.unwish) fun _ _ z=>False.elim z
end
section
variable {X:Cx}{st:Stmt}{rest:List Stmt}{t u:TS}{e:Expr}{te:TE}{pos:Pos}
noncomputable def aH6:TS:=fun D σ H=>D.nx σ H
noncomputable def tSeq(t u:TS):TS:=fun D σ H=>t {D with nx:=u D} σ H
theorem aJW:PSs X [] aH6:=fun _ _ σ H _ I h=>wpAny_execs_nil ⟨σ,H,I,h⟩
theorem aIe(h1:PS X st t)(h2:PSs X rest u):PSs X (st::rest) (tSeq t u):=by
 intro aa s σ H D I h
 refine wpAny_execs_cons (thn (h1 aa s σ H {D with nx:=u D} I h) fun f s1 q=>?_)
 cases f with
 |next=>
  obtain⟨ah,H',I',q⟩:=q
  exact h2 aa s1 ah H' D I' q
 |ret v=>exact q
 |brk=>exact q
 |cont=>exact q
theorem aJB(h1:PS X st t):PSs X [st] t:=by
 intro aa s σ H D I h
 refine wpAny_execs_cons (thn (h1 aa s σ H D I h) fun f s1 q=>?_)
 cases f with
 |next=>exact wpAny_execs_nil q
 |ret v=>exact q
 |brk=>exact q
 |cont=>exact q
theorem aJ3:PS X (.Pass pos) aH6:=fun _ _ σ H _ I h=>wpAny_Pass ⟨σ,H,I,h⟩
theorem Inv.quiet{aa:List (Addr×Obj)}{σ:St}{H:Hp}{s:Shared}(I:Inv X aa σ H s):interactive X.env=false:=by simp[interactive,I.ok.kind]
noncomputable def aEm(te:TE):TS:=fun D σ H=>te σ H fun _ H1=>D.nx σ H1
theorem v4(he:PE X e te)(hs:swapsWith e none pos.line X.env=pure false:=by rfl):PS X (.Expr e pos) (aEm te):=by
 intro aa s σ H D I h
 exact wpAny_Expr_any (thn (he aa s σ H _ I h) fun v s1 ⟨x,H1,I1,r1,q1⟩=>⟨σ,H1,I1,q1⟩) I.quiet hs
def tRet(te:TE):TS:=fun D σ H=>te σ H D.rt
theorem aMA(he:PE X e te):PS X (.Return (some e) pos) (tRet te):=by
 intro aa s σ H D I h
 exact wpAny_Return_some (thn (he aa s σ H _ I h) fun v s1 ⟨x,H1,I1,r1,q1⟩=>⟨x,σ,H1,I1,r1,q1⟩)
noncomputable def tIfS(c:TT)(t u:TS):TS:=fun D σ H=>c σ H fun b H1=>if b=true then t D σ H1 else u D σ H1
theorem aNp{c:Expr}{a b:List Stmt}{tc:TT}(hc:PT X c tc)(ha:PSs X a t)(hb:PSs X b u):PS X (.If c a b pos) (tIfS tc t u):=by
 intro aa s σ H D I h
 refine wpAny_If (thn (hc aa s σ H _ I h) fun d s1 ⟨H1,I1,q1⟩=>?_)
 cases d with
 |true=>exact ha aa s1 σ H1 D I1 q1
 |false=>exact hb aa s1 σ H1 D I1 q1
end
abbrev TG:=V->St->Hp->(St->Hp->Prop)->Prop
abbrev TGs:=List V->St->Hp->(St->Hp->Prop)->Prop
def PG(X:Cx)(target:Expr)(t:TG):Prop:=
 ∀(aa:List (Addr×Obj))(s:Shared)(σ:St)(H:Hp)(v:V)(u:Value)(Q:St->Hp->Prop),Inv X aa σ H s->RelV v u->t v σ H Q->
  wpAny (model X.prog X.w) X.A (assign target X.env u) (fun _ s'=>∃ah H',Inv X aa ah H' s'/\Q ah H') X.xe s
def PGs(X:Cx)(ts:List Expr)(t:TGs):Prop:=
 ∀(aa:List (Addr×Obj))(s:Shared)(σ:St)(H:Hp)(vs:List V)(us:List Value)(Q:St->Hp->Prop),Inv X aa σ H s->Vals vs us->t vs σ H Q->
  wpAny (model X.prog X.w) X.A (assignInOrder ((assignEach ts X.env).map (·.2)) us) (fun _ s'=>∃ah H',Inv X aa ah H' s'/\Q ah H') X.xe s
abbrev aL1:=V->V->V->Hp->(Hp->Prop)->Prop
def PSet(X:Cx)(t:aL1):Prop:=
 ∀(aa:List (Addr×Obj))(s:Shared)(σ:St)(H:Hp)(o i v:V)(ov iv u:Value)(Q:Hp->Prop),Inv X aa σ H s->RelV o ov->RelV i iv->RelV v u->t o i v H Q->
  wpAny (model X.prog X.w) X.A (setItem ov iv u) (fun _ s'=>∃H',Inv X aa σ H' s'/\Q H') X.xe s
abbrev TIp:=V->V->Hp->VK->Prop
def PIp(X:Cx)(op:Operator)(t:TIp):Prop:=
 ∀(aa:List (Addr×Obj))(s:Shared)(σ:St)(H:Hp)(x y:V)(v u:Value)(Q:VK),Inv X aa σ H s->RelV x v->RelV y u->t x y H Q->
  wpAny (model X.prog X.w) X.A (inplaceOp op v u) (EP X aa σ Q) X.xe s
section
variable {X:Cx}{pos:Pos}
variable{i:Nat}{e:Expr}{es:List Expr}{te:TE}{ao:Pos}
noncomputable def tI(i:Nat):TG:=fun v σ H Q=>Q (σ.set i (some v)) H
theorem aEs{x:Str}(hN:X.N.Nodup)(hi:X.N[i]?=some x)(hx:Loc X.env.scope x)(hf:X.fn x=true\/X.env.scope.names.lookup x=some .local:=by first|exact .inl rfl|exact .inr rfl|assumption):PG X (.Name x pos) (tI i):=by
 intro aa s σ H v u Q I r h
 exact wpAny_assign_Name (wW I hN hi hx r (fun s' I'=>⟨_,H,I',h⟩) hf)
noncomputable def aIK:TGs:=fun vs σ H Q=>vs=[]/\Q σ H
noncomputable def aEw(t:TG)(u:TGs):TGs:=fun vs σ H Q=>∃v r,vs=v::r/\t v σ H fun ah H'=>u r ah H' Q
theorem aJF:PGs X [] aIK:=by
 intro aa s σ H vs us Q I r h;obtain⟨e,h⟩:=h;subst e;cases r
 exact assignInOrder_nil ⟨σ,H,I,h⟩
theorem aGj{t:TG}{u:TGs}(h1:PG X e t)(h2:PGs X es u)
 (hs:(assignEach (e::es) X.env).map (·.2)=assign e X.env::(assignEach es X.env).map (·.2):=by rfl):PGs X (e::es) (aEw t u):=by
 intro aa s σ H vs us Q I r h;obtain⟨v,vr,e1,h⟩:=h;subst e1;cases r with
 |cons r rr=>
  rw[hs]
  refine assignInOrder_cons (thn (h1 aa s σ H _ _ _ I r h) fun _ s1 zz=>?_)
  obtain⟨cz,H1,I1,q1⟩:=zz
  exact h2 aa s1 cz H1 _ _ Q I1 rr q1
noncomputable def gTup(K:aO)(n:Nat)(t:TGs):TG:=fun v σ H Q=>∃a xs,v=.ref a/\SqT K H a xs/\xs.length=n/\t xs σ H Q
theorem aLK{k:Nat}{t:TGs}{n:Nat}(hc:X.calm=true)(h:PGs X es t)
 (hn:(assignEach es X.env).length=n:=by rfl)(bg:(assignEach es X.env).findIdx? (·.1)=none:=by rfl):PG X (.Tuple es k pos) (gTup X.K n t):=by
 intro aa s σ H v u Q I r hw;obtain⟨a,xs,e1,hq,hl,hw⟩:=hw;subst e1;cases r;obtain⟨its,rv,ht,hz⟩:=I.tuple hq
 refine assign_Tuple_tuple (I.ok.hd hc) ht (by simp[hn,<-hl,rv.length]) bg fun h' hx=>?_
 have I1:Inv X aa σ H {s with heap:=h'}:=I.kept (t':=s.toks) fun b o e=>hx b o (bU (Heap.lt_size e)) e
 exact h aa _ σ H xs _ Q I1 (by simpa using rv) hw
noncomputable def gSub(to ti:TE)(t:aL1):TG:=fun v σ H Q=>to σ H fun o H1=>ti σ H1 fun i H2=>t o i v H2 fun H3=>Q σ H3
theorem aLB{o i:Expr}{to ti:TE}{t:aL1}(ho:PE X o to)(hi:PE X i ti)(hs:PSet X t)
 (ha:∀v,assign (.Subscript o i pos) X.env v=(do
  let ov<-holding [v] (eval o X.env)
  let iv<-holding [v,ov] (eval i X.env)
  standAt pos
  holding [v,ov,iv] (setItem ov iv v)
  release [v,ov,iv] []):=by intro _;rfl):PG X (.Subscript o i pos) (gSub to ti t):=by
 intro aa s σ H v u Q I r h;rw[ha]
 refine wpAny_bind (wpAny_holding (thn (ho aa s σ H _ I h) fun ov s1 zz=>?_))
 obtain⟨x,H1,I1,r1,q1⟩:=zz
 refine wpAny_bind (wpAny_holding (thn (hi aa s1 σ H1 _ I1 q1) fun iv s2 zz=>?_))
 obtain⟨y,H2,I2,r2,q2⟩:=zz
 refine wpAny_bind (wpAny_standAt (wpAny_bind (wpAny_holding (thn (hs aa s2 σ H2 x y v ov iv u _ I2 r1 r2 r q2) fun _ s3 ⟨H3,I3,q3⟩=>?_))))
 exact wpAny_release ⟨σ,H3,I3,q3⟩
noncomputable def aDo(te:TE)(g:TG):TS:=fun D σ H=>te σ H fun x H1=>g x σ H1 D.nx
theorem aIg{tg:Expr}{g:TG}(he:PE X e te)(hg:PG X tg g)(hs:swapsWithSole [tg] e pos.line X.env=pure false:=by rfl)(hw:swappedStores [tg] e X.env=pure none:=by rfl)
 (h1:(assignEach [tg] X.env).map (·.2)=[assign tg X.env]:=by rfl):PS X (.Assign [tg] e pos) (aDo te g):=by
 intro aa s σ H D I h
 refine wpAny_Assign_stores (thn (he aa s σ H _ I h) fun v s1 ⟨x,H1,I1,r1,q1⟩=>?_) hs hw
 rw[h1]
 exact thn (hg aa s1 σ H1 x v _ I1 r1 q1) fun _ s2 q=>q
theorem aMV{x:Str}(hN:X.N.Nodup)(hi:X.N[i]?=some x)(hx:Loc X.env.scope x)(he:PE X e te)(hs:swapsWith e (some (.Name x ao)) pos.line X.env=pure false:=by rfl)(hf:X.fn x=true\/X.env.scope.names.lookup x=some .local:=by first|exact .inl rfl|exact .inr rfl|assumption):
 PS X (.Assign [.Name x ao] e pos) (aDo te (tI i)):=by
 intro aa s σ H D I h
 refine wpAny_Assign_Name (thn (he aa s σ H _ I h) fun v s1 ⟨y,H1,I1,r1,q1⟩=>?_) hs
 exact wW I1 hN hi hx r1 (fun s2 I2=>⟨_,H1,I2,q1⟩) hf
noncomputable def tAug(i:Nat)(te:TE)(ti:TIp):TS:=fun D σ H=>∃x,σ[i]?=some (some x)/\te σ H fun y H1=>ti x y H1 fun z H2=>D.nx (σ.set i (some z)) H2
theorem aLo{x:Str}{op:Operator}{ti:TIp}(hN:X.N.Nodup)(hi:X.N[i]?=some x)(hx:Loc X.env.scope x)(he:PE X e te)(ho:PIp X op ti)(hf:X.fn x=true\/X.env.scope.names.lookup x=some .local:=by first|exact .inl rfl|exact .inr rfl|assumption):
 PS X (.AugAssign (.Name x ao) op e pos) (tAug i te ti):=by
 intro aa s σ H D I h;obtain⟨v,e1,h⟩:=h;obtain⟨m,hn,hl⟩:=I.loc;have vis:Vis X.env.scope x:=by rcases hx with k|k;exact .inl k;exact .inr (.inl k)
 obtain⟨u,r,l⟩:=hl i x v hi e1 vis
 refine wpAny_AugAssign_Name ?_
 have go:wpAny (model X.prog X.w) X.A (eval e X.env) (fun w bq=>wpAny (model X.prog X.w) X.A (inplaceOp op u w) (fun r bz=>wpAny (model X.prog X.w) X.A (storeName X.env x r) (fun _=>SP X aa D .next) X.xe bz) X.xe bq) X.xe s:=by
  refine thn (he aa s σ H _ I h) fun w s1 zz=>?_
  obtain⟨y,H1,I1,r1,q1⟩:=zz
  refine thn (ho aa s1 σ H1 v y u w _ I1 r r1 q1) fun z s2 zz=>?_
  obtain⟨zv,H2,I2,r2,q2⟩:=zz
  exact wW I2 hN hi hx r2 (fun s3 I3=>⟨_,H2,I3,q2⟩) hf
 rcases l with⟨hk,hm⟩| ⟨hk,c,hc,gm⟩
 ·exact wpAny_loadName_local I.ok.kind hk hn hm go
 ·rcases hk with hk|hk
  ·exact wpAny_loadName_cell I.ok.kind hk hc gm go
  ·rcases hx with k|k
   ·have:X.env.scope.names.lookup x=some .free:=hk;rw[k]at this;cases this
   ·have:X.env.scope.names.lookup x=some .free:=hk;rw[k]at this;cases this
noncomputable def ipI(f:Int->Int->Int):TIp:=fun x y H Q=>∃i j,x=.int i/\y=.int j/\Q (.int (f i j)) H
theorem aLu:PIp X .Add (ipI fun i j=>i+j):=by
 intro aa s σ H x y v u Q I r1 r2 h;obtain⟨i,j,e1,e2,q⟩:=h;subst e1;subst e2;obtain⟨t,rfl⟩:=r1;obtain⟨t',rfl⟩:=r2
 exact iadd_int ⟨.int _,H,I.tok _,⟨_,rfl⟩,q⟩
end
section
variable {X:Cx}{pos:Pos}
def tWhile(c:TT)(tb:TS):TS:=fun D σ H=>∃W:Nat->St->Hp->Prop,(∃m,W m σ H)/\∀m σ H,W m σ H->
 c σ H fun b H1=>if b=true then∃N:St->Hp->Prop,(∀ah H',N ah H'->∃m',m'<m/\W m' ah H')/\tb {D with nx:=N,ct:=N,bk:=D.nx} σ H1 else D.nx σ H1
theorem aHo{c:Expr}{body:List Stmt}{tc:TT}{tb:TS}(hp:PassesOwn (model X.prog X.w) X.A X.env X.xe)(hc:PT X c tc)(hb:PSs X body tb):PS X (.While c body [] pos) (tWhile tc tb):=by
 intro aa s σ H D I h;obtain⟨W,⟨m0,w0⟩,turn⟩:=h
 refine wpAny_While (codeAny_whileLoop (fun n s'=>∃ah H',Inv X aa ah H' s'/\W n ah H') ?_ m0 ⟨σ,H,I,w0⟩)
 rintro n s1 ⟨cz,H1,I1,w1⟩
 refine wpAny_passesOwn hp (thn (hc aa s1 cz H1 _ I1 (turn n cz H1 w1)) fun b s2 ⟨H2,I2,q2⟩=>?_)
 cases b with
 |true=>
  obtain⟨N,hN,q2⟩:=q2;rw[if_pos rfl]
  refine wpAny_passesOwn hp (thn (hb aa s2 cz H2 _ I2 q2) fun f s3 q3=>?_)
  cases f with
  |next=>
   obtain⟨cg,H3,I3,n3⟩:=q3;obtain⟨m',hm,w3⟩:=hN cg H3 n3
   exact⟨m',hm,cg,H3,I3,w3⟩
  |cont=>
   obtain⟨cg,H3,I3,n3⟩:=q3;obtain⟨m',hm,w3⟩:=hN cg H3 n3
   exact⟨m',hm,cg,H3,I3,w3⟩
  |brk=>exact q3
  |ret v=>exact q3
 |false=>
  rw[if_neg bW]
  exact wpAny_execs_nil ⟨cz,H2,I2,q2⟩
end
variable{s:Shared}{tg:Expr}{P:Program}{w:World}{K:aO}
structure It where
 go:Nat->Hp->Prop
 yld:Nat->Hp->V->Hp->Prop
 stop:Nat->Hp->Prop
def uA(X:Cx)(aa:List (Addr×Obj))(H:Hp)(b:Addr):Prop:=
 H b=none/\b≠X.env.locals/\b∉X.fs/\(b∈X.ex\/X.s₀.heap.objs.size<=b)/\(∀x c,X.env.cells.lookup x=some c->c≠b)/\∀p∈X.pn++aa,p.1≠b
theorem Inv.fpOk{X:Cx}{aa:List (Addr×Obj)}{σ:St}{H H':Hp}{b:Addr}(I:Inv X aa σ H s)(hb:s.heap.objs.size<=b)(hn:H' b=none):uA X aa H' b:=by
 refine⟨hn,Nat.ne_of_gt (bN I.lt hb),I.nofs hb,.inr (cA I.sz hb),fun x c e z=>?_,fun p hp z=>?_⟩
 ·obtain⟨v,q⟩:=I.cell x c e
  exact absurd (bN q.lt (by rw[z];exact hb)) (cQ _)
 ·exact absurd (bN (Heap.lt_size (I.pin p hp).1) (by rw[z];exact hb)) (cQ _)
structure Turn(P:Program)(w:World)(K:aO)(tg:Expr)(J:It)(fp:List Addr)(it:Addr)(tn:Nat->Heap->Prop):Prop where
 mem:it∈fp
 obj:∀i h,tn i h->∀b∈fp,∃o,h.get? b=some o/\∀v,o.data≠ .cell v
 keep:∀i h h',tn i h->(∀b∈fp,∀o,h.get? b=some o->h'.get? b=some o)->tn i h'
 item:∀(X:Cx),X.prog=P->X.w=w->X.K=K->X.calm=true->∀(i:Nat)(aa:List (Addr×Obj))(s:Shared)(σ:St)(H:Hp)(E:Value->Shared->Prop),Inv X aa σ H s->(∀b∈fp,uA X aa H b)->tn i s.heap->J.go i H->
  wpAny (model P w) X.A (pyNext (.ref it)) (fun r s1=>∃u,r=some u/\
   wpAny (model P w) X.A (letOwnedTupleGo tg (.ref it) u) (fun _ s2=>∃x H',Inv X aa σ H' s2/\RelV x u/\J.yld i H x H'/\tn (i+1) s2.heap/\∀b∈fp,H' b=none) E s1) E s
 done:∀(X:Cx),X.prog=P->X.w=w->X.K=K->X.calm=true->∀(i:Nat)(aa:List (Addr×Obj))(s:Shared)(σ:St)(H:Hp)(E:Value->Shared->Prop),Inv X aa σ H s->(∀b∈fp,uA X aa H b)->tn i s.heap->J.stop i H->
  wpAny (model P w) X.A (pyNext (.ref it)) (fun r s1=>r=none/\Inv X aa σ H s1) E s
 self:∀(A:Around)(i:Nat)(s:Shared)(Q:Value->Shared->Prop)(E:Value->Shared->Prop),tn i s.heap->Q (.ref it) s->wpAny (model P w) A (pyIter (.ref it)) Q E s
abbrev TI:=St->Hp->(It->Hp->Prop)->Prop
def PIE(X:Cx)(aa:List (Addr×Obj))(σ:St)(tg:Expr)(R:It->Hp->Prop)(uu:Value)(s2:Shared):Prop:=
 ∃(it:Addr)(fp:List Addr)(tn:Nat->Heap->Prop)(J:It)(H':Hp),uu=.ref it/\Inv X aa σ H' s2/\Turn X.prog X.w X.K tg J fp it tn/\tn 0 s2.heap/\(∀b∈fp,uA X aa H' b)/\R J H'
def PI(X:Cx)(tg iter:Expr)(wi:TI):Prop:=
 ∀(aa:List (Addr×Obj))(s:Shared)(σ:St)(H:Hp)(R:It->Hp->Prop),Inv X aa σ H s->wi σ H R->
  wpAny (model X.prog X.w) X.A (eval iter X.env) (fun v s1=>wpAny (model X.prog X.w) X.A (pyIter v) (PIE X aa σ tg R) X.xe s1) X.xe s
theorem aIp{M:Model}{A:Around}{E:Value->Shared->Prop}{it:Addr}{u:Value}{o:Obj}{n:String}{vs:Array Value}{Q:Unit->Shared->Prop}(ho:s.heap.get? it=some o)(hc:o.cls=.type n)(hd:o.data=.fields vs)
 (hn:["enumerate","zip","dict_itemiterator","dict_reverseitemiterator","odict_iterator","itertools.zip_longest","itertools.pairwise"].contains n=false)(hQ:Q () s):wpAny M A (letOwnedTupleGo tg (.ref it) u) Q E s:=by
 unfold letOwnedTupleGo;cases tg<;>first
  |exact wpAny_pure hQ
  | (cases u<;>first
   |exact wpAny_pure hQ
   | (refine wpAny_bind (wpAny_load ho ?_)
      rw[hc,hd];show wpAny M A (if(["enumerate","zip","dict_itemiterator","dict_reverseitemiterator","odict_iterator","itertools.zip_longest","itertools.pairwise"].contains n&&vs[0]?==some (rawInt _))=true then _ else _) Q E s;rw[if_neg (by intro h;rw[hn,aPd]at h;cases h)]
      exact wpAny_pure hQ))
noncomputable def Itl(K:aO)(a:Addr):It:=
 ⟨fun i H=>∃xs x,SqL K H a xs/\xs[i]?=some x,fun i H x H'=>H'=H/\∀xs,SqL K H a xs->xs[i]?=some x,fun i H=>∃xs,SqL K H a xs/\xs.length<=i⟩
noncomputable def Itr(lo:Int)(n:Nat):It:=⟨fun i _=>i<n,fun i H x H'=>H'=H/\x=.int (lo+i),fun i _=>n<=i⟩
theorem aFt(a it:Addr):Turn P w K tg (Itl K a) [it] it (fun i h=>h.IsListIter it a i) where
 mem:=by simp
 obj:=fun i h st b hb=>by
  have e:b=it:=by simpa using hb
  subst e;obtain⟨o,e,c,d⟩:=st
  exact⟨o,e,fun v z=>by rw[d]at z;cases z⟩
 keep:=fun i h h' st k=>st.at fun o e=>k it (by simp) o e
 item:=by
  intro X hP hw hK hc i aa s σ H E I hf st hg;subst hP hw hK;obtain⟨xs,x,hq,hx⟩:=hg;obtain⟨its,rv,p,hz⟩:=I.list hq;obtain⟨u,hu,ru⟩:=rv.get hx;obtain⟨f0,f1,f2,f3,f4,f5⟩:=hf it (by simp)
  refine wpAny_pyNext_list_item st p.isList (x:=u) (by simpa using hu) fun h' aw sb=>?_
  have I1:Inv X aa σ H {s with heap:=h'}:=I.turned (t':=s.toks) (fun b o hb e=>(sb.2 b hb).trans e) f0 f1 f3 f4 f5;obtain⟨o,e,c,d⟩:=id aw
  exact⟨u,rfl,aIp (s:={s with heap:=h'}) e c d (by decide) ⟨x,H,I1,ru,⟨rfl,fun ys hy=>by rw[I.list_inj hy hq];exact hx⟩,aw,fun b hb=>(hf b hb).1⟩⟩
 done:=by
  intro X hP hw hK hc i aa s σ H E I hf st hg;subst hP hw hK;obtain⟨xs,hq,hx⟩:=hg;obtain⟨its,rv,p,hz⟩:=I.list hq;obtain⟨f0,f1,f2,f3,f4,f5⟩:=hf it (by simp);have hl:=rv.length
  exact wpAny_pyNext_list_end (I.ok.hd hc) st p.isList (by simp;lia) fun h' eb=>⟨rfl,I.turned (t':=s.toks) (fun b o hb e=>eb b o hb e) f0 f1 f3 f4 f5⟩
 self:=fun _ _ _ _ _ st h=>wpAny_pyIter_listiter st h
theorem aDL(it:Addr)(lo:Int)(n:Nat):Turn P w K tg (Itr lo n) [it] it (fun i h=>IsRangeIter h it (lo+(i:Nat)*1) ((n:Int) - (i:Nat)) 1) where
 mem:=by simp
 obj:=fun i h st b hb=>by
  have e:b=it:=by simpa using hb
  subst e
  exact⟨_,st,fun v z=>by
   have z':Data.fields _=Data.cell v:=z;cases z'⟩
 keep:=fun i h h' st k=>k it (by simp) _ st
 item:=by
  intro X hP hw hK hc i aa s σ H E I hf st hg;subst hP hw hK;obtain⟨f0,f1,f2,f3,f4,f5⟩:=hf it (by simp);have W:=Walks.range (prog:=X.prog) (w:=X.w) (I.ok.hd hc) it lo 1 n
  refine W.item i s _ _ hg st fun v h' tk hv aw kk=>?_
  obtain⟨t,rfl⟩:=hv;have I1:Inv X aa σ H {s with heap:=h',toks:=tk}:=I.turned (fun b o hb e=>kk b o (by simpa using hb) e) f0 f1 f3 f4 f5
  refine⟨_,rfl,aIp (s:={s with heap:=h',toks:=tk}) (n:="range_iterator") aw rfl rfl (by decide) ⟨.int (lo+i),H,I1,⟨t,?_⟩,⟨rfl,rfl⟩,aw,fun b hb=>(hf b hb).1⟩⟩
  rw[aPE]
 done:=by
  intro X hP hw hK hc i aa s σ H E I hf st hg;subst hP hw hK;obtain⟨f0,f1,f2,f3,f4,f5⟩:=hf it (by simp)
  exact wpAny_pyNext_range_end (I.ok.hd hc) st (by have:n<=i:=hg;lia) fun h' eb=>⟨rfl,I.turned (t':=s.toks) (fun b o hb e=>eb b o hb e) f0 f1 f3 f4 f5⟩
 self:=fun _ _ _ _ _ st h=>wpAny_pyIter_rangeiter st h
section
variable {X:Cx}{tg:Expr}
variable{aa:List (Addr×Obj)}{σ:St}{ta:TA}{pos:Pos}{fp:List Addr}{h:Heap}
def aF9(K:aO)(tl:TE):TI:=fun σ H R=>tl σ H fun x H1=>∃a,x=.ref a/\(∃xs,SqL K H1 a xs)/\R (Itl K a) H1
theorem aBy{l:Expr}{tl:TE}(hl:PE X l tl):PI X tg l (aF9 X.K tl):=by
 intro aa s σ H R I h
 refine thn (hl aa s σ H _ I h) fun v s1 zz=>?_
 obtain⟨x,H1,I1,r1,q1⟩:=zz;obtain⟨a,e,⟨xs,hq⟩,q⟩:=q1;subst e;cases r1;obtain⟨its,rv,p,hz⟩:=I1.list hq
 refine wpAny_pyIter_list p.isList ?_
 refine⟨s1.heap.objs.size,[s1.heap.objs.size],_,_,H1,rfl,I1.kept (t':=s1.toks) fun b o e=>Heap.get?_push_of_some _ e,aFt a _,⟨_,Heap.get?_push_size _ rfl,rfl,rfl⟩,fun b hb=>?_,q⟩
 have e:b=s1.heap.objs.size:=by simpa using hb
 subst e
 exact I1.fpOk (bD _) (I1.hok.fresh (bD _))
theorem aBS{H:Hp}{s:Shared}{R:It->Hp->Prop}{E:Value->Shared->Prop}{lo hi:Int}{t u v:Tok}{tk:Nat}(I:Inv X aa σ H s)(h1: -(2^62)<=lo)(h2:lo<2^62)(h3: -(2^62)<=hi)(h4:hi<2^62)
 (q:R (Itr lo (hi - lo).toNat) H):wpAny (model X.prog X.w) X.A (pyIter (.ref s.heap.objs.size)) (PIE X aa σ tg R) E {s with heap:=s.heap.push {cls:=.type "range",data:=.fields #[.int lo t,.int hi u,.int 1 v]},toks:=tk}:=by
 refine wpAny_pyIter_range (IsRange.new ..) (small_one h1 h2 h3 h4) ?_
 have I1:Inv X aa σ H {s with heap:=s.heap.push {cls:=.type "range",data:=.fields #[.int lo t,.int hi u,.int 1 v]},toks:=tk}:=I.kept fun b o e=>Heap.get?_push_of_some _ e
 refine⟨(s.heap.push {cls:=.type "range",data:=.fields #[.int lo t,.int hi u,.int 1 v]}).objs.size,[(s.heap.push {cls:=.type "range",data:=.fields #[.int lo t,.int hi u,.int 1 v]}).objs.size],_,_,H,rfl,
  I1.kept (t':=tk) fun b o e=>Heap.get?_push_of_some _ e,aDL _ lo (hi - lo).toNat,?_,fun b hb=>?_,q⟩
 ·have e1:lo+((0:Nat):Int)*1=lo:=by simp
  have e2:(((hi - lo).toNat:Nat):Int) - ((0:Nat):Int)=Builtin.Range.rangeSize lo hi 1:=by rw[rangeSize_one];split<;>lia
  show IsRangeIter _ _ (lo+((0:Nat):Int)*1) ((((hi - lo).toNat:Nat):Int) - ((0:Nat):Int)) 1;rw[e1,e2]
  exact Heap.get?_push_size _ rfl
 ·have e:b=(s.heap.push {cls:=.type "range",data:=.fields #[.int lo t,.int hi u,.int 1 v]}).objs.size:=by simpa using hb
  subst e
  exact I1.fpOk (bD _) (I1.hok.fresh (bD _))
def aGs(ta:TA):TI:=fun σ H R=>ta σ H fun vs H1=>∃j:Int,vs=[.int j]/\ -(2^62)<=j/\j<2^62/\R (Itr 0 j.toNat) H1
def iRng2(ta:TA):TI:=fun σ H R=>ta σ H fun vs H1=>∃i j:Int,vs=[.int i,.int j]/\(-(2^62)<=i/\i<2^62/\ -(2^62)<=j/\j<2^62)/\R (Itr i (j - i).toNat) H1
theorem uJ{a:Expr}{p:Pos}(hg:Gl X "range")(hm:X.mg "range"=none)(ha:PA X [a] ta)(hs:starEach [a] X.env=[(false,eval a X.env)]:=by rfl):PI X tg (.Call (.Name "range" p) [a] [] pos) (aGs ta):=by
 intro aa s σ H R I h
 refine Call_ (qY I hg hm boot_range (dC (thn (ha pos aa s σ H _ I h) fun us s1 ⟨vs,H1,I1,r1,q1⟩=>?_) hs rfl))
 obtain⟨j,e,q1,q2,q⟩:=q1;subst e;cases r1 with
 |cons r rr=>
  cases rr;obtain⟨t,rfl⟩:=r
  exact call_range_1 (aBS I1 (by lia) (by lia) q1 q2 (by simpa using q))
theorem aFY{a b:Expr}{p:Pos}(hg:Gl X "range")(hm:X.mg "range"=none)(ha:PA X [a,b] ta)(hs:starEach [a,b] X.env=[(false,eval a X.env),(false,eval b X.env)]:=by rfl)(kg:starEach [b] X.env=[(false,eval b X.env)]:=by rfl):
 PI X tg (.Call (.Name "range" p) [a,b] [] pos) (iRng2 ta):=by
 intro aa s σ H R I h
 refine Call_ (qY I hg hm boot_range (dC (thn (ha pos aa s σ H _ I h) fun us s1 ⟨vs,H1,I1,r1,q1⟩=>?_) (by rw[hs,kg]) (by rw[kg];rfl)))
 obtain⟨i,j,e,⟨q1,q2,q3,q4⟩,q⟩:=q1;subst e;cases r1 with
 |cons r rr=>
  cases rr with
  |cons r' rr=>
   cases rr;obtain⟨t,rfl⟩:=r;obtain⟨t',rfl⟩:=r'
   exact call_range_2 (aBS I1 q1 q2 q3 q4 q)
def aH3(wi:TI)(g:TG)(tb:TS):TS:=fun D σ H=>wi σ H fun J H1=>∃W:Nat->Nat->St->Hp->Prop,(∃m,W 0 m σ H1)/\∀i m σ H,W i m σ H->
 (J.stop i H/\D.nx σ H)\/(J.go i H/\∃N:St->Hp->Prop,(∀ah H',N ah H'->∃m',m'<m/\W (i+1) m' ah H')/\∀x H',J.yld i H x H'->g x σ H' fun br H2=>tb {D with nx:=N,ct:=N,bk:=D.nx} br H2)
noncomputable def wQ(fp:List Addr)(h:Heap):List (Addr×Obj):=fp.filterMap fun b=>(h.get? b).map fun o=>(b,o)
theorem pS{b:Addr}{o:Obj}(hb:b∈fp)(e:h.get? b=some o):(b,o)∈wQ fp h:=aPm.mpr ⟨b,hb,by rw[e];rfl⟩
theorem aFJ{p:Addr×Obj}(hp:p∈wQ fp h):p.1∈fp/\h.get? p.1=some p.2:=by
 obtain⟨b,hb,e⟩:=aPm.mp hp;cases q:h.get? b with
 |none=>rw[q]at e;cases e
 |some o=>
  rw[q]at e;have e':(b,o)=p:=cO.inj e;subst e'
  exact⟨hb,q⟩
theorem Inv.pinned{H:Hp}{s:Shared}(I:Inv X aa σ H s)(hf:∀b∈fp,uA X aa H b)(ho:∀b∈fp,∃o,s.heap.get? b=some o/\∀v,o.data≠ .cell v):Inv X (aa++wQ fp s.heap) σ H s:=
 I.pins_of fun p hp=>(bL.mp hp).elim (fun z=>I.pin p (cE _ z)) fun z=>by
  obtain⟨hb,e⟩:=aFJ z;obtain⟨f0,f1,f2,_⟩:=hf p.1 hb;obtain⟨o,e',d⟩:=ho p.1 hb;rw[e]at e';cases e'
  exact⟨e,f0,f1,f2,d⟩
theorem Inv.unpinned{pl:List (Addr×Obj)}{H:Hp}{s:Shared}(I:Inv X (aa++pl) σ H s):Inv X aa σ H s:=I.pins_of fun p hp=>I.pin p (cE _ (aOx _ hp))
theorem aBF{iter:Expr}{body:List Stmt}{wi:TI}{g:TG}{tb:TS}(hp:PassesOwn (model X.prog X.w) X.A X.env X.xe)(hc:X.calm=true)(hi:PI X tg iter wi)(hg:PG X tg g)(hb:PSs X body tb)
 (hs:∀x,foldedSetIterable iter X.env x=pure x:=by intro _;rfl):PS X (.For tg iter body [] pos) (aH3 wi g tb):=by
 intro aa s σ H D I h
 refine wpAny_For (thn (hi aa s σ H _ I h) fun v s1 h1=>thn h1 fun uu s2 h2=>?_) hs
 obtain⟨it,fp,tn,J,H2,e,I2,T,kb,f2,W,⟨m0,w0⟩,turn⟩:=h2;subst e;have ff:∀{H':Hp},(∀b∈fp,H' b=none)->∀b∈fp,uA X aa H' b:=fun hn b hb=>⟨hn b hb,(f2 b hb).2⟩
 refine codeAny_forLoop_any (fun n s'=>∃i ah H',Inv X aa ah H' s'/\tn i s'.heap/\(∀b∈fp,H' b=none)/\W i n ah H') ?_ m0 ⟨0,σ,H2,I2,kb,fun b hb=>(f2 b hb).1,w0⟩
 rintro n s3 ⟨i,cg,H3,I3,qj,uf,w3⟩;rcases turn i n cg H3 w3 with⟨stop,qn⟩| ⟨go,N,hN,step⟩
 ·refine wpAny_passesOwn hp (thn (T.done X rfl rfl rfl hc i aa s3 cg H3 X.xe I3 (ff uf) qj stop) fun r s4 ⟨hr,I4⟩=>?_)
  subst hr
  exact wpAny_execs_nil ⟨cg,H3,I4,qn⟩
 ·refine wpAny_passesOwn hp (thn (T.item X rfl rfl rfl hc i aa s3 cg H3 X.xe I3 (ff uf) qj go) fun r s4 ⟨u,hr,h4⟩=>?_)
  subst hr
  refine wpAny_passesOwn hp (thn h4 fun _ s5 zz=>?_)
  obtain⟨x,H5,I5,r5,y5,lf,za⟩:=zz;have I5':=I5.pinned (ff za) (T.obj _ _ lf)
  refine wpAny_passesOwn hp (thn (hg _ s5 cg H5 x u _ I5' r5 (step x H5 y5)) fun _ s6 zz=>?_)
  obtain⟨oa,H6,I6,q6⟩:=zz
  refine wpAny_passesOwn hp (thn (hb _ s6 oa H6 _ I6 q6) fun f s7 q7=>?_)
  have again:∀{ef:St}{H7:Hp},Inv X (aa++wQ fp s5.heap) ef H7 s7->N ef H7->∃m,m<n/\∃i ah H',Inv X aa ah H' s7/\tn i s7.heap/\(∀b∈fp,H' b=none)/\W i m ah H':=fun {ef H7} I7 n7=>by
   obtain⟨m',hm,w7⟩:=hN ef H7 n7
   refine⟨m',hm,i+1,ef,H7,I7.unpinned,T.keep _ _ _ lf fun b hb o e=>(I7.pin (b,o) (cE _ (cE _ (pS hb e)))).1,fun b hb=>?_,w7⟩
   obtain⟨o,e,d⟩:=T.obj _ _ lf b hb
   exact(I7.pin (b,o) (cE _ (cE _ (pS hb e)))).2.1
  cases f with
  |next=>obtain⟨ef,H7,I7,n7⟩:=q7;exact again I7 n7
  |cont=>obtain⟨ef,H7,I7,n7⟩:=q7;exact again I7 n7
  |brk=>obtain⟨ef,H7,I7,q7⟩:=q7;exact⟨ef,H7,I7.unpinned,q7⟩
  |ret v=>obtain⟨x7,ef,H7,I7,r7,q7⟩:=q7;exact⟨x7,ef,H7,I7.unpinned,r7,q7⟩
end
abbrev R2:=V->V->Hp->VK->Prop
def OpR(X:Cx)(f:Value->Value->Sem Value)(r:R2):Prop:=
 ∀(aa:List (Addr×Obj))(s:Shared)(σ:St)(H:Hp)(x y:V)(v u:Value)(Q:VK),Inv X aa σ H s->RelV x v->RelV y u->r x y H Q->
  wpAny (model X.prog X.w) X.A (f v u) (EP X aa σ Q) X.xe s
def UnR(X:Cx)(f:Value->Sem Value)(r:V->Hp->VK->Prop):Prop:=
 ∀(aa:List (Addr×Obj))(s:Shared)(σ:St)(H:Hp)(x:V)(v:Value)(Q:VK),Inv X aa σ H s->RelV x v->r x H Q->
  wpAny (model X.prog X.w) X.A (f v) (EP X aa σ Q) X.xe s
def oV(X:Cx)(f:Value)(r:List V->Hp->VK->Prop):Prop:=
 ∀(aa:List (Addr×Obj))(s:Shared)(σ:St)(H:Hp)(xs:List V)(us:List Value)(Q:VK),Inv X aa σ H s->Vals xs us->r xs H Q->
  wpAny (model X.prog X.w) X.A (call f us) (EP X aa σ Q) X.xe s
def TruR(X:Cx)(r:V->Hp->(Bool->Hp->Prop)->Prop):Prop:=
 ∀(aa:List (Addr×Obj))(s:Shared)(σ:St)(H:Hp)(x:V)(v:Value)(Q:Bool->Hp->Prop),Inv X aa σ H s->RelV x v->r x H Q->
  wpAny (model X.prog X.w) X.A (truthy v) (TP X aa σ Q) X.xe s
noncomputable def tOp(r:R2)(ta tb:TE):TE:=fun σ H Q=>ta σ H fun x H1=>tb σ H1 fun y H2=>r x y H2 Q
noncomputable def tUn(r:V->Hp->VK->Prop)(ta:TE):TE:=fun σ H Q=>ta σ H fun x H1=>r x H1 Q
noncomputable def rI(C:Int->Int->Prop)(g:Int->Int->V):R2:=fun x y H Q=>∃i j,x=.int i/\y=.int j/\C i j/\Q (g i j) H
noncomputable def rI0(g:Int->Int->V):R2:=fun x y H Q=>∃i j,x=.int i/\y=.int j/\Q (g i j) H
def rU(g:Int->V):V->Hp->VK->Prop:=fun x H Q=>∃i,x=.int i/\Q (g i) H
section
variable {X:Cx}{a b c:Expr}{ta tb tc:TE}{pos:Pos}
variable{f:Value->Value->Sem Value}{g:Int->Int->Int}
theorem aMP(ha:PE X a ta)(hb:PE X b tb){aa:List (Addr×Obj)}{s:Shared}{σ:St}{H:Hp}{R:V->V->Hp->Prop}(I:Inv X aa σ H s)
 (h:ta σ H fun x H1=>tb σ H1 fun y H2=>R x y H2){Q:Value->Shared->Prop}
 (hf:∀v u s2 x y H2,Inv X aa σ H2 s2->RelV x v->RelV y u->R x y H2->wpAny (model X.prog X.w) X.A (f v u) Q X.xe s2):
 wpAny (model X.prog X.w) X.A (eval a X.env) (fun v aj=>wpAny (model X.prog X.w) X.A (eval b X.env) (fun u bq=>wpAny (model X.prog X.w) X.A (f v u) Q X.xe bq) X.xe aj) X.xe s:=by
 refine thn (ha aa s σ H _ I h) fun v s1 zz=>?_
 obtain⟨x,H1,I1,r1,q1⟩:=zz
 refine thn (hb aa s1 σ H1 _ I1 q1) fun u s2 zz=>?_
 obtain⟨y,H2,I2,r2,q2⟩:=zz
 exact hf v u s2 x y H2 I2 r1 r2 q2
theorem u9{op:Operator}{r:R2}(ho:OpR X (binaryOp op) r)(ha:PE X a ta)(hb:PE X b tb):PE X (.BinOp a op b pos) (tOp r ta tb):=by
 intro aa s σ H Q I h
 exact wpAny_BinOp (aMP ha hb I h fun v u s2 x y H2 I2 rx ry q=>ho aa s2 σ H2 x y v u Q I2 rx ry q)
theorem aNK{op:UnaryOp}{r:V->Hp->VK->Prop}(ho:UnR X (unaryOp op) r)(ha:PE X a ta):PE X (.UnaryOp op a pos) (tUn r ta):=by
 intro aa s σ H Q I h
 exact UnaryOp_ (thn (ha aa s σ H _ I h) fun v s1 ⟨x,H1,I1,r1,q1⟩=>ho aa s1 σ H1 x v Q I1 r1 q1)
theorem opI{C:Int->Int->Prop}
 (rule:∀(i j:Int)(t u:Tok)(s:Shared)(Q:Value->Shared->Prop)(E:Value->Shared->Prop),C i j->Q (.int (g i j) s.toks) {s with toks:=s.toks+1}->wpAny (model X.prog X.w) X.A (f (.int i t) (.int j u)) Q E s):
 OpR X f (rI C fun i j=>.int (g i j)):=by
 intro aa s σ H x y v u Q I rx ry h;obtain⟨i,j,rfl,rfl,hc,q⟩:=h;obtain⟨t,rfl⟩:=rx;obtain⟨t',rfl⟩:=ry
 exact rule i j t t' s _ _ hc ⟨.int (g i j),H,I.tok _,⟨_,rfl⟩,q⟩
theorem opI0
 (rule:∀(i j:Int)(t u:Tok)(s:Shared)(Q:Value->Shared->Prop)(E:Value->Shared->Prop),Q (.int (g i j) s.toks) {s with toks:=s.toks+1}->wpAny (model X.prog X.w) X.A (f (.int i t) (.int j u)) Q E s):
 OpR X f (rI0 fun i j=>.int (g i j)):=by
 intro aa s σ H x y v u Q I rx ry h;obtain⟨i,j,rfl,rfl,q⟩:=h;obtain⟨t,rfl⟩:=rx;obtain⟨t',rfl⟩:=ry
 exact rule i j t t' s _ _ ⟨.int (g i j),H,I.tok _,⟨_,rfl⟩,q⟩
theorem aKq{g:Int->Int->Bool}
 (rule:∀(i j:Int)(t u:Tok)(s:Shared)(Q:Value->Shared->Prop)(E:Value->Shared->Prop),Q (.bool (g i j)) s->wpAny (model X.prog X.w) X.A (f (.int i t) (.int j u)) Q E s):
 OpR X f (rI0 fun i j=>.bl (g i j)):=by
 intro aa s σ H x y v u Q I rx ry h;obtain⟨i,j,rfl,rfl,q⟩:=h;obtain⟨t,rfl⟩:=rx;obtain⟨t',rfl⟩:=ry
 exact rule i j t t' s _ _ ⟨.bl (g i j),H,I,rfl,q⟩
def CDiv(i j:Int):Prop:=0<j/\j<1073741824
def CPow(i j:Int):Prop:=0<=j/\j<=1000000/\i.natAbs<2^64
theorem aLA:OpR X (binaryOp .Add) (rI0 fun i j=>.int (i+j)):=opI0 fun _ _ _ _ _ _ _ q=>add_int q
theorem aLn:OpR X (binaryOp .Sub) (rI0 fun i j=>.int (i - j)):=opI0 fun _ _ _ _ _ _ _ q=>sub_int q
theorem aJx:OpR X (binaryOp .FloorDiv) (rI CDiv fun i j=>.int (i/j)):=opI fun i j _ _ _ _ _ hc q=>by
 have h1:(0:Int)<j:=hc.1;have h2:j<1073741824:=hc.2
 exact floordiv_int (by lia) (by rw[aOI i (by lia)];exact q) (.inl (PyProof.noPylong_small (by lia)))
theorem aLv:OpR X (binaryOp .Mod) (rI (fun _ j=>0<j) fun i j=>.int (i%j)):=opI fun i j _ _ _ _ _ hc q=>by
 have h1:(0:Int)<j:=hc
 exact mod_int' (by lia) (by rw[Int.fmod_eq_emod_of_nonneg i (by lia)];exact q)
theorem aMr:OpR X (binaryOp .Pow) (rI CPow fun i j=>.int (i^j.toNat)):=opI fun _ _ _ _ _ _ _ hc q=>pow_int_small hc.1 hc.2.1 hc.2.2 q
theorem unI{f:Value->Sem Value}{g:Int->Int}
 (rule:∀(i:Int)(t:Tok)(s:Shared)(Q:Value->Shared->Prop)(E:Value->Shared->Prop),Q (.int (g i) s.toks) {s with toks:=s.toks+1}->wpAny (model X.prog X.w) X.A (f (.int i t)) Q E s):
 UnR X f (rU fun i=>.int (g i)):=by
 intro aa s σ H x v Q I rx h;obtain⟨i,rfl,q⟩:=h;obtain⟨t,rfl⟩:=rx
 exact rule i t s _ _ ⟨.int (g i),H,I.tok _,⟨_,rfl⟩,q⟩
theorem aLJ:UnR X (unaryOp .USub) (rU fun i=>.int (-i)):=unI fun _ _ _ _ _ q=>neg_int q
end
noncomputable def scal:V->V->Bool
 | .non,.non=>true| .non,.int _=>true| .int _,.non=>true| .non,.bl _=>true| .bl _,.non=>true| .non,.str _=>true| .str _,.non=>true
 | .int _,.int _=>true| .bl _,.bl _=>true| .str _,.str _=>true| .byt _,.byt _=>true
 | .int _,.str _=>true| .str _,.int _=>true| .bl _,.str _=>true| .str _,.bl _=>true
 |_,_=>false
def rNe:R2:=fun x y H Q=>scal x y=true/\Q (.bl (!decide (x=y))) H
theorem aET{i j:Int}:decide (V.int i=V.int j)=(i==j):=by
 rw[eK];simp
theorem aGD{i j:Bool}:decide (V.bl i=V.bl j)=(i==j):=by
 rw[eK];simp
theorem aEf{i j:Str}:decide (V.str i=V.str j)=(i==j):=by
 rw[eK];simp
theorem aJM{i j:Array UInt8}:decide (V.byt i=V.byt j)=(i.toList==j.toList):=by
 rw[eK];cases i;cases j;simp
section
variable {X:Cx}{a b c:Expr}{ta tb tc:TE}{pos:Pos}
variable{op:CmpOp}{r:R2}{us:List Value}
theorem lG{aa:List (Addr×Obj)}{σ:St}{H:Hp}{s:Shared}{Q:VK}{k k':Bool}(I:Inv X aa σ H s)(q:Q (.bl k) H)(e:k=k'):EP X aa σ Q (.bool k') s:=by
 subst e
 exact⟨.bl k,H,I,rfl,q⟩
theorem aF7:OpR X (compareOp .NotEq) rNe:=by
 intro aa s σ H x y v u Q I rx ry h;obtain⟨hs,q⟩:=h;cases x with
 |non=>
  cases rx;cases y with
  |non=>cases ry;exact PySem.EqNone.ne_none_none (lG I q (by simp))
  |bl j=>cases ry;exact PySem.EqNone.ne_none_bool (lG I q (by simp))
  |int j=>obtain⟨t',rfl⟩:=ry;exact PySem.EqNone.ne_none_int (lG I q (by simp))
  |str j=>obtain⟨t',rfl⟩:=ry;exact PySem.EqNone.ne_none_str (lG I q (by simp))
  |_=>exact absurd (show false=true from hs) bW
 |bl i=>
  cases rx;cases y with
  |non=>cases ry;exact PySem.EqNone.ne_bool_none (lG I q (by simp))
  |bl j=>cases ry;exact ne_bool (lG I q (congrArg not aGD))
  |str j=>obtain⟨t',rfl⟩:=ry;exact PySem.EqMixed.ne_bool_str (lG I q (by simp))
  |_=>exact absurd (show false=true from hs) bW
 |int i=>
  obtain⟨t,rfl⟩:=rx;cases y with
  |non=>cases ry;exact PySem.EqNone.ne_int_none (lG I q (by simp))
  |int j=>obtain⟨t',rfl⟩:=ry;exact ne_int (lG I q (congrArg not aET))
  |str j=>obtain⟨t',rfl⟩:=ry;exact PySem.EqMixed.ne_int_str (lG I q (by simp))
  |_=>exact absurd (show false=true from hs) bW
 |str i=>
  obtain⟨t,rfl⟩:=rx;cases y with
  |non=>cases ry;exact PySem.EqNone.ne_str_none (lG I q (by simp))
  |bl j=>cases ry;exact PySem.EqMixed.ne_str_bool (lG I q (by simp))
  |int j=>obtain⟨t',rfl⟩:=ry;exact PySem.EqMixed.ne_str_int (lG I q (by simp))
  |str j=>obtain⟨t',rfl⟩:=ry;exact ne_str (lG I q (congrArg not aEf))
  |_=>exact absurd (show false=true from hs) bW
 |byt i=>
  obtain⟨t,rfl⟩:=rx;cases y with
  |byt j=>obtain⟨t',rfl⟩:=ry;exact PySem.W.ne_bytes (lG I q (congrArg not aJM))
  |_=>exact absurd (show false=true from hs) bW
 |_=>cases y<;>exact absurd (show false=true from hs) bW
theorem aGA:OpR X (compareOp .Lt) (rI0 fun i j=>.bl (decide (i<j))):=aKq fun _ _ _ _ _ _ _ q=>lt_int q
theorem aNf:OpR X (compareOp .LtE) (rI0 fun i j=>.bl (decide (i<=j))):=aKq fun _ _ _ _ _ _ _ q=>le_int q
theorem aKX:OpR X (compareOp .Gt) (rI0 fun i j=>.bl (decide (j<i))):=aKq fun _ _ _ _ _ _ _ q=>gt_int q
theorem aNt:OpR X (compareOp .GtE) (rI0 fun i j=>.bl (decide (j<=i))):=aKq fun _ _ _ _ _ _ _ q=>ge_int q
theorem nomark(b:Expr)(h:op≠ .In:=by decide)(h2:op≠ .NotIn:=by decide):behindInMarks op b=false:=by
 have e1:(op==CmpOp.In)=false:=by cases op<;>first|rfl|exact absurd rfl h
 have e2:(op==CmpOp.NotIn)=false:=by cases op<;>first|rfl|exact absurd rfl h2
 cases b<;>simp[behindInMarks,e1,e2]
theorem aKs(ho:OpR X (compareOp op) r)(ha:PE X a ta)(hb:PE X b tb)(hm:behindInMarks op b=false):PE X (.Compare a [op] [b] pos) (tOp r ta tb):=by
 intro aa s σ H Q I h
 exact wpAny_Compare1 (aMP ha hb I h fun v u s2 x y H2 I2 rx ry q=>ho aa s2 σ H2 x y v u Q I2 rx ry q) hm
noncomputable def tTest(t:TE):TT:=fun σ H Q=>t σ H fun x H'=>∃k,x=.bl k/\Q k H'
theorem aKF(ho:OpR X (compareOp op) r)(ha:PE X a ta)(hb:PE X b tb)(hm:behindInMarks op b=false):PT X (.Compare a [op] [b] pos) (tTest (tOp r ta tb)):=by
 intro aa s σ H Q I h
 refine wpAny_isTrue_Compare1 (thn (ha aa s σ H _ I h) fun v s1 ⟨x,H1,I1,r1,q1⟩=>thn (hb aa s1 σ H1 _ I1 q1) fun u s2 ⟨y,H2,I2,r2,q2⟩=>
  thn (ho aa s2 σ H2 x y v u _ I2 r1 r2 q2) fun c s3 ⟨z,H3,I3,r3,k,e,q3⟩=>?_) hm
 subst e;cases r3
 exact wpAny_truthy_bool ⟨H3,I3,q3⟩
noncomputable def tChain(r r':R2)(ta tb tc:TE):TE:=fun σ H Q=>ta σ H fun x H1=>tb σ H1 fun y H2=>r x y H2 fun z H3=>∃k,z=.bl k/\
 (if k=true then tc σ H3 fun w' H4=>r' y w' H4 Q else Q (.bl false) H3)
theorem aHR{wb:CmpOp}{r':R2}(ho:OpR X (compareOp op) r)(ip:OpR X (compareOp wb) r')(ha:PE X a ta)(hb:PE X b tb)(hc:PE X c tc)
 (hm:lastMarks [op,wb] [b,c]=false:=by with_unfolding_all rfl):PE X (.Compare a [op,wb] [b,c] pos) (tChain r r' ta tb tc):=by
 intro aa s σ H Q I h
 refine Compare_chain (thn (ha aa s σ H _ I h) fun v s1 ⟨x,H1,I1,r1,q1⟩=>chain_link (thn (hb aa s1 σ H1 _ I1 q1) fun u s2 ⟨y,H2,I2,r2,q2⟩=>
  thn (ho aa s2 σ H2 x y v u _ I2 r1 r2 q2) fun d s3 ⟨z,H3,I3,r3,k,e,q3⟩=>?_)) hm
 subst e;cases r3
 refine wpAny_truthy_bool ?_
 cases k with
 |false=>exact ite_ff ⟨.bl false,H3,I3,rfl,q3⟩
 |true=>exact ite_tt (chain_last (thn (hc aa s3 σ H3 _ I3 q3) fun w' s4 ⟨z',H4,I4,r4,q4⟩=>ip aa s4 σ H4 y z' u w' Q I4 r2 r4 q4))
def aMa(K:aO)(x:V)(H:Hp)(k:Bool):Prop:=
 match x with
 | .non=>k=false
 | .bl b=>k=b
 | .int i=>k=(i !=0)
 | .str y=>y.length<=sizeLine/\k=((y.length:Int)!=0)
 | .byt y=>y.size<=sizeLine/\k=((y.size:Int)!=0)
 | .ref p=>(∃xs,SqL K H p xs/\k= !xs.isEmpty)\/(∃xs,SqT K H p xs/\k= !xs.isEmpty)\/∃kvs,H p=some (.dK kvs)/\k= !kvs.isEmpty
 |_=>False
theorem aDs{κ:Type}{kvs:List (κ×V)}{vs:List (κ×Value)}(r:KV kvs vs):(!vs.isEmpty)= !kvs.isEmpty:=by
 cases r<;>rfl
theorem w5{xs:List V}{its:List Value}(r:Vals xs its):(!its.toArray.isEmpty)= !xs.isEmpty:=by
 cases r<;>simp
theorem line63:(sizeLine:Nat)<2^63:=by rw[sizeLine_eq];decide
theorem aLh:TruR X (fun x H Q=>∃k,aMa X.K x H k/\Q k H):=by
 intro aa s σ H x v Q I rx h;obtain⟨k,e,q⟩:=h;have hl:=line63;have hs:sizeLine=16777216:=sizeLine_eq;cases x with
 |non=>
  cases rx;have e':k=false:=e;subst e'
  exact truthy_none ⟨H,I,q⟩
 |bl b=>
  cases rx;have e':k=b:=e;subst e'
  exact wpAny_truthy_bool ⟨H,I,q⟩
 |int i=>
  obtain⟨t,rfl⟩:=rx;have e':k=(i !=0):=e;subst e'
  exact PySem.P.truthy_int ⟨H,I,q⟩
 |str y=>
  obtain⟨t,rfl⟩:=rx;obtain⟨hy,e'⟩:y.length<=sizeLine/\k=((y.length:Int)!=0):=e;subst e'
  exact PySem.P.truthy_str (by lia) ⟨H,I.tok _,q⟩
 |byt y=>
  obtain⟨t,rfl⟩:=rx;obtain⟨hy,e'⟩:y.size<=sizeLine/\k=((y.size:Int)!=0):=e;subst e'
  exact PySem.W.truthy_bytes (by lia) ⟨H,I.tok _,q⟩
 |ref p=>
  cases rx;have e':(∃xs,SqL X.K H p xs/\k= !xs.isEmpty)\/(∃xs,SqT X.K H p xs/\k= !xs.isEmpty)\/∃kvs,H p=some (.dK kvs)/\k= !kvs.isEmpty:=e;rcases e' with⟨xs,hx,e'⟩| ⟨xs,hx,e'⟩| ⟨kvs,hx,e'⟩
  ·subst e';obtain⟨its,r,pl,hz⟩:=I.list hx;have ai:=r.length
   exact wpAny_truthy_list pl.isList (by simp only[bG];lia) ⟨H,I.tok _,by rw[w5 r];exact q⟩
  ·subst e';obtain⟨its,r,pl,hz⟩:=I.tuple hx;have ai:=r.length
   exact truthy_tuple pl (by simp only[bG];lia) ⟨H,I.tok _,by rw[w5 r];exact q⟩
  ·subst e';obtain⟨hz,hS,vs,r,m⟩:kvs.length<=sizeLine/\(p==sysModules)=false/\∃vs,KV kvs vs/\s.heap.DictOf (i6 X.prog X.w) p vs:=I.hok p _ hx;have ai:kvs.length=vs.length:=Paired.length r
   exact wpAny_truthy_dict hS m (by lia) ⟨H,I.tok _,by rw[aDs r];exact q⟩
 |_=>exact(show False from e).elim
theorem aHx(ha:PE X a ta)(he:∀whole,isTrue a X.env whole=(do let v<-whole;standAt a.pos;holding [v] (truthy v))):
 PT X a (fun σ H Q=>ta σ H fun x H'=>∃k,aMa X.K x H' k/\Q k H'):=by
 intro aa s σ H Q I h
 exact isTrue_plain (thn (ha aa s σ H _ I h) fun v s1 ⟨x,H1,I1,r1,q1⟩=>aLh aa s1 σ H1 x v Q I1 r1 q1) (he _)
theorem vals1{x:V}(r:Vals [x] us):∃u,us=[u]/\RelV x u:=by
 cases r with
 |cons r1 r2=>cases r2;exact⟨_,rfl,r1⟩
theorem vals2{x y:V}(r:Vals [x,y] us):∃u w',us=[u,w']/\RelV x u/\RelV y w':=by
 cases r with
 |cons r1 r2=>
  cases r2 with
  |cons r3 r4=>cases r4;exact⟨_,_,rfl,r1,r3⟩
theorem aFo(hc:X.calm=true):oV X (.builtin "max") (fun xs H Q=>∃i j,xs=[.int i,.int j]/\Q (.int (if j>i then j else i)) H):=by
 intro aa s σ H xs us Q I r h;obtain⟨i,j,rfl,q⟩:=h;obtain⟨u,w',rfl,⟨t,rfl⟩,⟨t',rfl⟩⟩:=vals2 r
 refine max_two_ints (I.ok.hd hc) fun h' tk k=>⟨_,H,I.kept k,?_,q⟩
 by_cases hj:j>i
 ·rw[if_pos hj,if_pos hj];exact⟨_,rfl⟩
 ·rw[if_neg hj,if_neg hj];exact⟨_,rfl⟩
theorem aFK(hc:X.calm=true):oV X (.builtin "min") (fun xs H Q=>∃i j,xs=[.int i,.int j]/\Q (.int (if j<i then j else i)) H):=by
 intro aa s σ H xs us Q I r h;obtain⟨i,j,rfl,q⟩:=h;obtain⟨u,w',rfl,⟨t,rfl⟩,⟨t',rfl⟩⟩:=vals2 r
 refine min_two_ints (I.ok.hd hc) fun h' tk k=>⟨_,H,I.kept k,?_,q⟩
 by_cases hj:j<i
 ·rw[if_pos hj,if_pos hj];exact⟨_,rfl⟩
 ·rw[if_neg hj,if_neg hj];exact⟨_,rfl⟩
theorem aFV:oV X (.type "int") (fun xs H Q=>(∃i,xs=[.int i]/\Q (.int i) H)\/∃k,xs=[.bl k]/\Q (.int (if k then 1 else 0)) H):=by
 intro aa s σ H xs us Q I r h;rcases h with⟨i,rfl,q⟩| ⟨k,rfl,q⟩
 ·obtain⟨u,rfl,t,rfl⟩:=vals1 r
  exact call_int_int ⟨.int i,H,I,⟨_,rfl⟩,q⟩
 ·obtain⟨u,rfl,r1⟩:=vals1 r;cases r1
  exact call_int_bool ⟨.int (if k then 1 else 0),H,I.tok _,⟨_,rfl⟩,q⟩
end
variable{h:Heap}{dx:Addr}{mA:Str->Option Value}
structure aDz(h:Heap)(x dx C:Addr)(mA:Str->Option Value):Prop where
 obj:h.get? x=some (dP C dx)
 ns:h.Ns1 dx mA
 ne:dx≠x
theorem aFN(n:h.Ns1 dx mA):∃od,h.get? dx=some od/\∀name,aOJ name od=some (mA name):=by
 obtain⟨o,es,ep,ho,hd,hk,_,hm⟩:=n
 refine⟨o,ho,fun name=>?_⟩
 have e:=hm name;unfold nsFind findBy at e;rw[<-Array.find?_toList]at e;unfold aOJ;rw[hd];dsimp only;split
 ·rename_i y q;rw[q]at e
  exact congrArg some e
 ·rename_i q;rw[q]at e;have a:es.toList.any (·.refKey)=false:=by
   rw[List.any_eq_false];intro y hy;obtain⟨z,t,yi⟩:=hk y (Array.mem_toList_iff.mp hy);simp[DictEntry.refKey,yi]
  have a':¬es.toList.any (·.refKey)=true:=by rw[a];exact bW
  rw[if_neg a']
  exact congrArg some e
theorem aDz.look{x C:Addr}(I:aDz h x dx C mA):∃od,PySem.W.InstAt h x (dP C dx) C (some od)/\∀name,aOJ name od=some (mA name):=
 let ⟨od,ho,hl⟩:=aFN I.ns
 ⟨od,⟨I.obj,rfl,rfl,ho⟩,hl⟩
section
variable {prog:Program}{w:World}{A:Around}{E:Value->Shared->Prop}{s:Shared}{K:aO}{x dx C f:Addr}{mA:Str->Option Value}{name:Str}{v:Value}
theorem aJ1{expr:Bool}{Q:Value->Shared->Prop}(X:K.In s.heap)(I:aDz s.heap x dx C mA)(hg:aOu K C name=true)(hh:aOR K C=true)
 (ha:bZ K (.ref C) name=some none)(hv:mA name=some v)(hv':aPx v=true)(h:Q v {s with toks:=s.toks+1}):
 wpAny (model prog w) A (getAttr (.ref x) name expr) Q E s:=by
 obtain⟨od,J,hl⟩:=I.look
 exact PySem.W.get_value X J (aOE hg).1 (PySem.W.findObj_own hh ha rfl (by rw[hl,hv])) hv' h
theorem aHy{pl:Sem Bool}{Q:Value×List Value->Shared->Prop}(X:K.In s.heap)(I:aDz s.heap x dx C mA)(hg:aOu K C name=true)
 (hf:bZ K (.ref C) name=some (some (.ref f)))(ht:aOp K (.ref f)=true)(hv:mA name=none)(h:Q (.ref f,[.ref x]) s):
 wpAny (model prog w) A (getMethod (.ref x) name pl) Q E s:=by
 obtain⟨od,J,hl⟩:=I.look
 exact PySem.W.method_fn X J (aOE hg).1 (aOE hg).2 hf (beq_iff_eq.mp ht) (by show(aOJ name od).map (·.isSome)=some false;rw[hl,hv];rfl) h
theorem aKt{ns:List Str}{Q:Unit->Shared->Prop}(X:K.In s.heap)(I:aDz s.heap x dx C mA)
 (hs:bZ K (.ref C) "__setattr__"=some (some (.builtin "object.__setattr__")))(hp:aPt K C=true)(ht:aO5 K C name=some none)(hh:aOR K C=true)
 (hw:PySem.Within mA ns)(hsz:ns.length<=sizeLine)
 (h:∀h',aDz h' x dx C (fun y=>if y=name then some v else mA y)->Heap.SameBut dx s.heap h'->Q () {s with heap:=h',toks:=s.toks+2}):
 wpAny (model prog w) A (setAttr (.ref x) name v) Q E s:=by
 obtain⟨od,J,hl⟩:=I.look
 refine PySem.W.set_plain X J hs (PySem.W.osa_open (s:={s with toks:=s.toks+1}) (r:=none) X J hp ht fun b=>?_)
 obtain⟨cd,hc,jg⟩:=PySem.W.any_some hh;have hx:s.heap.get? x=some ⟨.ref C,some dx,.plain,#[]⟩:=I.obj
 refine wpAny_bind (wpAny_pure (wpAny_bind (wpAny_bind (wpAny_loadPart hx (wpAny_bind (PySem.W.Looks.here (s:={s with toks:=s.toks+1}) (PySem.W.looks_clsIn X hc) ?_))))))
 rw[jg]
 refine wpAny_pure (a:=some dx) (wpAny_bind (wpAny_pure (wpAny_bind ?_)))
 refine wpAny_nsSet1 (s:={s with toks:=s.toks+1}) I.ns fun h' yc kg=>?_
 obtain⟨oD,esD,epD,hoD,hdD,hcD⟩:=yc.count (PySem.Within.cons name v hw)
 refine wpAny_bind (wpAny_lookBehind hoD (by rw[hdD];exact pastItsLine_dict (cA hcD (by rw[aN];lia))) ?_)
 exact wpAny_pure (h _ ⟨(kg.2 _ (Ne.symm I.ne)).trans I.obj,yc,I.ne⟩ kg)
theorem aHG{R:Result->Shared->Prop}{vs:List Value}{kw:List (Str×Value)}(X:K.In s.heap)(hm:aO6 K C=true)
 (hi:bZ K (.ref C) "__init__"=some (some (.ref f)))(hf:PySem.W.typeIn K (.ref f)=some (.type "function"))
 (h:codeAny (model prog w) (A.under (.builtin "type.__call__" ⟨.ref C::vs,kw⟩)) (.call (.ref f) ⟨.ref (s.heap.objs.size+1)::vs,kw⟩) (PySem.W.InitBack (s.heap.objs.size+1) R)
  {s with heap:=(s.heap.push cY).push (dP C s.heap.objs.size)}):
 codeAny (model prog w) A (.call (.ref C) ⟨vs,kw⟩) R s:=by
 obtain⟨hh,g,d,t,os⟩:=s
 exact PySem.W.make_core (PySem.W.makes_of X hm) (PySem.W.looks_findIn X hi) (fun self=>PySem.W.bind_fn X self hf) (.inl rfl) h
end
noncomputable def pH(f:Str)(v:V):List (Str×V)->List (Str×V)
 | []=>[(f,v)]
 | (g,x)::r=>if g=f then(g,v)::r else(g,x)::pH f v r
theorem u6(f g:Str)(v:V):∀fs:List (Str×V),(pH f v fs).lookup g=if g=f then some v else fs.lookup g
 | []=>by
   show dL g [(f,v)]=_;by_cases h:g=f
   ·have hb:(g==f)=true:=beq_iff_eq.mpr h;simp only[dL,hb,if_pos h]
   ·have hb:(g==f)=false:=beq_eq_false_iff_ne.mpr h;simp only[dL,hb,if_neg h]
 | (k,x)::r=>by
   have ih:=u6 f g v r;rw[show pH f v ((k,x)::r)=(if k=f then(k,v)::r else(k,x)::pH f v r)from rfl];by_cases hk:k=f
   ·rw[if_pos hk];by_cases h:g=k
    ·have hb:(g==k)=true:=beq_iff_eq.mpr h;simp only[dL,hb,if_pos (h.trans hk)]
    ·have hb:(g==k)=false:=beq_eq_false_iff_ne.mpr h;simp only[dL,hb,if_neg (fun e:g=f=>h (e.trans hk.symm))]
   ·rw[if_neg hk];by_cases h:g=k
    ·have hb:(g==k)=true:=beq_iff_eq.mpr h;simp only[dL,hb,if_neg (fun e:g=f=>hk (h.symm.trans e))]
    ·have hb:(g==k)=false:=beq_eq_false_iff_ne.mpr h;simp only[dL,hb]
     exact ih
theorem uF(f:Str)(v:V):∀fs:List (Str×V),f∈(pH f v fs).map (·.1)/\∀g,g∈fs.map (·.1)->g∈(pH f v fs).map (·.1)
 | []=>⟨by simp[pH],fun g h=>by simp at h⟩
 | (k,x)::r=>by
   obtain⟨i1,i2⟩:=uF f v r;rw[show pH f v ((k,x)::r)=(if k=f then(k,v)::r else(k,x)::pH f v r)from rfl];by_cases hk:k=f
   ·rw[if_pos hk];subst hk
    exact⟨by simp,fun g h=>by simpa using h⟩
   ·rw[if_neg hk]
    refine⟨?_,fun g h=>?_⟩
    ·rw[aM]
     exact aU _ i1
    ·rw[aM]at h|-;rcases bE.mp h with e|e
     ·exact bE.mpr (.inl e)
     ·exact aU _ (i2 g e)
theorem uZ(f:Str)(v:V):∀fs:List (Str×V),(pH f v fs).length<=fs.length+1
 | []=>by simp[pH]
 | (k,x)::r=>by
   have ih:=uZ f v r;rw[show pH f v ((k,x)::r)=(if k=f then(k,v)::r else(k,x)::pH f v r)from rfl];by_cases hk:k=f
   ·rw[if_pos hk,aN,aN];lia
   ·rw[if_neg hk,aN,aN];lia
theorem p7.some_of{v:V}{o:Option Value}(r:p7 (some v) o):∃u,o=some u/\RelV v u:=by
 cases o with
 |none=>exact(show False from r).elim
 |some u=>exact⟨u,rfl,r⟩
theorem p7.none_of{o:Option Value}(r:p7 none o):o=none:=by
 cases o with
 |none=>rfl
 |some u=>exact(show False from r).elim
theorem aFb{v:V}{u:Value}(r:RelV v u):aPx u=true:=by
 cases v with
 |non=>cases (show u=Value.none from r);rfl
 |bl b=>cases (show u=Value.bool b from r);rfl
 |int i=>obtain⟨t,e⟩:=(show∃t,u=Value.int i t from r);cases e;rfl
 |str x=>obtain⟨t,e⟩:=(show∃t,u=Value.str x t from r);cases e;rfl
 |byt b=>obtain⟨t,e⟩:=(show∃t,u=Value.bytes b t from r);cases e;rfl
 |flt b=>obtain⟨t,e⟩:=(show∃t,u=Value.float b t from r);cases e;rfl
 |ref a=>cases (show u=Value.ref a from r);rfl
 |ty n=>cases (show u=Value.type n from r);rfl
section
variable {P:Program}{w:World}{H H':Hp}{h h':Heap}{a C dx:Addr}{fs pe:List (Str×V)}
theorem aAW(hok:HOk P w H h)(e:H a=some (.ins C dx fs)):∃mA,aDz h a dx C mA/\(∀f,p7 (fs.lookup f) (mA f))/\PySem.Within mA (fs.map (·.1))/\fs.length<=1000/\H dx=some (.own a):=by
 obtain⟨d,z,ne,ob,mA,n,r,q⟩:=(show jQ P w H h a (.ins C dx fs)from hok a _ e)
 exact⟨mA,⟨ob,n,ne⟩,r,q,z,d⟩
end
structure Cls(K:aO)(C:Addr):Prop where
 pg:aOu K C Str.empty=true
 hd:aOR K C=true
 po:aPt K C=true
 sa:bZ K (.ref C) "__setattr__"=some (some (.builtin "object.__setattr__"))
theorem Cls.get{K:aO}{C:Addr}(c:Cls K C)(f:Str):aOu K C f=true:=c.pg
def o8(K:aO)(C:Addr)(f:Str):Prop:=bZ K (.ref C) f=some none
theorem o8.taker{K:aO}{C:Addr}{f:Str}(n:o8 K C f):aO5 K C f=some none:=by
 unfold aO5;rw[show bZ K (.ref C) f=some none from n];rfl
structure Con(K:aO)(C:Addr)(f:Str)(v:V)(u:Value):Prop where
 at_:bZ K (.ref C) f=some (some u)
 rel:RelV v u
 get:PySem.W.specialIn K u "__get__"=some none
 cp:PySem.W.copiedNames.contains f=false
structure Meth(K:aO)(C:Addr)(m:Str)(f:Addr):Prop where
 at_:bZ K (.ref C) m=some (some (.ref f))
 fn:aOp K (.ref f)=true
 kp:cH K (.ref f)=true
section
variable {X:Cx}{aa:List (Addr×Obj)}{σ:St}{H:Hp}{s:Shared}{a C dx:Addr}{fs:List (Str×V)}{f:Str}{v:V}{A:Around}{E:Value->Shared->Prop}
variable{Q:Value->Shared->Prop}
theorem xQ{b:Bool}(I:Inv X aa σ H s)(e:H a=some (.ins C dx fs))(c:Cls X.K C)(n:o8 X.K C f)(l:fs.lookup f=some v)
 (h:∀u s',Inv X aa σ H s'->RelV v u->Q u s'):wpAny (model X.prog X.w) A (getAttr (.ref a) f b) Q E s:=by
 obtain⟨mA,O,r,_,_,_⟩:=aAW I.hok e;obtain⟨u,hu,ru⟩:=p7.some_of (v:=v) (o:=mA f) (by rw[<-l];exact r f)
 exact aJ1 I.kIn O (c.get f) c.hd n hu (aFb ru) (h u _ (I.tok _) ru)
theorem y8{m:Str}{g:Addr}{pl:Sem Bool}{Q:Value×List Value->Shared->Prop}(I:Inv X aa σ H s)(e:H a=some (.ins C dx fs))(c:Cls X.K C)(k:Meth X.K C m g)(l:fs.lookup m=none)
 (h:Q (.ref g,[.ref a]) s):wpAny (model X.prog X.w) A (getMethod (.ref a) m pl) Q E s:=by
 obtain⟨mA,O,r,_,_,_⟩:=aAW I.hok e;have hn:mA m=none:=p7.none_of (by rw[<-l];exact r m)
 exact aHy I.kIn O (c.get m) k.at_ k.fn hn h
theorem yV{y:V}{u:Value}{Q:Unit->Shared->Prop}(I:Inv X aa σ H s)(e:H a=some (.ins C dx fs))(c:Cls X.K C)(n:o8 X.K C f)(hl:fs.length<1000)(ry:RelV y u)
 (h:∀s',Inv X aa σ (upd H a (.ins C dx (pH f y fs))) s'->Q () s'):wpAny (model X.prog X.w) A (setAttr (.ref a) f u) Q E s:=by
 obtain⟨mA,O,r,wi,_,ho⟩:=aAW I.hok e;have hz:(fs.map (·.1)).length<=sizeLine:=by rw[aS,sizeLine_eq];lia
 refine aKt I.kIn O c.sa c.po n.taker c.hd wi hz fun h' O' sb=>h _ ?_
 have hd:∃o,h'.get? dx=some o:=let ⟨o,_,_,e',_⟩:=O'.ns;⟨o,e'⟩
 refine I.write (x:=a) (e:=dx) (by rw[e];exact True.intro) (.inr ho) (fun b q hb z=>(sb.2 b hb).trans z) hd ?_
 refine⟨by rw[fO O.ne];exact ho,?_,O.ne,O'.obj,_,O'.ns,fun g=>?_,fun g hg=>?_⟩
 ·have:=uZ f y fs;lia
 ·show p7 ((pH f y fs).lookup g) (if g=f then some u else mA g);rw[u6];by_cases q:g=f
  ·rw[if_pos q,if_pos q];exact ry
  ·rw[if_neg q,if_neg q];exact r g
 ·by_cases q:g=f
  ·rw[q];exact(uF f y fs).1
  ·refine(uF f y fs).2 g (wi g fun z=>hg ?_)
   show(if g=f then some u else mA g)=none;rw[if_neg q];exact z
theorem Inv.made(I:Inv X aa σ H s):Inv X aa σ (upd (upd H s.heap.objs.size (.own (s.heap.objs.size+1))) (s.heap.objs.size+1) (.ins C s.heap.objs.size []))
 {s with heap:=(s.heap.push cY).push (dP C s.heap.objs.size)}:=by
 have e1:(s.heap.push cY).get? s.heap.objs.size=some cY:=Heap.get?_push_size s.heap rfl;have e2:((s.heap.push cY).push (dP C s.heap.objs.size)).get? (s.heap.objs.size+1)=some (dP C s.heap.objs.size):=by
  have:=Heap.get?_push_size (s.heap.push cY) (o:=dP C s.heap.objs.size) rfl;rwa[Heap.size_push]at this
 have e3:(s.heap.push cY).Ns s.heap.objs.size (fun _=>none):=⟨cY,#[],_,e1,rfl,(fun e he=>absurd he (by simp)),fun _=>rfl⟩;have I1:=I.laid (a:=s.heap.objs.size) (o:=.own (s.heap.objs.size+1)) (h':=s.heap.push cY) (t':=s.toks) (fun b u q=>Heap.get?_push_of_some _ q) (bD _) ⟨_,e1⟩
 refine I1.laid (a:=s.heap.objs.size+1) (o:=.ins C s.heap.objs.size []) (t':=s.toks) (fun b u q=>Heap.get?_push_of_some _ q) (aPQ (Heap.size_push _ _)) ?_
 have ne:s.heap.objs.size≠s.heap.objs.size+1:=bU (d7 _)
 refine⟨by rw[fO ne,i9],cV _,ne,e2,fun _=>none,(Heap.Ns1.of_empty e3).at fun o q=>Heap.get?_push_of_some _ q,fun _=>True.intro,fun y hy=>absurd rfl hy⟩
theorem aJk{prog:Program}{w:World}{env:Env}{e:Expr}{f:Str}{pos:Pos}{s:Shared}(hb:attributeBase e f env (eval e env)=eval e env)
 (h:wpAny (model prog w) A (eval e env) (fun o aj=>wpAny (model prog w) A (getAttr o f true) Q E aj) E s):wpAny (model prog w) A (eval (.Attribute e f pos) env) Q E s:=
 Attribute_any_ h (by rw[arm_eval_Attribute,hb])
end
def tFld(K:aO)(ta:TE)(f:Str):TE:=fun σ H Q=>ta σ H fun x H1=>∃a C dx fs v,x=.ref a/\H1 a=some (.ins C dx fs)/\Cls K C/\o8 K C f/\fs.lookup f=some v/\Q v H1
def sFld(K:aO)(ta tv:TE)(f:Str):TS:=fun D σ H=>tv σ H fun y H1=>ta σ H1 fun x H2=>∃a C dx fs,x=.ref a/\H2 a=some (.ins C dx fs)/\Cls K C/\o8 K C f/\fs.length<1000/\
 D.nx σ (upd H2 a (.ins C dx (pH f y fs)))
def aKx(X:Cx)(op:Operator)(rd:V->V->Hp->VK->Prop):Prop:=
 ∀(aa:List (Addr×Obj))(s:Shared)(σ:St)(H:Hp)(x y:V)(u v:Value)(Q:VK),Inv X aa σ H s->RelV x u->RelV y v->rd x y H Q->wpAny (model X.prog X.w) X.A (inplaceOp op u v) (EP X aa σ Q) X.xe s
def sFldAug(K:aO)(ta tv:TE)(rd:V->V->Hp->VK->Prop)(f:Str):TS:=fun D σ H=>ta σ H fun x H1=>∃a C dx fs v,x=.ref a/\H1 a=some (.ins C dx fs)/\Cls K C/\o8 K C f/\fs.lookup f=some v/\
 tv σ H1 fun y H2=>rd v y H2 fun z H3=>∃ms pe,H3 a=some (.ins C ms pe)/\pe.length<1000/\D.nx σ (upd H3 a (.ins C ms (pH f z pe)))
section
variable {X:Cx}{o e value:Expr}{f:Str}{pos ao ba:Pos}{ta tv:TE}
theorem aMS(he:PE X e ta)(hb:attributeBase e f X.env (eval e X.env)=eval e X.env):PE X (.Attribute e f pos) (tFld X.K ta f):=by
 intro aa s σ H Q I h
 refine aJk hb (thn (he aa s σ H _ I h) fun u s1 zz=>?_)
 obtain⟨x,H1,I1,rx,a,C,dx,fs,v,ex,ea,c,n,l,q⟩:=zz;subst ex;obtain rfl:u=Value.ref a:=rx
 exact xQ I1 ea c n l fun u' s2 I2 ru=>⟨v,H1,I2,ru,q⟩
theorem aLz(ha:PE X o ta)(hv:PE X value tv)(hs:swapsWith value (some (.Attribute o f ao)) pos.line X.env=pure false):PS X (.Assign [.Attribute o f ao] value pos) (sFld X.K ta tv f):=by
 intro aa s σ H D I h
 refine plainObj_wpAny_Assign_Attribute (thn (hv aa s σ H _ I h) fun u s1 ⟨y,H1,I1,ry,q⟩=>thn (ha aa s1 σ H1 _ I1 q) fun ov s2 ⟨x,H2,I2,rx,a,C,dx,fs,ex,ea,c,n,l,q2⟩=>?_) hs
 subst ex;obtain rfl:ov=Value.ref a:=rx
 exact yV I2 ea c n l ry fun s3 I3=>⟨σ,_,I3,q2⟩
theorem aAQ{op:Operator}{rd:V->V->Hp->VK->Prop}(ha:PE X o ta)(hv:PE X value tv)(xx:aKx X op rd):PS X (.AugAssign (.Attribute o f ba) op value pos) (sFldAug X.K ta tv rd f):=by
 intro aa s σ H D I h
 refine wpAny_AugAssign_AttributeAny (thn (ha aa s σ H _ I h) fun ov s1 zz=>?_)
 obtain⟨x,H1,I1,rx,a,C,dx,fs,v,ex,ea,c,n,l,q⟩:=zz;subst ex;obtain rfl:ov=Value.ref a:=rx
 refine xQ I1 ea c n l fun u s2 I2 ru=>thn (hv aa s2 σ H1 _ I2 q) fun w3 s3 ⟨y,H2,I3,ry,q3⟩=>thn (xx aa s3 σ H2 v y u w3 _ I3 ru ry q3) fun w4 s4 zz=>?_
 obtain⟨z,H3,I4,rz,ms,pe,ea',l',q4⟩:=zz
 exact yV I4 ea' c n l' rz fun s5 I5=>⟨σ,_,I5,q4⟩
def rAdd:V->V->Hp->VK->Prop:=fun x y H Q=>∃i j,x=.int i/\y=.int j/\Q (.int (i+j)) H
def rSub:V->V->Hp->VK->Prop:=fun x y H Q=>∃i j,x=.int i/\y=.int j/\Q (.int (i - j)) H
theorem aMY:aKx X .Add rAdd:=by
 rintro aa s σ H x y u v Q I rx ry ⟨i,j,rfl,rfl,q⟩;obtain⟨t,rfl⟩:=(show∃t,u=Value.int i t from rx);obtain⟨t',rfl⟩:=(show∃t',v=Value.int j t' from ry)
 exact aPZ ⟨.int (i+j),H,I.tok _,⟨_,rfl⟩,q⟩
theorem aHp:aKx X .Sub rSub:=by
 rintro aa s σ H x y u v Q I rx ry ⟨i,j,rfl,rfl,q⟩;obtain⟨t,rfl⟩:=(show∃t,u=Value.int i t from rx);obtain⟨t',rfl⟩:=(show∃t',v=Value.int j t' from ry)
 exact aP0 ⟨.int (i - j),H,I.tok _,⟨_,rfl⟩,q⟩
end
section
variable {X:Cx}{aa:List (Addr×Obj)}{σ:St}{H:Hp}{s:Shared}{A:Around}{E:Value->Shared->Prop}{Q:Value->Shared->Prop}{c:Value}{b:Bool}
end
variable{k:Nat}{A:Around}{C:Addr}{us:List Value}{kw:List (Str×Value)}
structure Room(k:Nat)(A:Around):Prop where
 hd:A.handled=none
 dp:A.depth+3*k+5<recursionLimit
 un:A.units+16*k+200<cLine
theorem Room.mono{j:Nat}(r:Room k A)(h:j<=k):Room j A:=⟨r.hd,by have:=r.dp;lia,by have:=r.un;lia⟩
theorem Room.deeper(r:Room (k+1) A)(env:Env):Room k (A.deeper env):=
 ⟨r.hd,by have:=r.dp;show A.depth+1+3*k+5<_;lia,by have:=r.un;show A.units+3+16*k+200<_;lia⟩
theorem aDa:(A.under (.builtin "type.__call__" ⟨.ref C::us,kw⟩)).depth=A.depth+1:=by
 first|rfl|simp[Around.under,Code.weight,Code.isCreation,Code.isGuard,Code.isCaller,Code.frames,Code.isFrame,guardIds]
theorem aDW:(A.under (.builtin "type.__call__" ⟨.ref C::us,kw⟩)).units=A.units+1:=by
 first|rfl|simp[Around.under,Code.cUnits,Code.frames,Code.isFrame]
theorem Room.make(r:Room (k+1) A)(C:Addr)(us:List Value)(kw:List (Str×Value)):Room k (A.under (.builtin "type.__call__" ⟨.ref C::us,kw⟩)):=
 ⟨r.hd,by have:=r.dp;rw[aDa];lia,by have:=r.un;rw[aDW];lia⟩
theorem Room.depth(r:Room k A):A.depth<recursionLimit:=by have:=r.dp;lia
noncomputable def aJ8:TA:=fun _ H Q=>Q [] H
noncomputable def aIj(ta:TE)(tr:TA):TA:=fun σ H Q=>ta σ H fun x H1=>tr σ H1 fun xs H2=>Q (x::xs) H2
section
variable {X:Cx}{e:Expr}{es:List Expr}{te:TE}{t:TA}{pos:Pos}
theorem aDv:PA X [] aJ8:=fun _ _ _ _ H Q I h=>Calls.spliced_nil ⟨[],H,I,.nil,h⟩
theorem vY(ha:PE X e te)(hr:PA X es t)(hs:starEach (e::es) X.env=(false,eval e X.env)::starEach es X.env:=by rfl):PA X (e::es) (aIj te t):=by
 intro pos aa s σ H Q I h;rw[hs];show wpAny _ _ (spliced ((false,eval e X.env)::backTo pos (starEach es X.env))) _ _ s
 refine Calls.spliced_cons (thn (ha aa s σ H _ I h) fun u s1 zz=>?_)
 obtain⟨x,H1,I1,r1,q1⟩:=zz
 exact thn (hr pos aa s1 σ H1 _ I1 q1) fun us s2 ⟨xs,H2,I2,r2,q2⟩=>⟨x::xs,H2,I2,.cons r1 r2,q2⟩
def tTup(t:TA):TE:=fun σ H Q=>t σ H fun xs H1=>xs.length<=sizeLine/\∀p,H1 p=none->Q (.ref p) (upd H1 p (.tup xs))
def tLst(t:TA):TE:=fun σ H Q=>t σ H fun xs H1=>xs.length<=sizeLine/\∀p,H1 p=none->Q (.ref p) (upd H1 p (.lst xs))
theorem aM7{x1}(h:PA X es t):PE X (.Tuple es x1 pos) (tTup t):=by
 intro aa s σ H Q I hq
 refine wpAny_Tuple_spliced (thn (h pos aa s σ H _ I hq) fun us s1 ⟨xs,H1,I1,r,z,q⟩=>⟨by rw[<-r.length];exact z,?_⟩)
 have hf:H1 s1.heap.objs.size=none:=I1.hok.fresh (bD _)
 refine⟨.ref s1.heap.objs.size,upd H1 s1.heap.objs.size (.tup xs),I1.laid (t':=s1.toks) (fun b u e=>Heap.get?_push_of_some _ e) (bD _) ?_,rfl,q _ hf⟩
 exact⟨z,us,r,⟨_,Heap.get?_push_size _ rfl,rfl,_,rfl⟩⟩
theorem aMC(h:PA X es t):PE X (.List es pos) (tLst t):=by
 intro aa s σ H Q I hq
 refine wpAny_List_spliced (thn (h pos aa s σ H _ I hq) fun us s1 ⟨xs,H1,I1,r,z,q⟩=>⟨by rw[<-r.length];exact z,?_⟩)
 have hf:H1 s1.heap.objs.size=none:=I1.hok.fresh (bD _)
 refine⟨.ref s1.heap.objs.size,upd H1 s1.heap.objs.size (.lst xs),I1.laid (t':=s1.toks) (fun b u e=>Heap.get?_push_of_some _ e) (bD _) ?_,rfl,q _ hf⟩
 exact⟨z,us,0,r,Heap.get?_push_size _ rfl⟩
end
abbrev Sp:=List V->Hp->VK->XK->Prop
abbrev CXT:=List Env->Hp->Shared->XK->Value->Shared->Prop
structure Env0(P:Program)(w:World)(K:aO)(mg:Str->Option Value)(base:Heap)(A:Around)(outer:List Env)(s:Shared)(H:Hp):Prop where
 frames:A.frames=some outer
 mod:Mod K mg base
 bs:∀b o,base.get? b=some o->s.heap.get? b=some o/\H b=none
 bsz:base.objs.size<=s.heap.objs.size
 funs:s.heap.FunFrames base outer
 frf:∀b∈frs outer,H b=none
 hok:HOk P w H s.heap
 bare:AllBare s.gens
def CE(outer:List Env)(P:Program)(w:World)(H:Hp)(s:Shared)(Q:VK)(u:Value)(s':Shared):Prop:=
 ∃v H',s'.os=s.os/\AllBare s'.gens/\Un (frs outer) [] H H' s.heap s'.heap/\HOk P w H' s'.heap/\RelV v u/\Q v H'
def CR(CX:CXT)(outer:List Env)(P:Program)(w:World)(H:Hp)(s:Shared)(Q:VK)(E:XK)(r:Result)(s':Shared):Prop:=
 match r with
 | .ok (.ret u)=>CE outer P w H s Q u s'
 | .ok _=>False
 | .error e=>CX outer H s E e s'
structure nY(P:Program)(w:World)(K:aO)(mg:Str->Option Value)(base:Heap)(CX:CXT)(k:Nat)(f:Addr)(fd:FuncData)(ps:List Str)(sp:Sp):Prop where
 len:∀vs H Q E,sp vs H Q E->vs.length=ps.length
 run:∀(A:Around)(outer:List Env)(s:Shared)(H:Hp)(args:Args)(us:List Value)(vs:List V)(Q:VK)(E:XK),Room k A->Env0 P w K mg base A outer s H->BindsTo s fd args (ps.zip us)->Vals vs us->sp vs H Q E->
  codeAny (model P w) A (.call (.ref f) args) (CR CX outer P w H s Q E) s
theorem Env0.make{P:Program}{w:World}{K:aO}{mg:Str->Option Value}{base:Heap}{A:Around}{outer:List Env}{s:Shared}{H:Hp}(e:Env0 P w K mg base A outer s H)(C:Addr)(us:List Value)(kw:List (Str×Value)):
 Env0 P w K mg base (A.under (.builtin "type.__call__" ⟨.ref C::us,kw⟩)) outer s H:=⟨by first|exact e.frames| (simpa[Around.under,Code.envs,Code.isFrame,pushEnvs]using e.frames),e.mod,e.bs,e.bsz,e.funs,e.frf,e.hok,e.bare⟩
section
variable {X:Cx}{aa:List (Addr×Obj)}{σ:St}{H:Hp}{s s':Shared}
theorem Inv.env0(I:Inv X aa σ H s):Env0 X.prog X.w X.K X.mg X.base X.A X.stack s H:=
 ⟨I.ok.frames,I.ok.mod,I.bs,cA I.ok.bsz I.sz,I.stack,I.stkFree,I.hok,I.bare⟩
theorem Inv.after{Q:VK}{u:Value}(I:Inv X aa σ H s)(h:CE X.stack X.prog X.w H s Q u s'):EP X aa σ Q u s':=by
 obtain⟨v,H',os,bare,un,hok,r,q⟩:=h;obtain⟨hh,g,d,t,os'⟩:=s';obtain rfl:os'=s.os:=os
 exact⟨v,H',I.call (h':=hh) (g':=g) (d':=d) (t':=t) (ch:=[]) un hok bare (fun b z=>absurd z (by simp)),r,q⟩
end
noncomputable def aCU(sp:Sp)(bn:List V)(E:XK)(t:TA):TE:=fun σ H Q=>t σ H fun vs H1=>sp (vs++bn) H1 Q E
def aGQ(C:Addr)(m:Str)(sp:Sp)(bn:List V)(E:XK)(ta:TE)(t:TA):TE:=fun σ H Q=>ta σ H fun x H1=>∃a dx fs,x=.ref a/\H1 a=some (.ins C dx fs)/\fs.lookup m=none/\
 t σ H1 fun vs H2=>sp (x::(vs++bn)) H2 Q E
def tMake(C:Addr)(sp:Sp)(bn:List V)(E:XK)(t:TA):TE:=fun σ H Q=>t σ H fun vs H1=>∀x dx,H1 x=none->H1 dx=none->dx≠x->
 sp (.ref x::(vs++bn)) (upd (upd H1 dx (.own x)) x (.ins C dx [])) (fun v H2=>v=.non/\Q (.ref x) H2) E
def Binds(K:aO)(fd:FuncData)(ps:List Str)(ds:List Value):Prop:=
 ∀(s:Shared)(us:List Value),K.In s.heap->(us++ds).length=ps.length->BindsTo s fd ⟨us,[]⟩ (ps.zip (us++ds))
theorem Binds.all{K:aO}{fd:FuncData}{ps:List Str}(h:∀us:List Value,us.length=ps.length->bindArgs fd ⟨us,[]⟩=pure (ps.zip us)):Binds K fd ps []:=fun s us _ hl=>by
 rw[aY]at hl|-
 exact .of_eq (h us hl)
def Passes(CX:CXT)(X:Cx)(E:XK):Prop:=∀(aa:List (Addr×Obj))(σ:St)(H:Hp)(s:Shared)(e:Value)(s':Shared),Inv X aa σ H s->CX X.stack H s E e s'->X.xe e s'
section
variable {X:Cx}{CX:CXT}{k:Nat}{f C:Addr}{fd:FuncData}{ps:List Str}{sp:Sp}{bn:List V}{ds:List Value}{E:XK}{x m:Str}{p pos al:Pos}{e o:Expr}{es:List Expr}{ta:TE}{t:TA}
variable{aa:List (Addr×Obj)}{σ:St}{Q:VK}{vs:List V}{pl:Sem Bool}
theorem aDQ{H:Hp}{s:Shared}{us:List Value}(F:nY X.prog X.w X.K X.mg X.base CX k f fd ps sp)(hr:Room k X.A)(hb:Binds X.K fd ps ds)(hd:Vals bn ds)(hx:Passes CX X E)
 (I:Inv X aa σ H s)(r:Vals vs us)(h:sp (vs++bn) H Q E):wpAny (model X.prog X.w) X.A (call (.ref f) us) (EP X aa σ Q) X.xe s:=by
 have r2:Vals (vs++bn) (us++ds):=r.append hd;have hl:(us++ds).length=ps.length:=by rw[<-r2.length];exact F.len _ _ _ _ h
 refine wpAny_call (codeAny_mono (F.run X.A X.stack s H ⟨us,[]⟩ (us++ds) (vs++bn) Q E hr I.env0 (hb s us I.kIn hl) r2 h) fun r s' hq=>?_)
 cases r with
 |error e=>exact hx aa σ H s e s' I hq
 |ok fl=>
  cases fl with
  |ret u=>exact I.after hq
  |next=>exact False.elim hq
  |brk=>exact False.elim hq
  |cont=>exact False.elim hq
theorem wH(F:nY X.prog X.w X.K X.mg X.base CX k f fd ps sp)(hr:Room k X.A)(hg:Gl X x)(hm:X.mg x=some (.ref f))(hk:cH X.K (.ref f)=true)(hb:Binds X.K fd ps ds)(hd:Vals bn ds)(hx:Passes CX X E)
 (ha:PA X (e::es) t)(cr:(x==("__debug__":Str))=false:=by decide)(he:starEach (e::es) X.env=(false,eval e X.env)::starEach es X.env:=by rfl)(av:(backTo pos (starEach es X.env)).any (·.1)=false:=by rfl):
 PE X (.Call (.Name x p) (e::es) [] pos) (aCU sp bn E t):=by
 intro aa s σ H Q I h
 refine wpAny_Call_Name_kw (aBn I hg hm ?_ cr)
 refine aOK (h₀:=X.base) I.ok.mod.kin hk (thn (ha pos aa s σ H _ I h) fun us s1 ⟨vs,H1,I1,r,q⟩=>⟨I1.kIn,?_⟩) he av
 exact aDQ F hr hb hd hx I1 r q
theorem aKc(he:PE X o ta)(c:Cls X.K C)(hm:Meth X.K C m f)(F:nY X.prog X.w X.K X.mg X.base CX k f fd ps sp)(hr:Room k X.A)(hb:Binds X.K fd ps ds)(hd:Vals bn ds)(hx:Passes CX X E)(ha:PA X (e::es) t)
 (bg:starEach (e::es) X.env=(false,eval e X.env)::starEach es X.env:=by rfl)(av:(backTo pos (starEach es X.env)).any (·.1)=false:=by rfl)
 (ht:eval (.Call (.Attribute o m al) (e::es) [] pos) X.env=(do
  let ov<-eval o X.env
  standAt al.atName
  let (f,first)<-holding [ov] (getMethod ov m pl)
  callWith pos f first (backTo pos (starEach (e::es) X.env)) (backToKw pos (keywordEach [] X.env))):=by rfl):
 PE X (.Call (.Attribute o m al) (e::es) [] pos) (aGQ C m sp bn E ta t):=by
 intro aa s σ H Q I h
 refine aPb (pl:=pl) (thn (he aa s σ H _ I h) fun u s1 ⟨x,H1,I1,rx,a,dx,fs,ex,ea,l,q⟩=>?_) ht
 subst ex;obtain rfl:u=Value.ref a:=rx
 refine y8 I1 ea c hm l ?_
 refine aOK (first:=[.ref a]) (h₀:=X.base) I.ok.mod.kin hm.kp (thn (ha pos aa s1 σ H1 _ I1 q) fun us s2 ⟨vs,H2,I2,r,q2⟩=>⟨I2.kIn,?_⟩) bg av
 exact aDQ (us:=.ref a::us) (vs:=.ref a::vs) F hr hb hd hx I2 (.cons rfl r) q2
theorem aH5(he:PE X o ta)(c:Cls X.K C)(hm:Meth X.K C m f)(F:nY X.prog X.w X.K X.mg X.base CX k f fd ps sp)(hr:Room k X.A)(hb:Binds X.K fd ps ds)(hd:Vals bn ds)(hx:Passes CX X E)
 (ht:eval (.Call (.Attribute o m al) [] [] pos) X.env=(do
  let ov<-eval o X.env
  standAt al.atName
  let (f,first)<-holding [ov] (getMethod ov m pl)
  callWith pos f first (backTo pos (starEach [] X.env)) (backToKw pos (keywordEach [] X.env))):=by rfl):
 PE X (.Call (.Attribute o m al) [] [] pos) (aGQ C m sp bn E ta aJ8):=by
 intro aa s σ H Q I h
 refine aPb (pl:=pl) (thn (he aa s σ H _ I h) fun u s1 ⟨x,H1,I1,rx,a,dx,fs,ex,ea,l,q⟩=>?_) ht
 subst ex;obtain rfl:u=Value.ref a:=rx
 refine y8 I1 ea c hm l ?_
 exact PySem.W.callWith_K0 (first:=[.ref a]) I1.kIn hm.kp (aDQ (us:=[.ref a]) (vs:=[.ref a]) F hr hb hd hx I1 (.cons rfl .nil) q)
structure Mk(K:aO)(C f:Addr):Prop where
 makes:aO6 K C=true
 init:bZ K (.ref C) "__init__"=some (some (.ref f))
 fn:aOp K (.ref f)=true
 kp:cH K (.ref C)=true
theorem aHZ{H:Hp}{s:Shared}{us:List Value}(M:Mk X.K C f)(F:nY X.prog X.w X.K X.mg X.base CX k f fd ps sp)(hr:Room (k+1) X.A)(hb:Binds X.K fd ps ds)(hd:Vals bn ds)
 (hx:Passes CX X E)(I:Inv X aa σ H s)(r:Vals vs us)
 (h:∀x dx,H x=none->H dx=none->dx≠x->sp (.ref x::(vs++bn)) (upd (upd H dx (.own x)) x (.ins C dx [])) (fun v H2=>v=.non/\Q (.ref x) H2) E):
 wpAny (model X.prog X.w) X.A (call (.ref C) us) (EP X aa σ Q) X.xe s:=by
 have hq:=h (s.heap.objs.size+1) s.heap.objs.size (I.hok.fresh (aP2 _)) (I.hok.fresh (bD _)) (bU (d7 _));have I2:=Inv.made (C:=C) I;have r2:Vals (V.ref (s.heap.objs.size+1)::(vs++bn)) (Value.ref (s.heap.objs.size+1)::(us++ds)):=.cons rfl (r.append hd);have hl:(Value.ref (s.heap.objs.size+1)::us++ds).length=ps.length:=by
  have e:=r2.length;rw[F.len _ _ _ _ hq]at e
  exact e.symm
 refine wpAny_call (aHG (f:=f) I.kIn M.makes M.init (beq_iff_eq.mp M.fn) (codeAny_mono (F.run _ X.stack _ _ ⟨Value.ref (s.heap.objs.size+1)::us,[]⟩ (Value.ref (s.heap.objs.size+1)::(us++ds)) _ _ E (hr.make C us [])
  (I2.env0.make C us []) (hb _ (Value.ref (s.heap.objs.size+1)::us) I2.kIn hl) r2 hq) fun r s' se=>?_))
 cases r with
 |error e=>exact hx aa σ _ _ e s' I2 se
 |ok fl=>
  cases fl with
  |ret u=>
   obtain⟨v,H',I3,rv,ev,q3⟩:=I2.after se;subst ev
   exact⟨rv,⟨V.ref (s.heap.objs.size+1),H',I3,rfl,q3⟩⟩
  |next=>exact False.elim se
  |brk=>exact False.elim se
  |cont=>exact False.elim se
theorem aKG(M:Mk X.K C f)(F:nY X.prog X.w X.K X.mg X.base CX k f fd ps sp)(hr:Room (k+1) X.A)(hg:Gl X x)(hm:X.mg x=some (.ref C))(hb:Binds X.K fd ps ds)(hd:Vals bn ds)(hx:Passes CX X E)
 (ha:PA X (e::es) t)(cr:(x==("__debug__":Str))=false:=by decide)(he:starEach (e::es) X.env=(false,eval e X.env)::starEach es X.env:=by rfl)(av:(backTo pos (starEach es X.env)).any (·.1)=false:=by rfl):
 PE X (.Call (.Name x p) (e::es) [] pos) (tMake C sp bn E t):=by
 intro aa s σ H Q I h
 refine wpAny_Call_Name_kw (aBn I hg hm ?_ cr)
 refine aOK (h₀:=X.base) I.ok.mod.kin M.kp (thn (ha pos aa s σ H _ I h) fun us s1 ⟨vs,H1,I1,r,q⟩=>⟨I1.kIn,?_⟩) he av
 exact aHZ M F hr hb hd hx I1 r q
end
def PK(X:Cx)(ke:List Keyword)(t:TA):Prop:=
 ∀(pos:Pos)(aa:List (Addr×Obj))(s:Shared)(σ:St)(H:Hp)(Q:List V->Hp->Prop),Inv X aa σ H s->t σ H Q->wpAny (model X.prog X.w) X.A (evalAll ((backToKw pos (keywordEach ke X.env)).map (·.2))) (AP X aa σ Q) X.xe s
section
variable {X:Cx}{CX:CXT}{k:Nat}{f C:Addr}{fd:FuncData}{ps ks:List Str}{sp:Sp}{E:XK}{x m:Str}{p pos al wv:Pos}{e o:Expr}{es:List Expr}{ke:List Keyword}{te ta:TE}{t tk:TA}{nm:Option Str}
theorem aMH:PK X [] aJ8:=fun _ _ _ _ H Q I h=>wpAny_evalAll_nil ⟨[],H,I,.nil,h⟩
theorem aJe(ha:PE X e te)(hr:PK X ke t):PK X (⟨nm,e,wv⟩::ke) (aIj te t):=by
 intro pos aa s σ H Q I h;show wpAny _ _ (evalAll ((do let v<-eval e X.env;standAt pos;pure v)::(backToKw pos (keywordEach ke X.env)).map (·.2))) _ _ s
 refine wpAny_evalAll_cons (wpAny_bind (thn (ha aa s σ H _ I h) fun u s1 ⟨x,H1,I1,r1,q1⟩=>wpAny_bind (wpAny_standAt (wpAny_pure ?_))))
 exact thn (hr pos aa s1 σ H1 _ I1 q1) fun us s2 ⟨xs,H2,I2,r2,q2⟩=>⟨x::xs,H2,I2,.cons r1 r2,q2⟩
variable {g:List Value->List Value->List Value}{gV:List V->List V->List V}
end
variable{CX:CXT}{mg:Str->Option Value}{base:Heap}{N ps:List Str}{qual:Str}{scope:Scope}{f:Addr}
structure rC(N P:List Str)(sc:Scope):Prop where
 kind:sc.kind=.function
 co:sc.isCoroutine=false
 gen:sc.isGenerator=false
 nd:N.Nodup
 pre:N.take P.length=P
 par:∀x∈P,sc.names.lookup x=some .local\/sc.names.lookup x=some .cell
 nofree:∀y∈sc.names,y.2≠ .free
theorem aAJ{kindOf:Str->Option NameKind}{x:Str}:∀{binds:List (Str×Value)}{m:Str->Option Value},(∀v,(x,v)∉binds)->bindL kindOf binds m x=m x
 | [],_,_=>rfl
 | (n,v)::r,m,h=>by
   unfold bindL;rw[aAJ fun w hw=>h w (aU _ hw)];split
   ·have:x≠n:=by rintro rfl;exact h v bJ
    simp[this]
   ·rfl
theorem zZ{kindOf:Str->Option NameKind}{x:Str}:∀{binds:List (Str×Value)}{m:Str->Option Value},(∀v,(x,v)∉binds)->bindC kindOf binds m x=m x
 | [],_,_=>rfl
 | (n,v)::r,m,h=>by
   unfold bindC;rw[zZ fun w hw=>h w (aU _ hw)];split
   ·rfl
   ·have:x≠n:=by rintro rfl;exact h v bJ
    simp[this]
theorem aAM{kindOf:Str->Option NameKind}{x:Str}{v:Value}:∀{P:List Str}{vs:List Value}{i:Nat}{m:Str->Option Value},P.Nodup->P[i]?=some x->vs[i]?=some v->kindOf x=some .local->
 bindL kindOf (P.zip vs) m x=some v
 | [],_,_,_,_,h,_,_=>by simp at h
 |_::_,[],_,_,_,_,h,_=>by simp at h
 |p::P,w::vs,0,m,nd,h1,h2,hk=>by
  simp at h1 h2;subst h1;subst h2;show bindL kindOf ((p,w)::P.zip vs) m p=_;unfold bindL;rw[aAJ fun v hv=>(bS.mp nd).1 (aO7 hv).1,if_pos hk];simp
 |p::P,w::vs,i+1,m,nd,h1,h2,hk=>by
  show bindL kindOf ((p,w)::P.zip vs) m x=_;unfold bindL
  exact aAM (i:=i) (bS.mp nd).2 (by simpa using h1) (by simpa using h2) hk
theorem aAB{kindOf:Str->Option NameKind}{x:Str}{v:Value}:∀{P:List Str}{vs:List Value}{i:Nat}{m:Str->Option Value},P.Nodup->P[i]?=some x->vs[i]?=some v->kindOf x≠some .local->
 bindC kindOf (P.zip vs) m x=some v
 | [],_,_,_,_,h,_,_=>by simp at h
 |_::_,[],_,_,_,_,h,_=>by simp at h
 |p::P,w::vs,0,m,nd,h1,h2,hk=>by
  simp at h1 h2;subst h1;subst h2;show bindC kindOf ((p,w)::P.zip vs) m p=_;unfold bindC;rw[zZ fun v hv=>(bS.mp nd).1 (aO7 hv).1,if_neg hk];simp
 |p::P,w::vs,i+1,m,nd,h1,h2,hk=>by
  show bindC kindOf ((p,w)::P.zip vs) m x=_;unfold bindC
  exact aAB (i:=i) (bS.mp nd).2 (by simpa using h1) (by simpa using h2) hk
noncomputable def start(N:List Str)(vs:List V):St:=vs.map some++aX (N.length - vs.length) none
def aBs(CX:CXT)(P:Program)(w:World)(K:aO)(mg:Str->Option Value)(base:Heap)(N:List Str)(qual:Str)(scope:Scope)(f:Addr)(cd:Value)(A:Around)(outer:List Env)(s:Shared)(H:Hp)(E:XK):Cx where
 prog:=P
 w:=w
 K:=K
 mg:=mg
 base:=base
 A:=A.deeper (envOfC qual scope s.heap.objs.size f cd)
 N:=N
 s₀:=s
 H₀:=H
 env:=envOfC qual scope s.heap.objs.size f cd
 outer:=outer
 stack:=envOfC qual scope s.heap.objs.size f cd::outer
 ex:=[]
 calm:=true
 fn:=fun _=>true
 pn:=[]
 xe:=fun e s'=>wpAny (model P w) (A.deeper (envOfC qual scope s.heap.objs.size f cd)) (leaving (envOfC qual scope s.heap.objs.size f cd) e) (fun _ qm=>CX outer H s E e qm) (fun e' qm=>CX outer H s E e' qm) s'
theorem aCS{sc:Scope}{n:Nat}{x:Str}(h:sc.names.lookup x=some .cell):∃c,(cellsFrom n sc.names []).lookup x=some c:=by
 have q:=aO2 sc.names n [] (.inl h)
 exact cP.mp q
theorem aFA{P:Program}{w:World}{K:aO}{cd:Value}{A:Around}{outer:List Env}{s s1:Shared}{H:Hp}{E:XK}{us:List Value}{vs:List V}
 (S:rC N ps scope)(hd:A.handled=none)(e0:Env0 P w K mg base A outer s H)(hl:vs.length=ps.length)(r:Vals vs us)
 (x:InCallC s s.heap.objs.size (bindL (envOfC qual scope s.heap.objs.size f cd).kindOf (ps.zip us) fun _=>none) (cellsFrom (s.heap.objs.size+1) scope.names []) (bindC (envOfC qual scope s.heap.objs.size f cd).kindOf (ps.zip us) fun _=>none) s1):
 Inv (aBs CX P w K mg base N qual scope f cd A outer s H E) [] (start N vs) H s1:=by
 have av:ps.length<=N.length:=by have:=congrArg aPF S.pre;rw[d8]at this;lia
 obtain⟨h1,tk,rfl,hk⟩:=x.done;have qt:∀b:Addr,b∉(aBs CX P w K mg base N qual scope f cd A outer s H E).ex:=fun b z=>absurd (show b∈([]:List Addr)from z) (by simp)
 refine⟨⟨e0.mod,S.kind,rfl,rfl,bD _,fun y z c h1 h2=>?_,fun y hy=>?_,fun y c _ h=>?_,fun _=>hd,Around.frames_deeper e0.frames,.inr ⟨rfl,rfl⟩,fun b z=>absurd z (qt b),e0.bs,e0.bsz,fun b _ _=>qt b,fun b z=>absurd z (qt b),e0.funs,e0.frf⟩,
  rfl,e0.bare,Un.kept hk,⟨_,x.toInCall.ns,fun i y v h1 h2 h3=>?_⟩,fun y c h=>⟨_,x.cell y c h⟩,e0.hok.fresh (bD _),fun y c h=>?_,fun p hp=>absurd (show p∈([]:List (Addr×Obj))from hp) (by simp),e0.hok.kept hk,?_⟩
 ·exact name_of_addr x.apart (PySem.mem_of_lookup h1) (PySem.mem_of_lookup h2)
 ·have hy:scope.names.lookup y=some .cell\/scope.names.lookup y=some .free:=hy;rcases hy with hy|hy
  ·exact aCS hy
  ·exact absurd rfl (S.nofree _ (PySem.mem_of_lookup hy))
 ·exact aPs (x.above y c (PySem.mem_of_lookup h))
 ·have hi:i<vs.length:=by
   unfold start at h2;by_cases hi:i<vs.length
   ·exact hi
   ·rw[bI (by simpa using hi)]at h2;rw[cT]at h2;split at h2<;>cases h2
  have ha:vs[i]?=some v:=by
   unfold start at h2;rw[aT (by simpa using hi),bH]at h2;cases e:vs[i]?with
   |none=>rw[e]at h2;cases h2
   |some a=>rw[e]at h2;cases h2;rfl
  obtain⟨u,hu,rv⟩:=r.get ha;have hp:ps[i]?=some y:=by
   rw[<-S.pre,aOm (by lia)];exact h1
  have ndP:ps.Nodup:=by rw[<-S.pre];exact S.nd.sublist (List.take_sublist _ _)
  refine⟨u,rv,?_⟩
  rcases S.par y (bF hp)with k|k
  ·exact .inl ⟨k,aAM ndP hp hu k⟩
  ·obtain⟨c,e⟩:=aCS (n:=s.heap.objs.size+1) k
   refine .inr ⟨.inl k,c,e,?_⟩
   have q:=x.cell y c e;rw[aAB ndP hp hu (by show scope.names.lookup y≠_;rw[k];decide)]at q
   exact q
 ·exact e0.hok.fresh (aPs (x.above y c (PySem.mem_of_lookup h)))
 ·unfold start;show _=N.length;rw[bB,aS,eQ]
  lia
theorem aKW{P:Program}{w:World}{K:aO}{k:Nat}{name:Str}{params:Arguments}{body:List Stmt}{dV kV doc pm az ct oc:Value}{an od:Option Addr}
 {fg:Array (Option Value)}{sp:Sp}(lk:K.lookup f=some ⟨oc,od,.func (cJ name qual params body scope dV kV doc pm an az ct),fg⟩)(iy:dM K az qual=true)(S:rC N ps scope)
 (len:∀vs H Q E,sp vs H Q E->vs.length=ps.length)
 (du:∀(A:Around)(outer:List Env)(s:Shared)(H:Hp)(vs:List V)(Q:VK)(E:XK),Room k (A.deeper (envOfC qual scope s.heap.objs.size f az))->sp vs H Q E->
  ∃t,PSs (aBs CX P w K mg base N qual scope f az A outer s H E) body t/\t {nx:=fun _ H'=>Q .non H',rt:=Q} (start N vs) H):
 nY P w K mg base CX (k+1) f (cJ name qual params body scope dV kV doc pm an az ct) ps sp:=by
 refine⟨len,fun A outer s H args us vs Q E hr e0 hb r di=>?_⟩
 have hl:=len _ _ _ _ di;have KX:K.In s.heap:=e0.mod.kin.keeps fun b o e=>(e0.bs b o e).1
 have lim:s.heap.NoLimit:=e0.mod.nolimit.keeps fun b o e=>(e0.bs b o e).1
 have sw:∀y∈ps.zip us,scope.names.lookup y.1=some .local\/(scope.names.lookup y.1=some .cell/\((cellsFrom (s.heap.objs.size+1) scope.names []).lookup y.1).isSome=true):=fun⟨n,v⟩ hy=>by
  rcases S.par n (aO7 hy).1 with q|q
  ·exact .inl q
  ·exact .inr ⟨q,aO2 _ _ _ (.inl q)⟩
 refine codeAny_call_function hr.depth (KX _ _ lk) rfl S.co S.gen rfl (PySem.W.codeRec_of KX iy) (hb _ _ _ _ ?_)
 refine wpAny_newFunctionEnv_cells S.kind sw fun env he s1 x=>?_
 subst he
 refine⟨lim.keeps x.toInCall.keep,codeAny_func ?_⟩
 obtain⟨t,ht,hq⟩:=du A outer s H vs Q E (hr.deeper _) di;have I:Inv (aBs CX P w K mg base N qual scope f az A outer s H E) [] (start N vs) H s1:=aFA S hr.hd e0 hl r x
 refine wpAny_mono (ht [] s1 (start N vs) H _ I hq) (fun fl s' hs=>?_) fun e s' hs=>hs
 have fin:∀{ah:St}{H':Hp}{v:V}{u:Value},Inv (aBs CX P w K mg base N qual scope f az A outer s H E) [] ah H' s'->RelV v u->Q v H'->CE outer P w H s Q u s':=
  fun {ah H' v u} J rv q=>⟨v,H',J.os,J.bare,J.base,J.hok,rv,q⟩
 cases fl with
 |ret u=>
  obtain⟨v,ah,H',J,rv,q⟩:=hs
  exact fin J rv q
 |next=>
  obtain⟨ah,H',J,q⟩:=hs
  exact fin (v:=V.non) (u:=Value.none) J rfl q
 |brk=>
  obtain⟨_,_,_,q⟩:=hs
  exact False.elim q
 |cont=>
  obtain⟨_,_,_,q⟩:=hs
  exact False.elim q
section
variable {X:Cx}{x:Str}{p pos:Pos}{e:Expr}{es:List Expr}{t:TA}{id T:String}{r:List V->Hp->VK->Prop}
noncomputable def tCB(r:List V->Hp->VK->Prop)(t:TA):TE:=fun σ H Q=>t σ H fun vs H1=>r vs H1 Q
theorem aBV(hc:oV X (.builtin id) r)(hg:Gl X x)(hm:X.mg x=none)(hv:bootBuiltins x=some (.builtin id))(ha:PA X (e::es) t)(hn:x≠"__name__":=by decide)(cr:(x==("__debug__":Str))=false:=by decide)
 (he:starEach (e::es) X.env=(false,eval e X.env)::starEach es X.env:=by rfl)(av:(backTo pos (starEach es X.env)).any (·.1)=false:=by rfl):PE X (.Call (.Name x p) (e::es) [] pos) (tCB r t):=by
 intro aa s σ H Q I h
 refine wpAny_Call_Name_kw (qY I hg hm hv ?_ hn cr)
 exact aPy (thn (ha pos aa s σ H _ I h) fun us s1 ⟨vs,H1,I1,r1,q1⟩=>hc aa s1 σ H1 vs us Q I1 r1 q1) he av
theorem aAH(hc:oV X (.type T) r)(hg:Gl X x)(hm:X.mg x=none)(hv:bootBuiltins x=some (.type T))(ha:PA X (e::es) t)(hn:x≠"__name__":=by decide)(cr:(x==("__debug__":Str))=false:=by decide)
 (he:starEach (e::es) X.env=(false,eval e X.env)::starEach es X.env:=by rfl)(av:(backTo pos (starEach es X.env)).any (·.1)=false:=by rfl):PE X (.Call (.Name x p) (e::es) [] pos) (tCB r t):=by
 intro aa s σ H Q I h
 refine wpAny_Call_Name_kw (qY I hg hm hv ?_ hn cr)
 exact dC (thn (ha pos aa s σ H _ I h) fun us s1 ⟨vs,H1,I1,r1,q1⟩=>hc aa s1 σ H1 vs us Q I1 r1 q1) he av
end
end L2
namespace HT
open PySem PyProof.Rows
section
open PySem.SeqAt
open PySem.AutoSeq1 (wpAny_loadPart')
open PySem.MeetsSeq PySem.MeetsSeq2 PySem.MeetsSeq3
end
section
variable {prog:Program}{w:World}{A:Around}{E:Value->Shared->Prop}{s:Shared}
noncomputable def sIx(n d:Nat):Option Int->Nat
 |none=>d
 |some v=>if v<0 then(v+(n:Int)).toNat else min v.toNat n
theorem aC1(n d:Nat):sIx n d none=d:=rfl
end
end HT
namespace L2
open PySem PySem.Spec PyProof.Rows
abbrev TO:=St->Hp->(Option Int->Hp->Prop)->Prop
def PO(X:Cx)(e:Option Expr)(t:TO):Prop:=
 ∀(aa:List (Addr×Obj))(s:Shared)(σ:St)(H:Hp)(Q:Option Int->Hp->Prop),Inv X aa σ H s->t σ H Q->
  wpAny (model X.prog X.w) X.A (evalPart e X.env) (fun u s'=>∃o H',Inv X aa σ H' s'/\IsPart u o/\Q o H') X.xe s
noncomputable def tNoPart:TO:=fun _ H Q=>Q none H
noncomputable def tPart(t:TE):TO:=fun σ H Q=>t σ H fun x H1=>∃i,x=.int i/\Q (some i) H1
theorem sA{ns:List Int}:∀{us:List Value},Vals (ns.map V.int) us->IntsAre us ns:=by
 induction ns with
 |nil=>intro us r;rw[bC]at r;cases r;exact .nil
 |cons n ns ih=>
  intro us r;rw[aM]at r;cases r with
  |cons r1 r2=>
   obtain⟨t,e⟩:=r1;subst e
   exact .cons n t (ih r2)
section
variable {X:Cx}{e:Expr}{te:TE}{lo hi:Option Expr}{tl th:TO}{pos p2:Pos}
theorem aJf:PO X none tNoPart:=by
 intro aa s σ H Q I h;rw[evalPart_none]
 exact wpAny_pure ⟨none,H,I,.none,h⟩
theorem aBz(h:PE X e te):PO X (some e) (tPart te):=by
 intro aa s σ H Q I hw;rw[evalPart_some]
 refine thn (h aa s σ H _ I hw) fun u s1 zz=>?_
 obtain⟨x,H1,I1,r1,q1⟩:=zz;obtain⟨i,rfl,q⟩:=q1;obtain⟨t,rfl⟩:=r1
 exact⟨some i,H1,I1,.int i t,q⟩
def SlR(X:Cx)(r:V->Option Int->Option Int->Hp->VK->Prop):Prop:=
 ∀(aa:List (Addr×Obj))(s:Shared)(σ:St)(H:Hp)(x:V)(v vl vu:Value)(lo hi:Option Int)(sl:Addr)(Q:VK),Inv X aa σ H s->RelV x v->s.heap.IsSliceOf sl vl vu .none->IsPart vl lo->IsPart vu hi->r x lo hi H Q->
  ∃T id,typeLookup (.type T) "__getitem__"=pure (some (.builtin id))/\s.TypeIs v T/\wpAny (model X.prog X.w) X.A (getItem v (.ref sl)) (EP X aa σ Q) X.xe s
noncomputable def tSl(r:V->Option Int->Option Int->Hp->VK->Prop)(te:TE)(tl th:TO):TE:=fun σ H Q=>te σ H fun x H1=>tl σ H1 fun l H2=>th σ H2 fun u H3=>r x l u H3 Q
theorem aIx{r:V->Option Int->Option Int->Hp->VK->Prop}(hr:SlR X r)(he:PE X e te)(hl:PO X lo tl)(hu:PO X hi th):PE X (.Subscript e (.Slice lo hi none p2) pos) (tSl r te tl th):=by
 intro aa s σ H Q I h
 refine Subscript_ (thn (he aa s σ H _ I h) fun v s1 zz=>?_)
 obtain⟨x,H1,I1,r1,q1⟩:=zz
 refine wpAny_Slice (thn (hl aa s1 σ H1 _ I1 q1) fun vl s2 ⟨l,H2,I2,pl,q2⟩=>thn (hu aa s2 σ H2 _ I2 q2) fun vu s3 zz=>?_)
 obtain⟨u,H3,I3,pu,q3⟩:=zz;rw[evalPart_none]
 refine wpAny_pure ?_
 have I4:Inv X aa σ H3 {s3 with heap:=s3.heap.push {cls:=.type "slice",data:=.fields #[vl,vu,.none]}}:=I3.kept (t':=s3.toks) fun b ob q=>Heap.get?_push_of_some _ q
 obtain⟨T,id,hT,ht,hg⟩:=hr aa {s3 with heap:=s3.heap.push {cls:=.type "slice",data:=.fields #[vl,vu,.none]}} σ H3 x v vl vu l u s3.heap.objs.size Q I4 r1 (Heap.IsSliceOf.new ..) pl pu q3;show wpAny (model X.prog X.w) X.A (subscriptTail e (.Slice lo hi none p2) v (.ref s3.heap.objs.size)) (EP X aa σ Q) X.xe {s3 with heap:=s3.heap.push {cls:=.type "slice",data:=.fields #[vl,vu,.none]}}
 exact tail_any (ops:=[.ref s3.heap.objs.size,v]) ht hT hg (by with_unfolding_all rfl)
def aFu(xs:List V)(lo hi:Option Int):List V:=(xs.drop (HT.sIx xs.length 0 lo)).take (HT.sIx xs.length xs.length hi - HT.sIx xs.length 0 lo)
theorem aBQ(xs:List V)(lo hi:Option Int):(aFu xs lo hi).length<=xs.length:=by
 unfold aFu;rw[d8,aOY]
 lia
end
variable{i:Int}{j:Nat}{α:Type}
noncomputable def ixN(n:Nat)(i:Int):Option Nat:=if 0<=i then(if i<n then some i.toNat else none)else if -(n:Int)<=i then some (i+n).toNat else none
def atI{α:Type}(xs:List α)(i:Int):Option α:=(ixN xs.length i).bind fun j=>xs[j]?
theorem aEO{n:Nat}(h:ixN n i=some j):seqIndex? i n=some j/\j<n/\ -(n:Int)<=i/\i<n:=by
 unfold ixN at h;by_cases h0:0<=i
 ·rw[if_pos h0]at h;by_cases h1:i<n
  ·rw[if_pos h1]at h;have e:i.toNat=j:=cO.inj h
   exact⟨by rw[seqIndex_of h0 h1,e],by lia,by lia,h1⟩
  ·rw[if_neg h1]at h;cases h
 ·rw[if_neg h0]at h;by_cases h1: -(n:Int)<=i
  ·rw[if_pos h1]at h;have e:(i+n).toNat=j:=cO.inj h
   exact⟨by rw[seqIndex_neg (by lia) h1,e],by lia,h1,by lia⟩
  ·rw[if_neg h1]at h;cases h
theorem aA6{xs:List α}{v:α}(h:atI xs i=some v):∃j,seqIndex? i xs.length=some j/\xs[j]?=some v/\j<xs.length/\ -(xs.length:Int)<=i/\i<xs.length:=by
 unfold atI at h;cases e:ixN xs.length i with
 |none=>rw[e]at h;cases h
 |some j=>
  rw[e]at h;obtain⟨h1,h2,h3,h4⟩:=aEO e
  exact⟨j,h1,h,h2,h3,h4⟩
theorem aEj{xs:List α}{v:α}(h:xs[j]?=some v):atI xs (j:Int)=some v:=by
 have hj:j<xs.length:=(aR.mp h).1;have e:ixN xs.length (j:Int)=some j:=by
  unfold ixN;rw[if_pos (by lia),if_pos (by lia)];simp
 unfold atI;rw[e];exact h
def PlainIx(b:Expr):Prop:=∀o i,subscripted b false o i=operate [o,i] (getItem o i)
def IxR(X:Cx)(r:R2):Prop:=
 ∀(value slice:Expr)(aa:List (Addr×Obj))(s:Shared)(σ:St)(H:Hp)(x y:V)(v u:Value)(Q:VK),Inv X aa σ H s->RelV x v->RelV y u->r x y H Q->
  subscripted slice false v u=operate [v,u] (getItem v u)->wpAny (model X.prog X.w) X.A (subscriptTail value slice v u) (EP X aa σ Q) X.xe s
def MtR(X:Cx)(id:String)(r:V->List V->Hp->VK->Prop):Prop:=
 ∀(aa:List (Addr×Obj))(s:Shared)(σ:St)(H:Hp)(x:V)(xs:List V)(v:Value)(us:List Value)(Q:VK),Inv X aa σ H s->RelV x v->Vals xs us->r x xs H Q->
  wpAny (model X.prog X.w) X.A (call (.builtin id) (v::us)) (EP X aa σ Q) X.xe s
section
variable {X:Cx}{a b:Expr}{ta tb:TE}{pos:Pos}
variable{r:R2}{aa:List (Addr×Obj)}{σ:St}{H:Hp}{s:Shared}{p:Addr}{xs:List V}{x:V}{v:Value}
theorem IxR.or{r':R2}(h:IxR X r)(h':IxR X r'):IxR X (fun x y H Q=>r x y H Q\/r' x y H Q):=by
 intro value slice aa s σ H x y v u Q I rx ry q hs;rcases q with q|q
 ·exact h value slice aa s σ H x y v u Q I rx ry q hs
 ·exact h' value slice aa s σ H x y v u Q I rx ry q hs
theorem aN1(hr:IxR X r)(ha:PE X a ta)(hb:PE X b tb)(hs:PlainIx b):PE X (.Subscript a b pos) (tOp r ta tb):=by
 intro aa s σ H Q I h
 exact Subscript_ (aMP ha hb I h fun v u s2 x y H2 I2 rx ry q=>hr a b aa s2 σ H2 x y v u Q I2 rx ry q (hs _ _))
def rIxL(K:aO):R2:=fun x y H Q=>∃p xs i v,x=.ref p/\y=.int i/\SqL K H p xs/\atI xs i=some v/\Q v H
def rIxT(K:aO):R2:=fun x y H Q=>∃p xs i v,x=.ref p/\y=.int i/\SqT K H p xs/\atI xs i=some v/\Q v H
def rIxS:R2:=fun x y H Q=>∃z i c,x=.str z/\y=.int i/\z.length<=sizeLine/\atI z.cps.toList i=some c/\Q (.str ⟨#[c]⟩) H
theorem aIO:IxR X (rIxL X.K):=by
 intro value slice aa s σ H x y v u Q I rx ry h hs;obtain⟨p,xs,i,z,rfl,rfl,hq,he,q⟩:=h;cases rx;obtain⟨t,rfl⟩:=ry;obtain⟨its,r,pl,hz⟩:=I.list hq;obtain⟨j,h1,h2,h3,h4,h5⟩:=aA6 he;obtain⟨w,ew,gr⟩:=r.get h2;have hl:=r.length;have hn:=line63;have fin:EP X aa σ Q w s:=⟨z,H,I,gr,q⟩;by_cases h0:0<=i
 ·have hj:i.toNat=j:=by
   rw[seqIndex_of h0 h5]at h1
   exact cO.inj h1
  exact item_listR pl.isList h0 (by lia) (by rw[hj];simpa using ew) fin hs
 ·have hj:(i+(its.toArray.size:Int)).toNat=j:=by
   rw[seqIndex_neg (by lia) h4]at h1;rw[bG,<-hl]
   exact cO.inj h1
  exact subscriptTail_builtinR (x:=w) pl.isList.typeIs slot_list_getitem.lookup
   (wpAny_getItem_list_neg (Q:=fun r s'=>r=w/\EP X aa σ Q r s') pl.isList (by lia) (by rw[bG]<;>lia) (by lia) (by rw[hj];simpa using ew) ⟨rfl,fin⟩) hs
theorem aL3:IxR X (rIxT X.K):=by
 intro value slice aa s σ H x y v u Q I rx ry h hs;obtain⟨p,xs,i,z,rfl,rfl,hq,he,q⟩:=h;cases rx;obtain⟨t,rfl⟩:=ry;obtain⟨its,r,pl,hz⟩:=I.tuple hq;obtain⟨j,h1,h2,h3,h4,h5⟩:=aA6 he;obtain⟨w,ew,gr⟩:=r.get h2;have hl:=r.length;have hn:=line63;have fin:EP X aa σ Q w s:=⟨z,H,I,gr,q⟩
 exact subscriptTail_builtinR (x:=w) pl.typeIs slot_tuple_getitem.lookup
  (getItem_tuple (j:=j) (Q:=fun r s'=>r=w/\EP X aa σ Q r s') pl (by lia) (by lia) (by rw[bG,<-hl];exact h1) (by simpa using ew) ⟨rfl,fin⟩) hs
theorem aM4:IxR X rIxS:=by
 intro value slice aa s σ H x y v u Q I rx ry h hs;obtain⟨z,i,c,rfl,rfl,hz,he,q⟩:=h;obtain⟨t,rfl⟩:=rx;obtain⟨t',rfl⟩:=ry;obtain⟨j,h1,h2,h3,h4,h5⟩:=aA6 he;have hl:z.cps.toList.length=z.length:=by simp[Str.length]
 rw[hl]at h1 h4 h5;have hn:=line63
 exact tail_any (typeIs_str s z t) slot_str_getitem.lookup (getItem_str (c:=c) (by
  have e1:decide (i< -(2^63:Int))=false:=decide_eq_false (by lia);have e2:decide (i>=2^63)=false:=decide_eq_false (by lia);rw[e1,e2,Bool.or_false]) (by rw[h1];simpa using h2) ⟨.str ⟨#[c]⟩,H,I.tok _,⟨_,rfl⟩,q⟩) hs
def rIx(K:aO):R2:=fun x y H Q=>rIxL K x y H Q\/rIxT K x y H Q\/rIxS x y H Q
theorem aMd:IxR X (rIx X.K):=aIO.or (aL3.or aM4)
theorem aDd(its:List Value)(n j:Nat)(u:Value):Obj.mapSeq (·.setIfInBounds j u) {cls:=.type "list",data:=.seq its.toArray n}={cls:=.type "list",data:=.seq (its.set j u).toArray n}:=by
 simp[Obj.mapSeq]
theorem Inv.lst(I:Inv X aa σ H s)(h:H p=some (.lst xs)):
 ∃(its:List Value)(n:Nat),Vals xs its/\s.heap.get? p=some {cls:=.type "list",data:=.seq its.toArray n}/\xs.length<=sizeLine:=by
 obtain⟨z,its,n,r,e⟩:=I.hok p _ h
 exact⟨its,n,r,e,z⟩
theorem Inv.lstUpd{ys:List V}{its its':List Value}{n n':Nat}{f:Obj->Obj}(I:Inv X aa σ H s)(h:H p=some (.lst xs))
 (ho:s.heap.get? p=some {cls:=.type "list",data:=.seq its.toArray n})(hf:f {cls:=.type "list",data:=.seq its.toArray n}={cls:=.type "list",data:=.seq its'.toArray n'})(r:Vals ys its')(hz:ys.length<=sizeLine)(t:Nat):
 Inv X aa σ (upd H p (.lst ys)) {s with heap:=s.heap.update p f,toks:=t}:=by
 have e:(s.heap.update p f).get? p=some {cls:=.type "list",data:=.seq its'.toArray n'}:=by
  rw[Heap.get?_update_self f ho (by rw[hf]<;>rfl),hf]
 refine I.write (x:=p) (e:=p) (by rw[h];trivial) (.inl rfl) (fun b u hb q=>(Heap.get?_update_other _ _ (Ne.symm hb)).trans q) ⟨_,e⟩ ?_
 exact⟨hz,its',n',r,e⟩
def rSetL:V->V->V->Hp->(Hp->Prop)->Prop:=fun o i v H Q=>∃p xs k j,o=.ref p/\i=.int k/\H p=some (.lst xs)/\ixN xs.length k=some j/\Q (upd H p (.lst (xs.set j v)))
theorem aIs:PSet X rSetL:=by
 intro aa s σ H o i v ov iv u Q I ro ri rv h;obtain⟨p,xs,k,j,rfl,rfl,hp,hj,q⟩:=h;cases ro;obtain⟨t,rfl⟩:=ri;obtain⟨its,n,r,ho,hz⟩:=I.lst hp;obtain⟨h1,h2,h3,h4⟩:=aEO hj;have hl:=r.length;have hn:=line63;have I':Inv X aa σ (upd H p (.lst (xs.set j v))) {s with heap:=s.heap.update p (Obj.mapSeq (·.setIfInBounds j u))}:=
  I.lstUpd hp ho (aDd its n j u) (r.set rv j) (by rw[cL];exact hz) s.toks
 by_cases h0:0<=k
 ·have hk:k.toNat=j:=by
   rw[seqIndex_of h0 h4]at h1
   exact cO.inj h1
  exact PySem.W.ki_setAt ho h0 (by lia) (by rw[bG,<-hl];exact h4) (by rw[hk];exact⟨_,I',q⟩)
 ·have hk:(k+(its.toArray.size:Int)).toNat=j:=by
   rw[seqIndex_neg (by lia) h3]at h1;rw[bG,<-hl]
   exact cO.inj h1
  exact PySem.W.ki_setBack ho (by lia) (by rw[bG,<-hl];exact h3) (by lia) (by rw[hk];exact⟨_,I',q⟩)
theorem aAV(lo hi:Option Int)(n:Nat):(sliceBounds lo hi none n).1=((HT.sIx n 0 lo:Nat):Int)/\(sliceBounds lo hi none n).2.1=((HT.sIx n n hi:Nat):Int)/\(sliceBounds lo hi none n).2.2=1:=by
 refine⟨?_,?_,rfl⟩
 ·cases lo with
  |none=>simp[sliceBounds,HT.sIx]
  |some i=>
   simp only[sliceBounds,HT.sIx,aPz,show(1:Int)>0 by decide,if_true];by_cases h:i<0
   ·simp only[h,if_true]<;>lia
   ·simp only[h,if_false]<;>lia
 ·cases hi with
  |none=>simp[sliceBounds,HT.sIx]
  |some i=>
   simp only[sliceBounds,HT.sIx,aPz,show(1:Int)>0 by decide,if_true];by_cases h:i<0
   ·simp only[h,if_true]<;>lia
   ·simp only[h,if_false]<;>lia
theorem zN(its:List Value)(lo hi:Option Int):slicePick its.toArray lo hi none=((its.drop (HT.sIx its.length 0 lo)).take (HT.sIx its.length its.length hi - HT.sIx its.length 0 lo)).toArray:=by
 obtain⟨h1,h2,h3⟩:=aAV lo hi its.toArray.size;unfold slicePick;rw[h1,h2,h3];simp only[sliceRange_one,pick_run,bG]<;>rfl
def rSlL(K:aO):V->Option Int->Option Int->Hp->VK->Prop:=fun x lo hi H Q=>∃a xs,x=.ref a/\SqL K H a xs/\∀p,H p=none->Q (.ref p) (upd H p (.lst (aFu xs lo hi)))
theorem aI6:SlR X (rSlL X.K):=by
 intro aa s σ H x v vl vu lo hi sl Q I rx hs pl pu h;obtain⟨a,xs,rfl,hx,q⟩:=h;cases rx;obtain⟨its,r,ht,hz⟩:=I.list hx;have ai:=r.length
 refine⟨"list",_,slot_list_getitem.lookup,ht.isList.typeIs,?_⟩
 refine wpAny_getItem_list_slice ht.isList hs pl pu .none (by simp) ?_ (by rw[bG]<;>lia)
 rw[zN,<-ai]
 refine⟨.ref s.heap.objs.size,_,I.laid (t':=s.toks) (o:=.lst (aFu xs lo hi)) (fun b ob q=>Heap.get?_push_of_some _ q) (bD _) ?_,rfl,q _ (I.hok.fresh (bD _))⟩
 exact⟨cA (aBQ xs lo hi) hz,_,0,(r.drop (HT.sIx xs.length 0 lo)).take (HT.sIx xs.length xs.length hi - HT.sIx xs.length 0 lo),Heap.get?_push_size _ rfl⟩
noncomputable def flatV:V->Bool
 | .non=>true
 | .bl _=>true
 | .int _=>true
 | .str _=>true
 |_=>false
noncomputable def eqV:V->V->Bool
 | .non,.non=>true
 | .bl a,.bl b=>a==b
 | .bl a,.int b=>(if a then 1 else 0)==b
 | .int a,.bl b=>a==(if b then 1 else 0)
 | .int a,.int b=>a==b
 | .str a,.str b=>a==b
 |_,_=>false
theorem aLV{A:Around}{y:V}{u:Value}(ry:RelV y u)(rx:RelV x v)(fy:flatV y=true)(fx:flatV x=true):SeqAt.EqAt A s u v (eqV y x):=by
 cases y with
 |non=>
  cases ry;cases x with
  |non=>cases rx;exact SeqAt.EqAt.same _
  |bl b=>cases rx;exact SeqAt.EqAt.none_bool b
  |int b=>obtain⟨t,rfl⟩:=rx;exact SeqAt.EqAt.none_int b t
  |str b=>obtain⟨t,rfl⟩:=rx;exact SeqAt.EqAt.none_str b t
  |_=>exact absurd (show false=true from fx) bW
 |bl a=>
  cases ry;cases x with
  |non=>cases rx;exact SeqAt.EqAt.bool_none a
  |bl b=>cases rx;exact SeqAt.EqAt.bool_bool a b
  |int b=>obtain⟨t,rfl⟩:=rx;exact SeqAt.EqAt.bool_int a b t
  |str b=>obtain⟨t,rfl⟩:=rx;exact SeqAt.EqAt.bool_str a b t
  |_=>exact absurd (show false=true from fx) bW
 |int a=>
  obtain⟨t',rfl⟩:=ry;cases x with
  |non=>cases rx;exact SeqAt.EqAt.int_none a t'
  |bl b=>cases rx;exact SeqAt.EqAt.int_bool a t' b
  |int b=>obtain⟨t,rfl⟩:=rx;exact SeqAt.EqAt.int_int a t' b t
  |str b=>obtain⟨t,rfl⟩:=rx;exact SeqAt.EqAt.int_str a t' b t
  |_=>exact absurd (show false=true from fx) bW
 |str a=>
  obtain⟨t',rfl⟩:=ry;cases x with
  |non=>cases rx;exact SeqAt.EqAt.str_none a t'
  |bl b=>cases rx;exact SeqAt.EqAt.str_bool a t' b
  |int b=>obtain⟨t,rfl⟩:=rx;exact SeqAt.EqAt.str_int a t' b t
  |str b=>obtain⟨t,rfl⟩:=rx;exact SeqAt.EqAt.str_str a t' b t
  |_=>exact absurd (show false=true from fx) bW
 |_=>exact absurd (show false=true from fy) bW
theorem aA8:oV X (.builtin "len") (fun xs H Q=>∃p ys,xs=[.ref p]/\(SqL X.K H p ys\/SqT X.K H p ys)/\Q (.int ys.length) H):=by
 intro aa s σ H xs us Q I r h;obtain⟨p,ys,rfl,hq,q⟩:=h;obtain⟨u,rfl,rx⟩:=vals1 r;cases rx;have hn:=line63;rcases hq with hq|hq
 ·obtain⟨its,r',pl,hz⟩:=I.list hq;have ai:=r'.length
  exact Calls.call_len_list pl.isList (by simp only[bG]<;>lia) ⟨.int ys.length,H,I.tok _,⟨s.toks+1,by rw[bG,ai]⟩,q⟩
 ·obtain⟨its,r',pl,hz⟩:=I.tuple hq;have ai:=r'.length
  exact len_tuple pl (by simp only[bG]<;>lia) ⟨.int ys.length,H,I.tok _,⟨s.toks+1,by rw[bG,ai]⟩,q⟩
theorem aA7:oV X (.type "list") (fun xs H Q=>∃p ys,xs=[.ref p]/\(SqL X.K H p ys\/SqT X.K H p ys)/\∀l,H l=none->Q (.ref l) (upd H l (.lst ys))):=by
 intro aa s σ H xs us Q I r h;obtain⟨p,ys,rfl,hq,q⟩:=h;obtain⟨u,rfl,rx⟩:=vals1 r;cases rx;have fin:∀(its:List Value),Vals ys its->ys.length<=sizeLine->∀(h':Heap)(c':Nat),(∀b o',s.heap.get? b=some o'->h'.get? b=some o')->
  h'.get? s.heap.objs.size=some {cls:=.type "list",dict:=none,data:=.seq its.toArray c',slots:=#[]}->EP X aa σ Q (.ref s.heap.objs.size) {s with heap:=h'}:=fun its r' hz h' c' kp e=>
  ⟨.ref s.heap.objs.size,_,I.laid (t':=s.toks) kp (bD _) (show jQ X.prog X.w _ h' _ (.lst ys)from⟨hz,its,c',r',e⟩),rfl,q _ (I.hok.fresh (bD _))⟩
 rcases hq with hq|hq
 ·obtain⟨its,r',pl,hz⟩:=I.list hq;have ai:=r'.length;obtain⟨o,ho,hc,n,hd⟩:=pl.isList
  exact call_list_seq p (.inl rfl) ho hc hd (fun h' c' kp e=>fin its r' hz h' c' kp e) (by simp only[bG]<;>lia)
 ·obtain⟨its,r',pl,hz⟩:=I.tuple hq;have ai:=r'.length;obtain⟨o,ho,hc,n,hd⟩:=pl
  exact call_list_seq p (.inr rfl) ho hc hd (fun h' c' kp e=>fin its r' hz h' c' kp e) (by simp only[bG]<;>lia)
def tyV(K:aO)(T:String)(x:V)(H:Hp):Prop:=match x with
 | .str _=>T="str"
 | .int _=>T="int"
 | .ref p=>(T="list"/\∃xs,SqL K H p xs)\/(T="tuple"/\∃o,K.lookup p=some o/\o.cls=.type "tuple"/\o.dict=none)\/
  (T="dict"/\((∃kvs,H p=some (.dK kvs))\/∃kvs,H p=some (.dT kvs)))\/(T="set"/\∃S n,H p=some (.set S n))
 |_=>False
theorem aM5{T:String}(I:Inv X aa σ H s)(r:RelV x v)(ty:tyV X.K T x H):
 s.TypeIs v T/\∀a,v=.ref a->∃ob,s.heap.get? a=some ob/\ob.dict=none:=by
 cases x with
 |str z=>
  obtain⟨t,rfl⟩:=r;cases (show T="str" from ty)
  exact⟨typeIs_str s z t,fun _ e=>nomatch e⟩
 |int i=>
  obtain⟨t,rfl⟩:=r;cases (show T="int" from ty)
  exact⟨typeIs_int s i t,fun _ e=>nomatch e⟩
 |ref p=>
  cases r;rcases ty with⟨rfl,xs,hq⟩| ⟨rfl,o,hk,hc,hd⟩| ⟨rfl,hk⟩| ⟨rfl,S,n,hk⟩
  ·obtain⟨its,_,pl,_⟩:=I.list hq
   refine⟨pl.isList.typeIs,fun a e=>?_⟩
   cases e;obtain⟨o,n,e,c,hd,_⟩:=pl
   exact⟨o,e,hd⟩
  ·refine⟨⟨o,I.kIn p o hk,hc⟩,fun a e=>?_⟩
   cases e
   exact⟨o,I.kIn _ o hk,hd⟩
  ·have z:∃o,s.heap.get? p=some o/\o.ExactDict:=by
    rcases hk with⟨kvs,hk⟩| ⟨kvs,hk⟩
    ·obtain⟨_,_,_,_,o,_,_,e,ex,_⟩:=I.hok p _ hk
     exact⟨o,e,ex⟩
    ·obtain⟨_,_,_,_,o,_,_,e,ex,_⟩:=I.hok p _ hk
     exact⟨o,e,ex⟩
   obtain⟨o,e,ex⟩:=z
   refine⟨⟨o,e,ex.1⟩,fun a e2=>?_⟩
   cases e2
   exact⟨o,e,ex.2.1⟩
  ·obtain⟨o,_,_,_,e,ex,_⟩:=I.hok p _ hk
   refine⟨⟨o,e,ex.1⟩,fun a e2=>?_⟩
   cases e2
   exact⟨o,e,ex.2.1⟩
 |_=>exact False.elim ty
noncomputable def tBM(K:aO)(T:String)(r:V->List V->Hp->VK->Prop)(to:TE)(t:TA):TE:=fun σ H Q=>to σ H fun x H1=>tyV K T x H1/\t σ H1 fun xs H2=>r x xs H2 Q
variable {o e:Expr}{es:List Expr}{to:TE}{t:TA}{name:Str}{al ak:Pos}{T id:String}{r:V->List V->Hp->VK->Prop}
theorem aKU(pa:PlainAttrs T)(slot:Slot T name id)(hty:typeOf (.builtin id)=pure (.type "method_descriptor"))(hm:MtR X id r)(ho:PE X o to)(ha:PA X (e::es) t)
 (dv:attributeBase o name X.env (eval o X.env)=eval o X.env:=by rfl)
 (iu:((backTo ak (starEach (e::es) X.env)).all (fun x=> !x.1)&&(backToKw ak (keywordEach [] X.env)).all (fun x=>x.1.isSome)
  &&decide ((e::es).length+([]:List Keyword).length+(if([]:List Keyword).isEmpty then 0 else 1)<30))=true:=by rfl)
 (dn:(al.endLine==ak.line)=true:=by rfl)(hs:starEach (e::es) X.env=(false,eval e X.env)::starEach es X.env:=by rfl)(bx:(backTo ak (starEach es X.env)).any (·.1)=false:=by rfl):
 PE X (.Call (.Attribute o name al) (e::es) [] ak) (tBM X.K T r to t):=by
 intro aa s σ H Q I h
 refine wpAny_Call_method_late dv iu dn rfl (thn (ho aa s σ H _ I h) fun v s1 zz=>?_)
 obtain⟨x,H1,I1,r1,ty,q1⟩:=zz;obtain⟨h1,h2⟩:=aM5 I1 r1 ty
 refine⟨T,id,pa,slot,hty,h1,h2,?_⟩
 have hA:=ha ak aa s1 σ H1 _ I1 q1;rw[hs]at hA|-
 refine Calls.callWith_builtin (by show(false||(backTo ak (starEach es X.env)).any (·.1))=false;rw[bx]<;>rfl) (Calls.evalArgs_plain ?_)
 exact thn hA fun us s2 ⟨vs,H2,I2,r2,q2⟩=>hm aa s2 σ H2 x vs v us Q I2 r1 r2 q2
end
def MtM(X:Cx)(id:String)(r:V->List V->Hp->VK->Prop):Prop:=
 ∀(aa:List (Addr×Obj))(s:Shared)(σ:St)(H:Hp)(x:V)(xs:List V)(v:Value)(us:List Value)(Q:VK),Inv X aa σ H s->RelV x v->Vals xs us->r x xs H Q->
  wpAny (model X.prog X.w) X.A (call (.builtin id) (v::us)) (EP X aa σ Q) X.xe s
theorem Vals.one:∀{x:V}{us:List Value},Vals [x] us->∃u,us=[u]/\RelV x u
 |_,_,.cons r .nil=>⟨_,rfl,r⟩
theorem Vals.two{x y:V}{us:List Value}(h:Vals [x,y] us):∃u v,us=[u,v]/\RelV x u/\RelV y v:=by
 cases h with
 |cons r h=>
  cases h with
  |cons q h=>
   cases h
   exact⟨_,_,rfl,r,q⟩
section
variable {X:Cx}{aa:List (Addr×Obj)}{σ:St}{H:Hp}{s:Shared}{l b:Addr}{xs ys zs:List V}
variable{its:List Value}{t':Nat}
theorem Inv.lset{its':List Value}{n:Nat}{f:Array Value->Array Value}(I:Inv X aa σ H s)(hH:H l=some (.lst xs))
 (e:s.heap.get? l=some {cls:=.type "list",data:=.seq its.toArray n})(hf:f its.toArray=its'.toArray)(hv:Vals ys its')(hz:ys.length<=sizeLine):
 Inv X aa σ (upd H l (.lst ys)) {s with heap:=s.heap.update l (Obj.mapSeq f),toks:=t'}:=by
 have q:=PySem.IsL.update e f;rw[hf]at q
 refine I.write (x:=l) (e:=l) (by rw[hH];exact trivial) (.inl rfl) (fun b' u hb hu=>(Heap.get?_update_other s.heap (Obj.mapSeq f) (Ne.symm hb)).trans hu) ⟨_,q⟩ ?_
 exact⟨hz,its',_,hv,q⟩
theorem Inv.lnew(I:Inv X aa σ H s)(hv:Vals ys its)(hz:ys.length<=sizeLine):
 Inv X aa σ (upd H s.heap.objs.size (.lst ys)) {s with heap:=s.heap.push {cls:=.type "list",data:=.seq its.toArray},toks:=t'}:=
 I.laid (fun _ _ q=>Heap.get?_push_of_some _ q) (bD _) ⟨hz,its,0,hv,Heap.get?_push_size _ rfl⟩
theorem Inv.fresh(I:Inv X aa σ H s):H s.heap.objs.size=none:=I.hok.fresh (bD _)
theorem Inv.lstM(I:Inv X aa σ H s)(hH:H l=some (.lst xs)):xs.length<=sizeLine/\∃(its:List Value)(n:Nat),Vals xs its/\xs.length=its.length/\s.heap.get? l=some {cls:=.type "list",data:=.seq its.toArray n}:=by
 obtain⟨z,its,n,r,e⟩:=I.hok l _ hH
 exact⟨z,its,n,r,r.length,e⟩
end
section
variable {X:Cx}
def rAppend:V->List V->Hp->VK->Prop:=fun x vs H Q=>∃l xs y,x=.ref l/\vs=[y]/\H l=some (.lst xs)/\xs.length<sizeLine/\Q .non (upd H l (.lst (xs++[y])))
theorem aAu:MtM X "list.append" rAppend:=by
 intro aa s σ H x vs v us Q I rx rv h;obtain⟨l,xs,y,rfl,rfl,hH,hz,q⟩:=h;cases rx;obtain⟨u,rfl,ru⟩:=rv.one;obtain⟨z,its,n,r,hl,e⟩:=I.lstM hH
 refine call_meets F.slot_list_append ⟨_,e,rfl⟩ F.entry_list_append (F.args_list_append_2 _ _) (PySem.list_append l its.toArray n u (by rw[bG];lia)) ⟨e,?_⟩
 refine⟨.non,_,I.lset (its':=its++[u]) hH e (by simp) (r.append (.cons ru .nil)) ?_,rfl,q⟩
 rw[bB,List.length_singleton]
 lia
end
section
variable {prog:Program}{w:World}{A:Around}{E:Value->Shared->Prop}{s:Shared}
end
section
variable {X:Cx}
end
end L2
namespace Att
open PySem PySem.W PySem.Calls PyProof.Rows
variable{P:Params}{h:Heap}
theorem vL:∀(ns:List Int)(vs:List Value),WellAll P h vs (ns.map WData.int)->IntsAre vs ns:=by
 intro ns;induction ns with
 |nil=>
  intro vs w;rw[bC]at w;cases w
  exact .nil
 |cons n ns ih=>
  intro vs w;rw[aM]at w;cases w with
  |cons a b=>
   cases a
   exact .cons _ _ (ih _ b)
theorem aFh{l:OpenLaw}{n:Nat}(hn:l.most=some n){args:List WData}{vals:List Value}
 (cn:l.row.toRowW.claim.pre args=true)(im:WellAll P h vals args):
 ∃a vs ns,vals=[Value.ref a]/\args=[WData.list (ns.map WData.int)]/\h.get? a=some {cls:=.type "list",data:=.seq vs.toArray}/\IntsAre vs ns/\ns.length<=n:=by
 have hsh:WShape.hasAll [] args [.list .int]=true:=(pre_splitW cn).1;have hc:l.pre.holds [] {args:=args}=true:=(pre_splitW cn).2;obtain⟨d,r,rfl,h1,h2⟩:=hasAllW_cons hsh;obtain rfl:=hasAllW_nil h2;obtain⟨xs,rfl,h3⟩:=hasW_list h1;obtain⟨ns,rfl⟩:=items_int h3;have ai:ns.length<=n:=by
  unfold OpenLaw.pre at hc;have h4:(WTm.not (.lt (.lit (.int (n:Int))) (.len (.arg 0)))).holds [] {args:=[.list (ns.map .int)]}=true:=by
   have h4:=(holds_andW hc).1;rw[hn]at h4
   exact h4
  have h5:=condW_of h4 (w_not (w_lt w_lit (w_len_list (w_arg rfl))));rw[aS]at h5
  refine aOv fun q=>?_
  have q':(n:Int)<((ns.length:Nat):Int):=by lia
  first
   | (rw[decide_eq_true q']at h5;exact absurd h5 (by decide))
   | (simp at h5;lia)
 cases im with
 |cons w1 w2=>
  cases w2;cases w1 with
  |list ho i'=>exact⟨_,_,ns,rfl,rfl,ho,vL ns _ i',ai⟩
theorem aE5(l:OpenLaw)(args:List WData):l.row.toRowW.claim.post args (.bool true) args=true:=
 postW_of (r:=l.row.toRowW) (X:=(true==true))
  (show WShape.has [] (.bool true) .bool=true by first|rfl|decide|simp[WShape.has,WShape.arms,WShape.armsAll])
  (show(WTm.eq .res (.lit (.bool true))).value [] {args:=args,res:=some (.bool true),after:=args}=some (.bool (true==true))from w_eq_bool (w_res rfl) w_lit) rfl
section
variable {prog:Program}{w:World}{A:Around}{E:Value->Shared->Prop}{s:Shared}{K:Frag}
end
end Att
namespace L2
open PySem PySem.Spec PyProof.Rows
theorem aAl:∀{vs:List Value}{ns:List Int},IntsAre vs ns->Vals (ns.map V.int) vs
 |_,_,.nil=>.nil
 |_,_,.cons n t h=>.cons ⟨t,rfl⟩ (aAl h)
def Only(H:Hp):Prop:=∀b,H b=none\/∃o xs,H b=some (.frz o (.lst xs))
theorem aHh{P:Program}{w:World}{K:aO}{mg mb:Str->Option Value}{CX:CXT}{k:Nat}{fa a:Addr}{fd:FuncData}{x:Str}{sp:Sp}{aj:Shared}{vs:List Value}{ns:List Int}
 (KX:K.In aj.heap)(iq:aj.heap.Ns mainGlobals mg)(hb:aj.heap.Ns builtinsNs mb)(hbb:∀x:Str,x≠"__name__"->mb x=bootBuiltins x)(fu:aj.heap.NoLimit)(hg:aj.gens=#[])
 (ha:aj.heap.get? a=some {cls:=.type "list",data:=.seq vs.toArray})(hi:IntsAre vs ns)(hl:ns.length<=sizeLine)(hr:Room k callerA)
 (F:∀base:Heap,K.In base->base.Ns mainGlobals mg->nY P w K mg base CX k fa fd [x] sp)(ub:∀(s:Shared)(u:Value),BindsTo s fd ⟨[u],[]⟩ [(x,u)])
 (di:∀H:Hp,Only H->SqL K H a (ns.map V.int)->sp [.ref a] H (fun v _=>v=.bl true) fun _ _ _=>False)
 (hCX:∀H e s',CX [] H aj (fun _ _ _=>False) e s'->False):
 codeAny (model P w) callerA (.call (.ref fa) ⟨[.ref a],[]⟩) (fun r s'=>r=.ok (.ret (.bool true))/\OldK aj.heap s'.heap/\s'.os=aj.os/\AllBare s'.gens) aj:=by
 have rv:=aAl hi;have wu:=hi.length;have core:∀H:Hp,Only H->SqL K H a (ns.map V.int)->HOk P w H aj.heap->(∀b,H b≠none->b=a)->(H a≠none->K.lookup a=none)->
  codeAny (model P w) callerA (.call (.ref fa) ⟨[.ref a],[]⟩) (fun r s'=>r=.ok (.ret (.bool true))/\OldK aj.heap s'.heap/\s'.os=aj.os/\AllBare s'.gens) aj:=by
  intro H hO hS hok hA hK;have base_of:∀{b:Addr}{o:Obj},aj.heap.get? b=some o->H b=none->(aBf aj.heap H).get? b=some o:=fun e n=>aHK e n
  have qt:∀{b:Addr}{o:Obj}{es:Array DictEntry}{ep:Nat},aj.heap.get? b=some o->o.data=.dict es ep->H b=none:=fun {b o es ep} e d=>by
   cases q:H b with
   |none=>rfl
   |some u=>
    have e':b=a:=hA b (by rw[q];simp);subst e';rw[ha]at e;cases e;have d':Data.seq vs.toArray _=Data.dict es ep:=d;cases d'
  have uq:∀{b:Addr}{m:Str->Option Value},aj.heap.Ns b m->(aBf aj.heap H).Ns b m:=fun {b m} ⟨o,es,ep,e,d,r⟩=>⟨o,es,ep,base_of e (qt e d),d,r⟩
  have hKb:K.In (aBf aj.heap H):=fun b o e=>base_of (KX b o e) (by
   cases q:H b with
   |none=>rfl
   |some u=>
    have e':b=a:=hA b (by rw[q];simp);subst e';rw[hK (by rw[q];simp)]at e;cases e)
  have hM:Mod K mg (aBf aj.heap H):=⟨hKb,uq iq,⟨mb,uq hb,hbb⟩,let ⟨mc,h1,h2⟩:=fu;⟨mc,uq h1,h2⟩⟩;have e0:Env0 P w K mg (aBf aj.heap H) callerA [] aj H:=⟨rfl,hM,fun b o e=>aJS e,aPQ (aFQ _ _),trivial,fun b hb=>absurd (show b∈([]:List Addr)from hb) (by simp),hok,.of_eq hg⟩
  refine codeAny_mono ((F _ hKb (uq iq)).run callerA [] aj H ⟨[.ref a],[]⟩ [.ref a] [.ref a] _ _ hr e0 (ub aj (.ref a)) (.cons rfl .nil) (di H hO hS)) fun r s' h=>?_
  cases r with
  |error e=>exact(hCX H e s' h).elim
  |ok fl=>
   cases fl with
   |next=>exact False.elim h
   |brk=>exact False.elim h
   |cont=>exact False.elim h
   |ret u=>
    obtain⟨v,H',os,bare,un,xy,r',q⟩:=h;have q':v=.bl true:=q;subst q';obtain rfl:u=Value.bool true:=r'
    refine⟨rfl,OldK.of_keep fun b o e=>?_,os,bare⟩
    cases q:H b with
    |none=>exact un.keep b o e q (by intro z;exact absurd (show b∈([]:List Addr)from z) (by simp)) (by simp)
    |some u=>
     rcases hO b with z| ⟨ob,xs,z⟩
     ·rw[q]at z;cases z
     ·have z2:=un.frzs b ob _ z;obtain⟨e1,_⟩:=hok b _ z;obtain⟨e2,_⟩:=xy b _ z2;rw[e]at e1;cases e1
      exact e2
 cases hk:K.lookup a with
 |some o=>
  have e:=KX a o hk;rw[ha]at e;cases e
  refine core (fun _=>none) (fun _=>.inl rfl) (.inr ⟨_,vs.toArray,_,hk,rfl,rfl,rfl,by rw[bG,wu];exact hl,by simpa using rv⟩) (fun b u z=>by have z':(none:Option HO)=some u:=z;cases z') (fun b z=>absurd rfl z) fun z=>absurd rfl z
 |none=>
  refine core (fun b=>if b=a then some (.frz {cls:=.type "list",data:=.seq vs.toArray} (.lst (ns.map V.int)))else none) (fun b=>?_) (.inl (.inr ⟨{cls:=.type "list",data:=.seq vs.toArray},if_pos rfl⟩)) (fun b u z=>?_) (fun b z=>?_) fun _=>hk
  ·by_cases hb:b=a
   ·exact .inr ⟨_,_,if_pos hb⟩
   ·exact .inl (if_neg hb)
  ·by_cases hb:b=a
   ·have z':=(if_pos hb).symm.trans z;cases z';subst hb
    exact⟨ha,by rw[aS];exact hl,vs,_,rv,ha⟩
   ·have z':=(if_neg hb).symm.trans z;cases z'
  ·by_cases hb:b=a
   ·exact hb
   ·exact absurd (if_neg hb) z
noncomputable abbrev KOf{K:aO}{h:Heap}(_:K.In h):aO:=K
end L2
namespace L2
open PySem PySem.Spec PyProof.Rows
noncomputable abbrev CX0:CXT:=fun _ _ _ _ _ _=>False
structure Fun(K:aO)(x qual:Str)(st:Stmt)(f:Addr)(fd:FuncData):Prop where
 ex:∃(oc:Value)(od:Option Addr)(kV doc pm:Value)(an:Option Addr)(az ct:Value)(fg:Array (Option Value)),
  fd=cJ x qual (jU st) (jD st) (gJ st) .none kV doc pm an az ct/\K.lookup f=some ⟨oc,od,.func fd,fg⟩/\dM K az qual=true
 kp:cH K (.ref f)=true
section
variable {P:Program}{w:World}{K:aO}{mg:Str->Option Value}{base:Heap}
variable{x qual:Str}{st:Stmt}{f:Addr}{fd:FuncData}{ps:List Str}
theorem Fun.ok{N:List Str}{k:Nat}{sp:Sp}(F:Fun K x qual st f fd)(S:rC N ps (gJ st))(len:∀vs H Q E,sp vs H Q E->vs.length=ps.length)
 (du:∀(az:Value)(A:Around)(outer:List Env)(s:Shared)(H:Hp)(vs:List V)(Q:VK)(E:XK),Room k (A.deeper (envOfC qual (gJ st) s.heap.objs.size f az))->sp vs H Q E->
  ∃t,PSs (aBs CX0 P w K mg base N qual (gJ st) f az A outer s H E).nox (jD st) t/\t {nx:=fun _ H'=>Q .non H',rt:=Q} (start N vs) H):nY P w K mg base CX0 (k+1) f fd ps sp:=by
 obtain⟨oc,od,kV,doc,pm,an,az,ct,fg,rfl,lk,iy⟩:=F.ex
 refine aKW lk iy S len fun A outer s H vs Q E hr di=>?_
 obtain⟨t,h,q⟩:=du az A outer s H vs Q E hr di
 exact⟨t,h.nox,q⟩
theorem Fun.binds(F:Fun K x qual st f fd)
 (h:∀(kV doc pm:Value)(an:Option Addr)(az ct:Value)(us:List Value),us.length=ps.length->bindArgs (cJ x qual (jU st) (jD st) (gJ st) .none kV doc pm an az ct) ⟨us,[]⟩=pure (ps.zip us)):Binds K fd ps []:=by
 obtain⟨oc,od,kV,doc,pm,an,az,ct,fg,rfl,lk,iy⟩:=F.ex
 exact .all (h kV doc pm an az ct)
theorem aDA{oc:Value}{od an:Option Addr}{fg:Array (Option Value)}{kV doc pm az ct:Value}(l:K.lookup f=some ⟨oc,od,.func (cJ x qual (jU st) (jD st) (gJ st) .none kV doc pm an az ct),fg⟩)
 (c:dM K az qual=true)(k:cH K (.ref f)=true):Fun K x qual st f (cJ x qual (jU st) (jD st) (gJ st) .none kV doc pm an az ct):=⟨⟨oc,od,kV,doc,pm,an,az,ct,fg,rfl,l,c⟩,k⟩
end
section
variable {X:Cx}
end
variable{H H':Hp}
def Same(H H':Hp):Prop:=∀b o,H b=some o->H' b=some o
theorem Same.refl(H:Hp):Same H H:=fun _ _ h=>h
theorem Same.trans{H1 H2:Hp}(a:Same H H1)(b:Same H1 H2):Same H H2:=fun c o h=>b c o (a c o h)
theorem Same.free(e:Same H H'){l:Addr}(h:H' l=aP3):H l=aP3:=by
 cases q:H l with
 |none=>rfl
 |some o=>
  rw[e l o q]at h;cases h
theorem Same.seq{K:aO}{a:Addr}{xs:List V}(e:Same H H')(h:SqL K H a xs):SqL K H' a xs:=by
 rcases h with(h| ⟨o,h⟩)|h
 ·exact .inl (.inl (e _ _ h))
 ·exact .inl (.inr ⟨o,e _ _ h⟩)
 ·exact .inr h
end L2
namespace PySem
section
variable {M:Model}{A:Around}{E:Value->Shared->Prop}
variable {nm q:Str}{C N:Addr}{bs bm:List Value}{hdct:Bool}{sn:List Str}{sub:List Value}{ab:Bool}{col:Option Bool}{dd:Option Addr}{k0 k1 k2 k3 k5:Option Value}{newId:String}
variable {nm' q':Str}{D N':Addr}{bs' bm':List Value}{hdct':Bool}{sn':List Str}{sub':List Value}{ab':Bool}{col':Option Bool}{jk:Option Addr}{k0' k1' k2' k3' k5':Option Value}{wj:String}
end
end PySem
namespace TL
open PySem L2
variable{H:Hp}{Z:Addr->Prop}{ρ:Rho}{a:Addr}{o:HO}
inductive T where
 |non|bl (b:Bool)|int (i:Int)|str (x:Str)|lst (xs:List T)|tup (xs:List T)|cell (c:Nat)|exc (c:String)
noncomputable abbrev TSt:=List (Option T)
inductive Kd where
 |l|o (cls:String) (ns:List Str)|dk (ks:List Key)|dt (ks:List (List Key))|dz (ks:List (List Key))
noncomputable abbrev Cl:=Kd×List T
abbrev Sto:=List Cl
noncomputable abbrev Rho:=List Addr
open Classical in
noncomputable def mask(H:Hp)(Z:Addr->Prop)(ρ:Rho):Hp:=fun a=>if Z a\/a∈ρ then none else H a
theorem mC:mask H Z ρ a=some o↔¬Z a/\a∉ρ/\H a=some o:=by
 unfold mask;constructor
 ·intro h;split at h
  ·cases h
  ·rename_i q
   exact⟨fun z=>q (.inl z),fun z=>q (.inr z),h⟩
 ·rintro⟨h1,h2,h3⟩;rw[if_neg (by
   rintro(z|z)
   ·exact h1 z
   ·exact h2 z)]
  exact h3
theorem nJ(h1:¬Z a)(h2:a∉ρ)(h3:H a=some o):mask H Z ρ a=some o:=mC.mpr ⟨h1,h2,h3⟩
theorem o3:Same (mask H Z ρ) H:=fun a o h=>(mC.mp h).2.2
noncomputable def exO(a C:Addr):HO:=.ext fun h=>∃ob,h.get? a=some ob/\ob.cls=.ref C
mutual
def RT(K:aO)(M:Hp)(ρ:Rho):T->V->Prop
 | .non,v=>v=.non
 | .bl b,v=>v=.bl b
 | .int i,v=>v=.int i
 | .str x,v=>v=.str x
 | .lst ts,v=>∃a vs,v=.ref a/\SqL K M a vs/\RTs K M ρ ts vs
 | .tup ts,v=>∃a vs,v=.ref a/\M a=some (.tup vs)/\RTs K M ρ ts vs
 | .cell c,v=>∃a,v=.ref a/\ρ[c]?=some a
 | .exc c,v=>∃a C,v=.ref a/\bV K mainGlobals (Str.ofString c)=some (some (.ref C))/\M a=some (exO a C)
def RTs(K:aO)(M:Hp)(ρ:Rho):List T->List V->Prop
 | [],vs=>vs=[]
 |t::ts,vs=>∃v r,vs=v::r/\RT K M ρ t v/\RTs K M ρ ts r
end
theorem Same.tseq{K:aO}{H H':Hp}{a:Addr}{xs:List V}(e:Same H H')(h:SqT K H a xs):SqT K H' a xs:=by
 rcases h with(h| ⟨o,h⟩)|h
 ·exact .inl (.inl (e _ _ h))
 ·exact .inl (.inr ⟨o,e _ _ h⟩)
 ·exact .inr h
theorem aJN{ρ e:Rho}{c:Nat}{a:Addr}(h:ρ[c]?=some a):(ρ++e)[c]?=some a:=by
 rw[aT (aR.mp h).1];exact h
section
variable {K:aO}{M M':Hp}{ρ ae:Rho}
mutual
theorem RT.mono(s:Same M M')(p:∀(c:Nat)(a:Addr),ρ[c]?=some a->ae[c]?=some a):∀{t:T}{v:V},RT K M ρ t v->RT K M' ae t v
 | .non,_,h=>by unfold RT at*;exact h
 | .bl _,_,h=>by unfold RT at*;exact h
 | .int _,_,h=>by unfold RT at*;exact h
 | .str _,_,h=>by unfold RT at*;exact h
 | .lst ts,v,h=>by
   unfold RT at*;obtain⟨a,vs,e,q,r⟩:=h
   exact⟨a,vs,e,s.seq q,RTs.mono s p r⟩
 | .tup ts,v,h=>by
   unfold RT at*;obtain⟨a,vs,e,q,r⟩:=h
   exact⟨a,vs,e,s _ _ q,RTs.mono s p r⟩
 | .cell c,v,h=>by
   unfold RT at*;obtain⟨a,e,q⟩:=h
   exact⟨a,e,p c a q⟩
 | .exc c,v,h=>by
   unfold RT at*;obtain⟨a,C,e,q,r⟩:=h
   exact⟨a,C,e,q,s _ _ r⟩
theorem RTs.mono(s:Same M M')(p:∀(c:Nat)(a:Addr),ρ[c]?=some a->ae[c]?=some a):∀{ts:List T}{vs:List V},RTs K M ρ ts vs->RTs K M' ae ts vs
 | [],_,h=>by unfold RTs at*;exact h
 |t::ts,vs,h=>by
  unfold RTs at*;obtain⟨v,r,e,h1,h2⟩:=h
  exact⟨v,r,e,RT.mono s p h1,RTs.mono s p h2⟩
end
variable{t:T}{ts:List T}{v:V}{vs:List V}
theorem RTs.nil:RTs K M ρ [] []:=by unfold RTs;rfl
theorem RTs.cons(h:RT K M ρ t v)(hs:RTs K M ρ ts vs):RTs K M ρ (t::ts) (v::vs):=by
 unfold RTs;exact⟨v,vs,rfl,h,hs⟩
theorem RTs.nil_inv(h:RTs K M ρ [] vs):vs=[]:=by unfold RTs at h;exact h
theorem RTs.cons_inv(h:RTs K M ρ (t::ts) vs):∃v r,vs=v::r/\RT K M ρ t v/\RTs K M ρ ts r:=by unfold RTs at h;exact h
theorem RTs.length:∀{ts:List T}{vs:List V},RTs K M ρ ts vs->vs.length=ts.length
 | [],_,h=>by rw[h.nil_inv];rfl
 |t::ts,vs,h=>by
  obtain⟨v,r,rfl,_,h2⟩:=h.cons_inv;simp[h2.length]
theorem RTs.get:∀{ts:List T}{vs:List V}{i:Nat}{t:T},RTs K M ρ ts vs->ts[i]?=some t->∃v,vs[i]?=some v/\RT K M ρ t v
 | [],_,_,_,_,e=>by simp at e
 |x::ts,vs,0,t,h,e=>by
  obtain⟨v,r,rfl,h1,h2⟩:=h.cons_inv;simp at e;subst e
  exact⟨v,rfl,h1⟩
 |x::ts,vs,i+1,t,h,e=>by
  obtain⟨v,r,rfl,h1,h2⟩:=h.cons_inv;obtain⟨u,q1,q2⟩:=RTs.get (i:=i) h2 (by simpa using e)
  exact⟨u,by simpa using q1,q2⟩
theorem RTs.append:∀{ts us:List T}{vs ws:List V},RTs K M ρ ts vs->RTs K M ρ us ws->RTs K M ρ (ts++us) (vs++ws)
 | [],_,_,_,h,h'=>by rw[h.nil_inv];exact h'
 |t::ts,_,_,_,h,h'=>by
  obtain⟨v,r,rfl,h1,h2⟩:=h.cons_inv
  exact .cons h1 (h2.append h')
theorem RTs.take:∀(n:Nat){ts:List T}{vs:List V},RTs K M ρ ts vs->RTs K M ρ (ts.take n) (vs.take n)
 |0,_,_,_=>by simpa using RTs.nil
 |n+1,[],_,h=>by rw[h.nil_inv];simpa using RTs.nil
 |n+1,t::ts,_,h=>by
  obtain⟨v,r,rfl,h1,h2⟩:=h.cons_inv
  exact .cons h1 (h2.take n)
theorem RTs.drop:∀(n:Nat){ts:List T}{vs:List V},RTs K M ρ ts vs->RTs K M ρ (ts.drop n) (vs.drop n)
 |0,_,_,h=>h
 |n+1,[],_,h=>by rw[h.nil_inv];simpa using RTs.nil
 |n+1,t::ts,_,h=>by
  obtain⟨v,r,rfl,h1,h2⟩:=h.cons_inv
  exact h2.drop n
theorem RTs.set(h0:RT K M ρ t v):∀(n:Nat){ts:List T}{vs:List V},RTs K M ρ ts vs->RTs K M ρ (ts.set n t) (vs.set n v)
 |_,[],_,h=>by rw[h.nil_inv];simpa using RTs.nil
 |0,x::ts,_,h=>by
  obtain⟨u,r,rfl,h1,h2⟩:=h.cons_inv
  exact .cons h0 h2
 |n+1,x::ts,_,h=>by
  obtain⟨u,r,rfl,h1,h2⟩:=h.cons_inv
  exact .cons h1 (h2.set h0 n)
end
variable{H H':Hp}{a:Addr}{K:aO}{ρ ae:Rho}{Z:Addr->Prop}
def Hob(K:aO):Kd->List V->HO->Prop
 | .l,vs,o=>o=.lst vs
 | .o cls ns,vs,o=>ns.length=vs.length/\∃C dx,bV K mainGlobals (Str.ofString cls)=some (some (.ref C))/\o=.ins C dx (ns.zip vs)
 | .dk ks,vs,o=>ks.length=vs.length/\o=.dK (ks.zip vs)
 | .dt ks,vs,o=>ks.length=vs.length/\o=.dT (ks.zip vs)
 | .dz ks,vs,o=>ks.length=vs.length/\∃ob,o=.frz ob (.dT (ks.zip vs))
def NT:Option HO->Prop
 |some (.tup _)=>False
 |none=>False
 |_=>True
theorem NT.same(s:Same H H')(h:NT (H a)):NT (H' a):=by
 cases e:H a with
 |none=>rw[e]at h;exact False.elim h
 |some o=>rw[s a o e,<-e];exact h
theorem NT.some(h:NT (H a)):H a≠none:=fun z=>by rw[z]at h;exact h
theorem Hob.nt{k:Kd}{vs:List V}{o:HO}(h:Hob K k vs o):NT (some o):=by
 cases k with
 |l=>unfold Hob at h;subst h;trivial
 |o c ns=>unfold Hob at h;obtain⟨_,C,dx,_,rfl⟩:=h;trivial
 |dk ks=>unfold Hob at h;obtain⟨_,rfl⟩:=h;trivial
 |dt ks=>unfold Hob at h;obtain⟨_,rfl⟩:=h;trivial
 |dz ks=>unfold Hob at h;obtain⟨_,ob,rfl⟩:=h;trivial
def nfz:Option HO->Prop
 |some (.frz _ _)=>False
 |_=>True
structure Rel(K:aO)(H₀:Hp)(Z:Addr->Prop)(ρ:Rho)(τ:TSt)(C:Sto)(σ:St)(H:Hp):Prop where
 old:Same H₀ H
 frs:∀a∈ρ,H₀ a=none/\¬Z a
 nd:ρ.Nodup
 zd:∀a,Z a->NT (H a)
 loc:∀(i:Nat)(t:T),τ[i]?=some (some t)->∃v,σ[i]?=some (some v)/\RT K (mask H Z ρ) ρ t v
 cel:∀(c:Nat)(a:Addr),ρ[c]?=some a->∃x vs o,C[c]?=some x/\H a=some o/\Hob K x.1 vs o/\RTs K (mask H Z ρ) ρ x.2 vs
 len:ρ.length=C.length
 lnt:τ.length=σ.length
structure Step(H H':Hp)(ρ ae:Rho):Prop where
 kept:∀(a:Addr)(o:HO),H a=some o->a∉ρ->a∉ae/\H' a=some o
 pre:∃e,ae=ρ++e
 fz:∀(a:Addr) ob u,H a=some (.frz ob u)->H' a=some (.frz ob u)
theorem Step.refl:Step H H ρ ρ:=⟨fun a o h n=>⟨n,h⟩,⟨[],by simp⟩,fun _ _ _ h=>h⟩
theorem Step.trans{H1 H2:Hp}{af ar:Rho}(a:Step H H1 ρ af)(b:Step H1 H2 af ar):Step H H2 ρ ar:=by
 obtain⟨e,he⟩:=a.pre;obtain⟨f,hf⟩:=b.pre
 exact⟨fun x o h n=>(b.kept x o (a.kept x o h n).2 (a.kept x o h n).1),⟨e++f,by rw[hf,he,cS]⟩,fun x ob u h=>b.fz x ob u (a.fz x ob u h)⟩
theorem Step.of{e:Rho}(s:Same H H')(h:∀a∈e,H a=none):Step H H' ρ (ρ++e):=
 ⟨fun a o q n=>⟨fun z=>(bL.mp z).elim n (fun z=>by rw[h a z]at q;cases q),s a o q⟩,⟨e,rfl⟩,fun a ob u h=>s a _ h⟩
theorem Step.of0(s:Same H H'):Step H H' ρ ρ:=⟨fun a o q n=>⟨n,s a o q⟩,⟨[],by simp⟩,fun a ob u h=>s a _ h⟩
theorem Step.idx(s:Step H H' ρ ae):∀(c:Nat)(a:Addr),ρ[c]?=some a->ae[c]?=some a:=fun c a h=>by
 obtain⟨e,he⟩:=s.pre;rw[he];exact aJN h
theorem Step.msk(s:Step H H' ρ ae)(Z:Addr->Prop):Same (mask H Z ρ) (mask H' Z ae):=fun a o h=>by
 obtain⟨h1,h2,h3⟩:=mC.mp h
 exact nJ h1 (s.kept a o h3 h2).1 (s.kept a o h3 h2).2
theorem RT.step{t:T}{v:V}(h:RT K (mask H Z ρ) ρ t v)(s:Step H H' ρ ae):RT K (mask H' Z ae) ae t v:=h.mono (s.msk Z) s.idx
theorem RTs.step{t:List T}{v:List V}(h:RTs K (mask H Z ρ) ρ t v)(s:Step H H' ρ ae):RTs K (mask H' Z ae) ae t v:=h.mono (s.msk Z) s.idx
abbrev SStep(Z:Addr->Prop)(H H':Hp)(ρ ae:Rho):Prop:=Step H H' ρ ae
theorem Step.ss(s:Step H H' ρ ae):Step H H' ρ ae:=s
section
variable {K:aO}{H₀ H H':Hp}{Z:Addr->Prop}{ρ ae:Rho}{τ:TSt}{C:Sto}{σ:St}
variable{p:Addr}{kd:Kd}{ob:HO}{c:Nat}
theorem Rel.alloc(R:Rel K H₀ Z ρ τ C σ H){o:HO}(hp:H p=none):Rel K H₀ Z ρ τ C σ (upd H p o)/\Step H (upd H p o) ρ ρ:=by
 have sm:Same H (upd H p o):=fun b u h=>by rw[fO (fun z=>by rw[z,hp]at h;cases h)];exact h
 have st:Step H (upd H p o) ρ ρ:=.of0 sm
 refine⟨⟨R.old.trans sm,R.frs,R.nd,fun a z=>(R.zd a z).same sm,fun i t e=>?_,fun c a e=>?_,R.len,R.lnt⟩,st⟩
 ·obtain⟨v,h1,h2⟩:=R.loc i t e
  exact⟨v,h1,h2.step st⟩
 ·obtain⟨x,vs,ob,h1,h2,h4,h3⟩:=R.cel c a e
  exact⟨x,vs,ob,h1,sm _ _ h2,h4,h3.step st⟩
theorem Rel.fresh_not(R:Rel K H₀ Z ρ τ C σ H)(hp:H p=none):¬Z p/\p∉ρ/\H₀ p=none:=by
 refine⟨fun z=>(R.zd p z).some hp,fun z=>?_,R.old.free hp⟩
 obtain⟨c,hc⟩:=bT.mp z;obtain⟨_,_,_,_,h,_⟩:=R.cel c p hc;rw[hp]at h;cases h
theorem Rel.alloc_lst(R:Rel K H₀ Z ρ τ C σ H){ts:List T}{vs:List V}(hp:H p=none)(h:RTs K (mask H Z ρ) ρ ts vs):
 RT K (mask (upd H p (.lst vs)) Z ρ) ρ (.lst ts) (.ref p):=by
 obtain⟨h1,h2,_⟩:=R.fresh_not hp;unfold RT
 exact⟨p,vs,rfl,.of (nJ h1 h2 i9),h.step (R.alloc hp).2⟩
theorem Rel.alloc_tup(R:Rel K H₀ Z ρ τ C σ H){ts:List T}{vs:List V}(hp:H p=none)(h:RTs K (mask H Z ρ) ρ ts vs):
 RT K (mask (upd H p (.tup vs)) Z ρ) ρ (.tup ts) (.ref p):=by
 obtain⟨h1,h2,_⟩:=R.fresh_not hp;unfold RT
 exact⟨p,vs,rfl,(nJ h1 h2 i9),h.step (R.alloc hp).2⟩
theorem Rel.alloc_cl(R:Rel K H₀ Z ρ τ C σ H){ts:List T}{vs:List V}(hp:H p=none)(si:Hob K kd vs ob)(h:RTs K (mask H Z ρ) ρ ts vs):
 Rel K H₀ Z (ρ++[p]) τ (C++[(kd,ts)]) σ (upd H p ob)/\Step H (upd H p ob) ρ (ρ++[p])/\RT K (mask (upd H p ob) Z (ρ++[p])) (ρ++[p]) (.cell C.length) (.ref p):=by
 obtain⟨n1,n2,n3⟩:=R.fresh_not hp;have sm:Same H (upd H p ob):=fun b u h=>by rw[fO (fun z=>by rw[z,hp]at h;cases h)];exact h
 have st:Step H (upd H p ob) ρ (ρ++[p]):=.of sm fun a ha=>by rw[bR.mp ha];exact hp
 refine⟨⟨R.old.trans sm,fun a ha=>?_,?_,fun a z=>(R.zd a z).same sm,fun i t e=>?_,fun c a e=>?_,by simp[R.len],R.lnt⟩,st,?_⟩
 ·rcases bL.mp ha with ha|ha
  ·exact R.frs a ha
  ·rw[bR.mp ha];exact⟨n3,n1⟩
 ·refine dO.mpr ⟨R.nd,by simp,fun a ha b hb=>?_⟩
  rw[bR.mp hb];rintro rfl
  exact n2 ha
 ·obtain⟨v,h1,h2⟩:=R.loc i t e
  exact⟨v,h1,h2.step st⟩
 ·by_cases hc:c<ρ.length
  ·rw[aT hc]at e;obtain⟨us,ws,o2,h1,h2,h4,h3⟩:=R.cel c a e
   exact⟨us,ws,o2,by rw[aT (by rw[<-R.len];exact hc)];exact h1,sm _ _ h2,h4,h3.step st⟩
  ·have oy:c=ρ.length:=by
    have:=(aR.mp e).1;simp at this;lia
   subst oy;rw[bI (bD _)]at e;simp at e;subst e
   exact⟨(kd,ts),vs,ob,by rw[R.len];simp,i9,si,h.step st⟩
 ·unfold RT
  exact⟨p,rfl,by rw[<-R.len];simp⟩
theorem Rel.alloc_cell(R:Rel K H₀ Z ρ τ C σ H){ts:List T}{vs:List V}(hp:H p=none)(h:RTs K (mask H Z ρ) ρ ts vs):
 Rel K H₀ Z (ρ++[p]) τ (C++[(.l,ts)]) σ (upd H p (.lst vs))/\Step H (upd H p (.lst vs)) ρ (ρ++[p])/\RT K (mask (upd H p (.lst vs)) Z (ρ++[p])) (ρ++[p]) (.cell C.length) (.ref p):=R.alloc_cl hp rfl h
theorem Rel.celL(R:Rel K H₀ Z ρ τ C σ H){a:Addr}{ts:List T}(hc:ρ[c]?=some a)(e:C[c]?=some (.l,ts)):∃vs,H a=some (.lst vs)/\RTs K (mask H Z ρ) ρ ts vs:=by
 obtain⟨x,vs,ob,h1,h2,h4,h3⟩:=R.cel c a hc;rw[e]at h1;cases h1;have h4:ob=.lst vs:=h4;subst h4
 exact⟨vs,h2,h3⟩
theorem Rel.put0(R:Rel K H₀ Z ρ τ C σ H){a:Addr}{ts:List T}{vs:List V}(hc:ρ[c]?=some a)(si:Hob K kd vs ob)(h:RTs K (mask H Z ρ) ρ ts vs):
 Rel K H₀ Z ρ τ (C.set c (kd,ts)) σ (upd H a ob)/\mask (upd H a ob) Z ρ=mask H Z ρ:=by
 have am:a∈ρ:=bF hc;have em:mask (upd H a ob) Z ρ=mask H Z ρ:=by
  funext b;unfold mask;split
  ·rfl
  ·rename_i q;rw[fO (by rintro rfl;exact q (.inr am))]
 refine⟨⟨fun b o q=>?_,R.frs,R.nd,fun b z=>?_,fun i t e=>?_,fun d b e=>?_,by simp[R.len],R.lnt⟩,em⟩
 ·rw[fO (by rintro rfl;rw[(R.frs b am).1]at q;cases q)]
  exact R.old b o q
 ·rw[fO (by rintro rfl;exact(R.frs b am).2 z)];exact R.zd b z
 ·rw[em];exact R.loc i t e
 ·rw[em];by_cases hd:d=c
  ·subst hd;rw[hc]at e;cases e;have hl:d<C.length:=by rw[<-R.len];exact(aR.mp hc).1
   exact⟨(kd,ts),vs,ob,by rw[bO hl],i9,si,h⟩
  ·obtain⟨us,ws,o2,h1,h2,h4,h3⟩:=R.cel d b e
   refine⟨us,ws,o2,by rw[aQ (Ne.symm hd)];exact h1,?_,h4,h3⟩
   rw[fO]
   ·exact h2
   ·rintro rfl;obtain⟨l1,e1⟩:=aR.mp e;obtain⟨l2,e2⟩:=aR.mp hc
    exact hd ((aOX R.nd).mp (e1.trans e2.symm))
theorem Rel.put(R:Rel K H₀ Z ρ τ C σ H){a:Addr}{ts:List T}{vs:List V}(hc:ρ[c]?=some a)(ux:nfz (H a))(si:Hob K kd vs ob)(h:RTs K (mask H Z ρ) ρ ts vs):
 Rel K H₀ Z ρ τ (C.set c (kd,ts)) σ (upd H a ob)/\SStep Z H (upd H a ob) ρ ρ:=
 have am:a∈ρ:=bF hc
 ⟨(R.put0 hc si h).1,⟨fun b o q n=>⟨n,by rw[fO (by rintro rfl;exact n am)];exact q⟩,⟨[],by simp⟩,fun b ob u h=>by rw[fO (by rintro rfl;rw[h]at ux;exact ux)];exact h⟩⟩
theorem Rel.write(R:Rel K H₀ Z ρ τ C σ H){a:Addr}{ts:List T}{vs:List V}(hc:ρ[c]?=some a)(ux:nfz (H a))(h:RTs K (mask H Z ρ) ρ ts vs):
 Rel K H₀ Z ρ τ (C.set c (.l,ts)) σ (upd H a (.lst vs))/\SStep Z H (upd H a (.lst vs)) ρ ρ:=R.put hc ux rfl h
theorem Rel.set(R:Rel K H₀ Z ρ τ C σ H){i:Nat}{t:T}{v:V}(h:RT K (mask H Z ρ) ρ t v):Rel K H₀ Z ρ (τ.set i (some t)) C (σ.set i (some v)) H:=by
 refine⟨R.old,R.frs,R.nd,R.zd,fun j u e=>?_,R.cel,R.len,by simp[R.lnt]⟩
 by_cases hj:j=i
 ·subst hj;have oh:j<τ.length:=by
   have:=(aR.mp e).1;simpa using this
  rw[bO oh]at e;cases e
  exact⟨v,by rw[bO (by rw[<-R.lnt];exact oh)],h⟩
 ·rw[aQ (Ne.symm hj)]at e;obtain⟨w,h1,h2⟩:=R.loc j u e
  exact⟨w,by rw[aQ (Ne.symm hj)];exact h1,h2⟩
theorem Rel.weak(R:Rel K H₀ Z ρ τ C σ H){ag:TSt}(hl:ag.length=τ.length)(h:∀(i:Nat) t,ag[i]?=some (some t)->τ[i]?=some (some t)):Rel K H₀ Z ρ ag C σ H:=
 ⟨R.old,R.frs,R.nd,R.zd,fun i t e=>R.loc i t (h i t e),R.cel,R.len,hl.trans R.lnt⟩
end
noncomputable def lim:Nat:=400000
abbrev FE:=TSt->Sto->Option (T×Sto)
abbrev FN:=TSt->Sto->Option (List T×Sto)
abbrev FB:=TSt->Sto->Option (Bool×Sto)
def trE(K:aO)(f:FE):TE:=fun σ H Q=>∃H₀ Z ρ τ C t C',Rel K H₀ Z ρ τ C σ H/\f τ C=some (t,C')/\
 ∀v H' ae,Rel K H₀ Z ae τ C' σ H'->RT K (mask H' Z ae) ae t v->Step H H' ρ ae->Q v H'
def trA(K:aO)(f:FN):TA:=fun σ H Q=>∃H₀ Z ρ τ C ts C',Rel K H₀ Z ρ τ C σ H/\f τ C=some (ts,C')/\
 ∀vs H' ae,Rel K H₀ Z ae τ C' σ H'->RTs K (mask H' Z ae) ae ts vs->Step H H' ρ ae->Q vs H'
def trN(K:aO)(f:FN):TE:=fun σ H Q=>∃H₀ Z ρ τ C ts C',Rel K H₀ Z ρ τ C σ H/\f τ C=some (ts,C')/\
 ∀p H' ae vs,Rel K H₀ Z ae τ C' σ H'->H' p=none->RTs K (mask H' Z ae) ae ts vs->Step H H' ρ ae->Q (.ref p) (upd H' p (.lst vs))
noncomputable def trT(K:aO)(f:FB):TT:=fun σ H Q=>∃H₀ Z ρ τ C b C',Rel K H₀ Z ρ τ C σ H/\f τ C=some (b,C')/\
 ∀H' ae,Rel K H₀ Z ae τ C' σ H'->Step H H' ρ ae->Q b H'
def trV(K:aO)(σ:St)(ts:List T)(vs:List V)(g:Sto->Option (T×Sto))(H:Hp)(Q:VK):Prop:=∃H₀ Z ρ τ C t C',Rel K H₀ Z ρ τ C σ H/\RTs K (mask H Z ρ) ρ ts vs/\g C=some (t,C')/\
 ∀v H' ae,Rel K H₀ Z ae τ C' σ H'->RT K (mask H' Z ae) ae t v->Step H H' ρ ae->Q v H'
def trW(K:aO)(σ:St)(ts:List T)(vs:List V)(g:Sto->Option (List T))(H:Hp)(Q:VK):Prop:=∃H₀ Z ρ τ C us,Rel K H₀ Z ρ τ C σ H/\RTs K (mask H Z ρ) ρ ts vs/\g C=some us/\
 ∀p H' ae ws,Rel K H₀ Z ae τ C σ H'->H' p=none->RTs K (mask H' Z ae) ae us ws->Step H H' ρ ae->Q (.ref p) (upd H' p (.lst ws))
noncomputable def iY(i:Nat):FE:=fun τ C=>match τ[i]?with
 |some (some t)=>some (t,C)
 |_=>none
noncomputable def fC(t:T):FE:=fun _ C=>some (t,C)
abbrev Y0:FE:=iY 0
abbrev Y1:FE:=iY 1
abbrev Y2:FE:=iY 2
abbrev Y3:FE:=iY 3
abbrev Y4:FE:=iY 4
abbrev Y5:FE:=iY 5
abbrev Y6:FE:=iY 6
abbrev Y7:FE:=iY 7
abbrev Y8:FE:=iY 8
abbrev Y9:FE:=iY 9
abbrev Y10:FE:=iY 10
abbrev Y11:FE:=iY 11
abbrev Y12:FE:=iY 12
abbrev Y13:FE:=iY 13
abbrev Y14:FE:=iY 14
abbrev fI(n:Int):FE:=fC (.int n)
noncomputable def jA(fa fb:FE)(g:T->T->Sto->Option (T×Sto)):FE:=fun τ C=>(fa τ C).bind fun p=>(fb τ p.2).bind fun q=>g p.1 q.1 q.2
noncomputable def fUn(fa:FE)(g:T->Sto->Option (T×Sto)):FE:=fun τ C=>(fa τ C).bind fun p=>g p.1 p.2
noncomputable def zA(fa fb:FE)(g:T->T->Sto->Option (List T)):FN:=fun τ C=>(fa τ C).bind fun p=>(fb τ p.2).bind fun q=>(g p.1 q.1 q.2).map fun us=>(us,q.2)
noncomputable def fG:FN:=fun _ C=>some ([],C)
noncomputable def e7(fa:FE)(fr:FN):FN:=fun τ C=>(fa τ C).bind fun p=>(fr τ p.2).map fun q=>(p.1::q.1,q.2)
noncomputable def oS(fa:FN)(g:List T->Sto->Option (T×Sto)):FE:=fun τ C=>(fa τ C).bind fun p=>g p.1 p.2
noncomputable def vA(fa:FN)(g:List T->Sto->Option (List T)):FN:=fun τ C=>(fa τ C).bind fun p=>(g p.1 p.2).map fun us=>(us,p.2)
noncomputable def fS(f:FN):FE:=fun τ C=>(f τ C).map fun p=>(.lst p.1,p.2)
noncomputable def i0(f:FN):FE:=fun τ C=>(f τ C).map fun p=>(.cell p.2.length,p.2++[(.l,p.1)])
section
variable {K:aO}{σ:St}{H:Hp}{Q:VK}
variable{fa fb:FE}{g:Int->Int->V}{f:Int->Int->T}{C:Sto}{M H₀:Hp}{τ:TSt}{x y:V}
theorem aKS{i:Nat}(h:trE K (iY i) σ H Q):tVar i σ H Q:=by
 obtain⟨H₀,Z,ρ,τ,C,t,C',R,e,k⟩:=h;unfold iY at e;split at e
 ·rename_i u hu;cases e;obtain⟨v,h1,h2⟩:=R.loc i t hu
  exact⟨v,h1,k v H ρ R h2 .refl⟩
 ·cases e
theorem i_C{t:T}{v:V}(ht:∀M ρ,RT K M ρ t v)(h:trE K (fC t) σ H Q):tC v σ H Q:=by
 obtain⟨H₀,Z,ρ,τ,C,t,C',R,e,k⟩:=h;cases e
 exact k v H ρ R (ht _ _) .refl
theorem aEK{g:T->T->Sto->Option (T×Sto)}(h:trE K (jA fa fb g) σ H Q):
 trE K fa σ H fun x H1=>trE K fb σ H1 fun y H2=>∃t1 t2,trV K σ [t1,t2] [x,y] (g t1 t2) H2 Q:=by
 obtain⟨H₀,Z,ρ,τ,C,t,C',R,e,k⟩:=h;unfold jA at e;obtain⟨⟨t1,C1⟩,e1,e⟩:=aK.mp e;obtain⟨⟨t2,C2⟩,e2,e⟩:=aK.mp e
 refine⟨H₀,Z,ρ,τ,C,t1,C1,R,e1,fun x H1 af R1 h1 s1=>?_⟩
 refine⟨H₀,Z,af,τ,C1,t2,C2,R1,e2,fun y H2 ar R2 h2 s2=>?_⟩
 exact⟨t1,t2,H₀,Z,ar,τ,C2,t,C',R2,.cons (h1.step s2) (.cons h2 .nil),e,fun v H3 bb R3 h3 s3=>k v H3 bb R3 h3 ((s1.trans s2).trans s3)⟩
theorem aLG{g:T->Sto->Option (T×Sto)}(h:trE K (fUn fa g) σ H Q):
 trE K fa σ H fun x H1=>∃t1,trV K σ [t1] [x] (g t1) H1 Q:=by
 obtain⟨H₀,Z,ρ,τ,C,t,C',R,e,k⟩:=h;unfold fUn at e;obtain⟨⟨t1,C1⟩,e1,e⟩:=aK.mp e
 refine⟨H₀,Z,ρ,τ,C,t1,C1,R,e1,fun x H1 af R1 h1 s1=>?_⟩
 exact⟨t1,H₀,Z,af,τ,C1,t,C',R1,.cons h1 .nil,e,fun v H3 bb R3 h3 s3=>k v H3 bb R3 h3 (s1.trans s3)⟩
theorem aM3{g:T->T->Sto->Option (List T)}(h:trN K (zA fa fb g) σ H Q):
 trE K fa σ H fun x H1=>trE K fb σ H1 fun y H2=>∃t1 t2,trW K σ [t1,t2] [x,y] (g t1 t2) H2 Q:=by
 obtain⟨H₀,Z,ρ,τ,C,ts,C',R,e,k⟩:=h;unfold zA at e;obtain⟨⟨t1,C1⟩,e1,e⟩:=aK.mp e;obtain⟨⟨t2,C2⟩,e2,e⟩:=aK.mp e;obtain⟨us,e3,e⟩:=aL.mp e;cases e
 refine⟨H₀,Z,ρ,τ,C,t1,C1,R,e1,fun x H1 af R1 h1 s1=>?_⟩
 refine⟨H₀,Z,af,τ,C1,t2,_,R1,e2,fun y H2 ar R2 h2 s2=>?_⟩
 exact⟨t1,t2,H₀,Z,ar,τ,_,_,R2,.cons (h1.step s2) (.cons h2 .nil),e3,fun p H3 bb ws R3 n3 h3 s3=>k p H3 bb ws R3 n3 h3 ((s1.trans s2).trans s3)⟩
theorem aLc{Q:List V->Hp->Prop}(h:trA K fG σ H Q):aJ8 σ H Q:=by
 obtain⟨H₀,Z,ρ,τ,C,ts,C',R,e,k⟩:=h;cases e
 exact k [] H ρ R .nil .refl
theorem aMe{fr:FN}{Q:List V->Hp->Prop}(h:trA K (e7 fa fr) σ H Q):aIj (trE K fa) (trA K fr) σ H Q:=by
 obtain⟨H₀,Z,ρ,τ,C,ts,C',R,e,k⟩:=h;unfold e7 at e;obtain⟨⟨t1,C1⟩,e1,e⟩:=aK.mp e;obtain⟨⟨t2,C2⟩,e2,e⟩:=aL.mp e;cases e
 refine⟨H₀,Z,ρ,τ,C,t1,C1,R,e1,fun x H1 af R1 h1 s1=>?_⟩
 exact⟨H₀,Z,af,τ,C1,t2,_,R1,e2,fun vs H2 ar R2 h2 s2=>k (x::vs) H2 ar R2 (.cons (h1.step s2) h2) (s1.trans s2)⟩
theorem aCi{fa:FN}{g:List T->Sto->Option (T×Sto)}(h:trE K (oS fa g) σ H Q):
 trA K fa σ H fun vs H1=>∃ts,trV K σ ts vs (g ts) H1 Q:=by
 obtain⟨H₀,Z,ρ,τ,C,t,C',R,e,k⟩:=h;unfold oS at e;obtain⟨⟨ts,C1⟩,e1,e⟩:=aK.mp e
 refine⟨H₀,Z,ρ,τ,C,ts,C1,R,e1,fun x H1 af R1 h1 s1=>?_⟩
 exact⟨ts,H₀,Z,af,τ,C1,t,C',R1,h1,e,fun v H3 bb R3 h3 s3=>k v H3 bb R3 h3 (s1.trans s3)⟩
theorem aGG{fa:FN}{g:List T->Sto->Option (List T)}(h:trN K (vA fa g) σ H Q):
 trA K fa σ H fun vs H1=>∃ts,trW K σ ts vs (g ts) H1 Q:=by
 obtain⟨H₀,Z,ρ,τ,C,ts,C',R,e,k⟩:=h;unfold vA at e;obtain⟨⟨us,C1⟩,e1,e⟩:=aK.mp e;obtain⟨ws,e2,e⟩:=aL.mp e;cases e
 refine⟨H₀,Z,ρ,τ,C,us,_,R,e1,fun x H1 af R1 h1 s1=>?_⟩
 exact⟨us,H₀,Z,af,τ,_,_,R1,h1,e2,fun p H3 bb ws R3 n3 h3 s3=>k p H3 bb ws R3 n3 h3 (s1.trans s3)⟩
theorem aHI{f:FN}(h:trE K (fS f) σ H Q):trN K f σ H Q:=by
 obtain⟨H₀,Z,ρ,τ,C,t,C',R,e,k⟩:=h;unfold fS at e;obtain⟨⟨us,C1⟩,e1,e⟩:=aL.mp e;cases e
 exact⟨H₀,Z,ρ,τ,C,us,_,R,e1,fun p H1 af vs R1 n1 h1 s1=>k _ _ af (R1.alloc n1).1 (R1.alloc_lst n1 h1) (s1.trans (R1.alloc n1).2)⟩
theorem aGE{f:FN}(h:trE K (i0 f) σ H Q):trN K f σ H Q:=by
 obtain⟨H₀,Z,ρ,τ,C,t,C',R,e,k⟩:=h;unfold i0 at e;obtain⟨⟨us,C1⟩,e1,e⟩:=aL.mp e;cases e
 refine⟨H₀,Z,ρ,τ,C,us,_,R,e1,fun p H1 af vs R1 n1 h1 s1=>?_⟩
 obtain⟨q1,q2,q3⟩:=R1.alloc_cell n1 h1
 exact k _ _ _ q1 q3 (s1.trans q2)
noncomputable def lc(C:Sto)(c:Nat):Option (List T):=(C[c]?).bind fun x=>match x.1 with
 | .l=>some x.2
 |_=>none
theorem f9{c:Nat}{ts:List T}:lc C c=some ts↔C[c]?=some (.l,ts):=by
 unfold lc;constructor
 ·intro h;obtain⟨⟨k,us⟩,e,h⟩:=aK.mp h;cases k<;>cases h
  exact e
 ·intro h;rw[h];rfl
def liT(C:Sto):T->Option (List T)
 | .lst ts=>some ts
 | .cell c=>lc C c
 |_=>none
def sqT(C:Sto):T->Option (List T)
 | .lst ts=>some ts
 | .cell c=>lc C c
 | .tup ts=>some ts
 |_=>none
theorem SqL.msk{Z:Addr->Prop}{ρ:Rho}{a:Addr}{vs:List V}(h:SqL K (mask M Z ρ) a vs):SqL K M a vs:=o3.seq h
theorem SqT.msk{Z:Addr->Prop}{ρ:Rho}{a:Addr}{vs:List V}(h:SqT K (mask M Z ρ) a vs):SqT K M a vs:=Same.tseq o3 h
theorem Rel.li{Z:Addr->Prop}{ρ:Rho}(R:Rel K H₀ Z ρ τ C σ H){t:T}{v:V}{ts:List T}(h:RT K (mask H Z ρ) ρ t v)(e:liT C t=some ts):
 ∃a vs,v=.ref a/\SqL K H a vs/\RTs K (mask H Z ρ) ρ ts vs:=by
 cases t with
 |lst us=>
  cases e;unfold RT at h;obtain⟨a,vs,e,q,r⟩:=h
  exact⟨a,vs,e,SqL.msk q,r⟩
 |cell c=>
  unfold RT at h;obtain⟨a,e1,q⟩:=h;obtain⟨ws,h2,h3⟩:=R.celL q (f9.mp e)
  exact⟨a,ws,e1,.of h2,h3⟩
 |_=>cases e
theorem Rel.sq{Z:Addr->Prop}{ρ:Rho}(R:Rel K H₀ Z ρ τ C σ H){t:T}{v:V}{ts:List T}(h:RT K (mask H Z ρ) ρ t v)(e:sqT C t=some ts):
 ∃a vs,v=.ref a/\(SqL K H a vs\/SqT K H a vs)/\RTs K (mask H Z ρ) ρ ts vs:=by
 cases t with
 |lst us=>
  obtain⟨a,vs,h1,h2,h3⟩:=R.li h (show liT C (.lst us)=some ts from e)
  exact⟨a,vs,h1,.inl h2,h3⟩
 |cell c=>
  obtain⟨a,vs,h1,h2,h3⟩:=R.li h (show liT C (.cell c)=some ts from e)
  exact⟨a,vs,h1,.inl h2,h3⟩
 |tup us=>
  cases e;unfold RT at h;obtain⟨a,vs,e,q,r⟩:=h
  exact⟨a,vs,e,.inr (SqT.msk (.of q)),r⟩
 |_=>cases e
theorem RT.int_inv{ρ:Rho}{i:Int}{v:V}(h:RT K M ρ (.int i) v):v=.int i:=by unfold RT at h;exact h
theorem RT.bl_inv{ρ:Rho}{b:Bool}{v:V}(h:RT K M ρ (.bl b) v):v=.bl b:=by unfold RT at h;exact h
theorem RT.non_inv{ρ:Rho}{v:V}(h:RT K M ρ .non v):v=.non:=by unfold RT at h;exact h
theorem RT.int{M:Hp}{ρ:Rho}{i:Int}:RT K M ρ (.int i) (.int i):=by unfold RT;rfl
theorem RT.bl{M:Hp}{ρ:Rho}{i:Bool}:RT K M ρ (.bl i) (.bl i):=by unfold RT;rfl
theorem RT.non{M:Hp}{ρ:Rho}:RT K M ρ .non .non:=by unfold RT;rfl
noncomputable def gI(f:Int->Int->T):T->T->Sto->Option (T×Sto)
 | .int i,.int j,C=>some (f i j,C)
 |_,_,_=>none
noncomputable def gIc(c:Int->Int->Bool)(f:Int->Int->T):T->T->Sto->Option (T×Sto)
 | .int i,.int j,C=>if c i j=true then some (f i j,C)else none
 |_,_,_=>none
theorem o_I(ym:∀i j M ρ,RT K M ρ (f i j) (g i j))(h:∃t1 t2,trV K σ [t1,t2] [x,y] (gI f t1 t2) H Q):
 ∃i j,x=.int i/\y=.int j/\Q (g i j) H:=by
 obtain⟨t1,t2,H₀,Z,ρ,τ,C,t,C',R,r,e,k⟩:=h;obtain⟨_,_,z,r1,r⟩:=r.cons_inv;cases z;obtain⟨_,_,z,r2,r⟩:=r.cons_inv;cases z;unfold gI at e;split at e
 ·cases e
  exact⟨_,_,r1.int_inv,r2.int_inv,k _ H ρ R (ym _ _ _ _) .refl⟩
 ·cases e
theorem aG8{c:Int->Int->Bool}(ym:∀i j M ρ,RT K M ρ (f i j) (g i j))(h:∃t1 t2,trV K σ [t1,t2] [x,y] (gIc c f t1 t2) H Q):
 ∃i j,x=.int i/\y=.int j/\c i j=true/\Q (g i j) H:=by
 obtain⟨t1,t2,H₀,Z,ρ,τ,C,t,C',R,r,e,k⟩:=h;obtain⟨_,_,z,r1,r⟩:=r.cons_inv;cases z;obtain⟨_,_,z,r2,r⟩:=r.cons_inv;cases z;unfold gIc at e;split at e
 ·split at e
  ·rename_i hc;cases e
   exact⟨_,_,r1.int_inv,r2.int_inv,hc,k _ H ρ R (ym _ _ _ _) .refl⟩
  ·cases e
 ·cases e
end
inductive Fl where
 |nx|bk|ct|rt (t:T)|ex (c:String)
abbrev FS:=TSt->Sto->Option (Fl×TSt×Sto)
abbrev XW:=String->St->Hp->Prop
def EndF(K:aO)(W:XW)(D:Ends)(Z:Addr->Prop)(ρ:Rho)(fl:Fl)(σ:St)(H:Hp):Prop:=match fl with
 | .nx=>D.nx σ H
 | .bk=>D.bk σ H
 | .ct=>D.ct σ H
 | .rt t=>∀v,RT K (mask H Z ρ) ρ t v->D.rt v H
 | .ex c=>W c σ H
noncomputable def trS(K:aO)(W:XW)(F:FS):TS:=fun D σ H=>∃H₀ Z ρ τ C fl ag C',Rel K H₀ Z ρ τ C σ H/\F τ C=some (fl,ag,C')/\
 ∀ah H' ae,Rel K H₀ Z ae ag C' ah H'->SStep Z H H' ρ ae->EndF K W D Z ae fl ah H'
abbrev FG:=T->Sto->TSt->Option TSt
def trG(K:aO)(g:FG):TG:=fun v σ H Q=>∃H₀ Z ρ τ C t ag,Rel K H₀ Z ρ τ C σ H/\RT K (mask H Z ρ) ρ t v/\g t C τ=some ag/\
 ∀ah,Rel K H₀ Z ρ ag C ah H->Q ah H
noncomputable def iE:FS:=fun τ C=>some (.nx,τ,C)
noncomputable def aBE:FS:=fun _ _=>none
noncomputable def fM(F G:FS):FS:=fun τ C=>(F τ C).bind fun r=>match r with
 | (.nx,aq,C1)=>G aq C1
 |r=>some r
noncomputable def fIf(c:FB)(F G:FS):FS:=fun τ C=>(c τ C).bind fun p=>if p.1=true then F τ p.2 else G τ p.2
def gF(f:FE):FS:=fun τ C=>(f τ C).map fun p=>(.rt p.1,τ,p.2)
noncomputable def mB(f:FE):FS:=fun τ C=>(f τ C).map fun p=>(.nx,τ,p.2)
noncomputable def fY(f:FE)(g:FG):FS:=fun τ C=>(f τ C).bind fun p=>(g p.1 p.2 τ).map fun ag=>(.nx,ag,p.2)
noncomputable def gN(i:Nat):FG:=fun t _ τ=>some (τ.set i (some t))
noncomputable def setAll:List Nat->List T->TSt->TSt
 |i::is,t::ts,τ=>setAll is ts (τ.set i (some t))
 |_,_,τ=>τ
def gU(is:List Nat):FG:=fun t C τ=>(sqT C t).bind fun ts=>if ts.length=is.length then some (setAll is ts τ)else none
section
variable {K:aO}{W:XW}{σ:St}{H:Hp}{D:Ends}
variable{F G:FS}{c:FB}{f:FE}{g:FG}{H₀ H1:Hp}{τ:TSt}{C:Sto}{af:Rho}{n:Nat}
theorem aHL(h:trS K W iE D σ H):aH6 D σ H:=by
 obtain⟨H₀,Z,ρ,τ,C,fl,ag,C',R,e,k⟩:=h;cases e
 exact k σ H ρ R .refl
theorem aJJ(h:trS K W aBE D σ H):False:=by
 obtain⟨H₀,Z,ρ,τ,C,fl,ag,C',R,e,k⟩:=h;cases e
theorem aNi(h:trS K W (fM F G) D σ H):tSeq (trS K W F) (trS K W G) D σ H:=by
 obtain⟨H₀,Z,ρ,τ,C,fl,ag,C',R,e,k⟩:=h;unfold fM at e;obtain⟨⟨f1,aq,C1⟩,e1,e⟩:=aK.mp e
 refine⟨H₀,Z,ρ,τ,C,f1,aq,C1,R,e1,fun cz H1 af R1 s1=>?_⟩
 cases f1 with
 |nx=>exact⟨H₀,Z,af,aq,C1,fl,ag,C',R1,e,fun br H2 ar R2 s2=>k br H2 ar R2 (s1.trans s2)⟩
 |bk=>cases e;exact k cz H1 af R1 s1
 |ct=>cases e;exact k cz H1 af R1 s1
 |rt t=>cases e;exact k cz H1 af R1 s1
 |ex c=>cases e;exact k cz H1 af R1 s1
theorem aN7(h:trS K W (fIf c F G) D σ H):tIfS (trT K c) (trS K W F) (trS K W G) D σ H:=by
 obtain⟨H₀,Z,ρ,τ,C,fl,ag,C',R,e,k⟩:=h;unfold fIf at e;obtain⟨⟨b,C1⟩,e1,e⟩:=aK.mp e
 refine⟨H₀,Z,ρ,τ,C,b,C1,R,e1,fun H1 af R1 s1=>?_⟩
 cases b with
 |true=>
  rw[if_pos rfl]at e|-
  exact⟨H₀,Z,af,τ,C1,fl,ag,C',R1,e,fun br H2 ar R2 s2=>k br H2 ar R2 (s1.ss.trans s2)⟩
 |false=>
  rw[if_neg (by simp)]at e|-
  exact⟨H₀,Z,af,τ,C1,fl,ag,C',R1,e,fun br H2 ar R2 s2=>k br H2 ar R2 (s1.ss.trans s2)⟩
theorem aNe(h:trS K W (gF f) D σ H):tRet (trE K f) D σ H:=by
 obtain⟨H₀,Z,ρ,τ,C,fl,ag,C',R,e,k⟩:=h;unfold gF at e;obtain⟨⟨t,C1⟩,e1,e⟩:=aL.mp e;cases e
 exact⟨H₀,Z,ρ,τ,C,t,_,R,e1,fun v H1 af R1 h1 s1=>k σ H1 af R1 s1.ss v h1⟩
theorem aLI(h:trS K W (mB f) D σ H):aEm (trE K f) D σ H:=by
 obtain⟨H₀,Z,ρ,τ,C,fl,ag,C',R,e,k⟩:=h;unfold mB at e;obtain⟨⟨t,C1⟩,e1,e⟩:=aL.mp e;cases e
 exact⟨H₀,Z,ρ,τ,C,t,_,R,e1,fun v H1 af R1 h1 s1=>k σ H1 af R1 s1.ss⟩
theorem aCH(h:trS K W (fY f g) D σ H):aDo (trE K f) (trG K g) D σ H:=by
 obtain⟨H₀,Z,ρ,τ,C,fl,ag,C',R,e,k⟩:=h;unfold fY at e;obtain⟨⟨t,C1⟩,e1,e⟩:=aK.mp e;obtain⟨aq,e2,e⟩:=aL.mp e;cases e
 refine⟨H₀,Z,ρ,τ,C,t,_,R,e1,fun v H1 af R1 h1 s1=>?_⟩
 exact⟨H₀,Z,af,τ,_,t,_,R1,h1,e2,fun ah R'=>k ah H1 af R' s1.ss⟩
theorem wU{i:Nat}{v:V}{Q:St->Hp->Prop}(h:trG K (gN i) v σ H Q):tI i v σ H Q:=by
 obtain⟨H₀,Z,ρ,τ,C,t,ag,R,r,e,k⟩:=h;cases e
 exact k _ (R.set r)
theorem Rel.setAll{H₀:Hp}{Z:Addr->Prop}{ρ:Rho}{C:Sto}:∀{is:List Nat}{ts:List T}{vs:List V}{τ:TSt}{σ:St},Rel K H₀ Z ρ τ C σ H->RTs K (mask H Z ρ) ρ ts vs->ts.length=is.length->∀{Q:St->Hp->Prop},
 (∀ah,Rel K H₀ Z ρ (TL.setAll is ts τ) C ah H->Q ah H)->(is.foldr (fun i g=>aEw (tI i) g) aIK) vs σ H Q
 | [],[],vs,τ,σ,R,r,_,Q,k=>⟨r.nil_inv,k σ R⟩
 |i::is,t::ts,vs,τ,σ,R,r,hl,Q,k=>by
  obtain⟨v,r',rfl,h1,h2⟩:=r.cons_inv
  exact⟨v,r',rfl,Rel.setAll (is:=is) (ts:=ts) (R.set h1) h2 (by simpa using hl) k⟩
 | [],t::ts,_,_,_,_,_,hl,_,_=>by simp at hl
 |i::is,[],_,_,_,_,_,hl,_,_=>by simp at hl
open Classical in
def kR(P:Sto->Prop)(g:FG)(F:FS):List T->FS
 | [],τ,C=>some (.nx,τ,C)
 |t::ts,τ,C=>(g t C τ).bind fun aq=>(F aq C).bind fun r=>match r with
  | (.nx,ap,C2)=>if P C2 then kR P g F ts ap C2 else none
  | (.ct,ap,C2)=>if P C2 then kR P g F ts ap C2 else none
  | (.bk,ap,C2)=>some (.nx,ap,C2)
  | (.rt v,ap,C2)=>some (.rt v,ap,C2)
  | (.ex c,ap,C2)=>some (.ex c,ap,C2)
def stays(t:T)(ts:List T)(C:Sto):Prop:=match t with
 | .cell c=>lc C c=some ts
 |_=>True
def oR(f:FE)(g:FG)(F:FS):FS:=fun τ C=>(f τ C).bind fun p=>(liT p.2 p.1).bind fun ts=>kR (stays p.1 ts) g F ts τ p.2
theorem Rel.same{H₀:Hp}{Z:Addr->Prop}{ρ:Rho}{τ:TSt}{C:Sto}{H':Hp}(R:Rel K H₀ Z ρ τ C σ H)(s:Same H H'):Rel K H₀ Z ρ τ C σ H'/\Step H H' ρ ρ:=by
 have st:Step H H' ρ ρ:=.of0 s
 refine⟨⟨R.old.trans s,R.frs,R.nd,fun a z=>(R.zd a z).same s,fun i t e=>?_,fun c a e=>?_,R.len,R.lnt⟩,st⟩
 ·obtain⟨v,h1,h2⟩:=R.loc i t e
  exact⟨v,h1,h2.step st⟩
 ·obtain⟨ts,vs,ob,h1,h2,h4,h3⟩:=R.cel c a e
  exact⟨ts,vs,ob,h1,s _ _ h2,h4,h3.step st⟩
structure Wlk(K:aO)(J:It)(Z:Addr->Prop)(H1:Hp)(af:Rho)(ts:List T)(P:Sto->Prop):Prop where
 go:∀(i:Nat)(t:T)(H₀:Hp)(Z':Addr->Prop)(ae:Rho)(τ:TSt)(C:Sto)(σ:St)(H:Hp),ts[i]?=some t->Rel K H₀ Z' ae τ C σ H->Same (mask H1 Z af) (mask H Z' ae)->
  (∀(c:Nat)(a:Addr),af[c]?=some a->ae[c]?=some a)->(P C\/Same H1 H)->(∀a ob u,H1 a=some (.frz ob u)->H a=some (.frz ob u))->J.go i H/\∀x H',J.yld i H x H'->Same H H'/\RT K (mask H' Z' ae) ae t x
 stop:∀(H₀:Hp)(Z':Addr->Prop)(ae:Rho)(τ:TSt)(C:Sto)(σ:St)(H:Hp),Rel K H₀ Z' ae τ C σ H->Same (mask H1 Z af) (mask H Z' ae)->
  (∀(c:Nat)(a:Addr),af[c]?=some a->ae[c]?=some a)->(P C\/Same H1 H)->(∀a ob u,H1 a=some (.frz ob u)->H a=some (.frz ob u))->J.stop ts.length H
theorem wG{J:It}{Z:Addr->Prop}{ρ:Rho}{ag:TSt}{C':Sto}{P:Sto->Prop}{ts:List T}{fl:Fl}{cz:St}
 (R:Rel K H₀ Z ρ τ C cz H1)(hP:P C)(e:kR P g F ts τ C=some (fl,ag,C'))(w:Wlk K J Z H1 ρ ts P)
 (k:∀ah H' ae,Rel K H₀ Z ae ag C' ah H'->SStep Z H1 H' ρ ae->EndF K W D Z ae fl ah H'):
 ∃V:Nat->Nat->St->Hp->Prop,(∃m,V 0 m cz H1)/\∀i m σ H,V i m σ H->
  (J.stop i H/\D.nx σ H)\/(J.go i H/\∃N:St->Hp->Prop,(∀ah H',N ah H'->∃m',m'<m/\V (i+1) m' ah H')/\∀x H',J.yld i H x H'->trG K g x σ H' fun br H2=>trS K W F {D with nx:=N,ct:=N,bk:=D.nx} br H2):=by
 refine⟨fun i m σ H=>∃ae aq C1 rest,m=rest.length/\ts.drop i=rest/\i<=ts.length/\Rel K H₀ Z ae aq C1 σ H/\SStep Z H1 H ρ ae/\P C1/\kR P g F rest aq C1=some (fl,ag,C'),
  ⟨ts.length,ρ,τ,C,ts,rfl,rfl,cV _,R,.refl,hP,e⟩,?_⟩
 rintro i m σ H ⟨ae,aq,C1,rest,rfl,hd,hi,R1,s1,mr,e1⟩;cases rest with
 |nil=>
  have eh:i=ts.length:=by
   have:ts.length<=i:=by simpa using hd
   lia
  subst eh;cases e1
  exact .inl ⟨w.stop _ _ _ _ _ _ _ R1 (s1.msk _) s1.idx (.inl mr) s1.fz,k σ H ae R1 s1⟩
 |cons t rest=>
  have ht:ts[i]?=some t:=by
   have:=congrArg (fun l=>l[0]?) hd;simpa using this
  have bi:i<ts.length:=(aR.mp ht).1;have jg:ts.drop (i+1)=rest:=by
   have:=congrArg aP8 hd;simpa using this
  obtain⟨g1,g2⟩:=w.go i t _ _ ae aq C1 σ H ht R1 (s1.msk _) s1.idx (.inl mr) s1.fz;unfold kR at e1;obtain⟨ap,eg,e1⟩:=aK.mp e1;obtain⟨⟨f3,ei,C3⟩,eF,e1⟩:=aK.mp e1
  refine .inr ⟨g1,fun ah H'=>∃bb ei C3,Rel K H₀ Z bb ei C3 ah H'/\SStep Z H1 H' ρ bb/\P C3/\kR P g F rest ei C3=some (fl,ag,C'),?_,?_⟩
  ·rintro ah H' ⟨bb,ei,C3,R3,s3,ue,e3⟩
   exact⟨rest.length,by simp,bb,ei,C3,rest,rfl,jg,bi,R3,s3,ue,e3⟩
  ·intro x H' y;obtain⟨sm,rx⟩:=g2 x H' y;obtain⟨ul,aw⟩:=R1.same sm
   refine⟨H₀,Z,ae,aq,C1,t,ap,ul,rx,eg,fun br R2=>?_⟩
   refine⟨H₀,Z,ae,ap,C1,f3,ei,C3,R2,eF,fun cg H3 bb R3 s3=>?_⟩
   have qk:=(s1.trans aw.ss).trans s3;cases f3 with
   |nx=>
    dsimp only at e1;split at e1
    ·rename_i ue
     exact⟨bb,ei,C3,R3,qk,ue,e1⟩
    ·cases e1
   |ct=>
    dsimp only at e1;split at e1
    ·rename_i ue
     exact⟨bb,ei,C3,R3,qk,ue,e1⟩
    ·cases e1
   |bk=>
    cases e1
    exact k cg H3 bb R3 qk
   |rt v=>
    cases e1
    exact k cg H3 bb R3 qk
   |ex c=>
    cases e1
    exact k cg H3 bb R3 qk
theorem qM{t:T}{ts:List T}(e:liT C t=some ts):stays t ts C:=by
 cases t with
 |cell c=>exact e
 |_=>trivial
theorem aBW{Z:Addr->Prop}{σ:St}{t:T}{ts:List T}{a:Addr}(R1:Rel K H₀ Z af τ C σ H1)(h1:RT K (mask H1 Z af) af t (.ref a))(e2:liT C t=some ts):
 Wlk K (Itl K a) Z H1 af ts (stays t ts):=by
 have there:∀{H₀:Hp}{Z':Addr->Prop}{ae:Rho}{ag:TSt}{C':Sto}{σ:St}{H:Hp},Rel K H₀ Z' ae ag C' σ H->Same (mask H1 Z af) (mask H Z' ae)->(∀(c:Nat)(a:Addr),af[c]?=some a->ae[c]?=some a)->(stays t ts C'\/Same H1 H)->
  ∃ws,SqL K H a ws/\RTs K (mask H Z' ae) ae ts ws:=by
  intro H₀ Z' ae ag C' σ H R' sm ix aw;rcases aw with aw|aw
  ·have h2:=h1.mono sm ix;have e3:liT C' t=some ts:=by
    cases t with
    |cell c=>exact aw
    |lst us=>exact e2
    |_=>cases e2
   obtain⟨a',ws,ik,q',r'⟩:=R'.li h2 e3;cases ik
   exact⟨ws,q',r'⟩
  ·obtain⟨a',ws,ik,q',r'⟩:=R1.li h1 e2;cases ik
   exact⟨ws,aw.seq q',r'.mono sm ix⟩
 refine⟨fun i t' H₀ Z' ae ag C' σ H ht R' sm ix aw _=>?_,fun H₀ Z' ae ag C' σ H R' sm ix aw _=>?_⟩
 ·obtain⟨ws,q',r'⟩:=there R' sm ix aw;obtain⟨x,hx,rx⟩:=r'.get ht
  refine⟨⟨ws,x,q',hx⟩,fun y H' ⟨hy,z⟩=>?_⟩
  subst hy;have:=z ws q';rw[hx]at this;cases this
  exact⟨.refl _,rx⟩
 ·obtain⟨ws,q',r'⟩:=there R' sm ix aw
  exact⟨ws,q',by rw[r'.length];exact bD _⟩
noncomputable def vH(lo:Int)(n:Nat):List T:=(bK n).map fun(i:Nat)=>T.int (lo+(i:Int))
theorem uM{Z:Addr->Prop}{lo:Int}:Wlk K (Itr lo n) Z H1 af (vH lo n) (fun _=>True):=by
 refine⟨fun i t' H₀ Z' ae ag C' σ H ht R' sm ix aw _=>?_,fun H₀ Z' ae ag C' σ H R' sm ix aw _=>?_⟩
 ·unfold vH at ht;have hi:i<n:=by
   have:=(aR.mp ht).1;simpa using this
  rw[bH,dQ hi]at ht;cases ht
  refine⟨hi,fun x H' ⟨h1,h2⟩=>?_⟩
  subst h1;rw[h2];exact⟨.refl _,.int⟩
 ·show n<=_;simp[vH]
theorem aNd(h:trS K W (oR f g F) D σ H):aH3 (aF9 K (trE K f)) (trG K g) (trS K W F) D σ H:=by
 obtain⟨H₀,Z,ρ,τ,C,fl,ag,C',R,e,k⟩:=h;unfold oR at e;obtain⟨⟨t,C1⟩,e1,e⟩:=aK.mp e;obtain⟨ts,e2,e⟩:=aK.mp e
 refine⟨H₀,Z,ρ,τ,C,t,C1,R,e1,fun v H1 af R1 h1 s1=>?_⟩
 obtain⟨a,vs,ev,q,r⟩:=R1.li h1 e2;subst ev
 exact⟨a,rfl,⟨vs,q⟩,wG R1 (qM e2) e (aBW R1 h1 e2) fun ah H' ae R' s'=>k ah H' ae R' (s1.ss.trans s')⟩
def fForR(lo:Int)(n:Nat)(g:FG)(F:FS):FS:=kR (fun _=>True) g F (vH lo n)
def lD(f:FE)(g:FG)(F:FS):FS:=fun τ C=>(f τ C).bind fun p=>match p.1 with
 | .int j=>if -(2^62)<=j/\j<2^62 then fForR 0 j.toNat g F τ p.2 else none
 |_=>none
def pI(f1 f2:FE)(g:FG)(F:FS):FS:=fun τ C=>(f1 τ C).bind fun p=>(f2 τ p.2).bind fun q=>match p.1,q.1 with
 | .int i,.int j=>if -(2^62)<=i/\i<2^62/\ -(2^62)<=j/\j<2^62 then fForR i (j - i).toNat g F τ q.2 else none
 |_,_=>none
theorem aJy(h:trS K W (lD f g F) D σ H):aH3 (aGs (trA K (e7 f fG))) (trG K g) (trS K W F) D σ H:=by
 obtain⟨H₀,Z,ρ,τ,C,fl,ag,C',R,e,k⟩:=h;unfold lD at e;obtain⟨⟨t,C1⟩,e1,e⟩:=aK.mp e
 refine⟨H₀,Z,ρ,τ,C,[t],C1,R,by simp[e7,fG,e1],fun vs H1 af R1 h1 s1=>?_⟩
 obtain⟨v,r,rfl,q1,q2⟩:=h1.cons_inv;rw[q2.nil_inv];dsimp only at e;split at e
 ·split at e
  ·rename_i hj
   exact⟨_,by rw[q1.int_inv],hj.1,hj.2,wG (P:=fun _=>True) R1 trivial e uM fun ah H' ae R' s'=>k ah H' ae R' (s1.ss.trans s')⟩
  ·cases e
 ·cases e
theorem aJr{f1 f2:FE}(h:trS K W (pI f1 f2 g F) D σ H):aH3 (iRng2 (trA K (e7 f1 (e7 f2 fG)))) (trG K g) (trS K W F) D σ H:=by
 obtain⟨H₀,Z,ρ,τ,C,fl,ag,C',R,e,k⟩:=h;unfold pI at e;obtain⟨⟨t,C1⟩,e1,e⟩:=aK.mp e;obtain⟨⟨u,C2⟩,e2,e⟩:=aK.mp e
 refine⟨H₀,Z,ρ,τ,C,[t,u],C2,R,by simp[e7,fG,e1,e2],fun vs H1 af R1 h1 s1=>?_⟩
 obtain⟨v,r,rfl,q1,q2⟩:=h1.cons_inv;obtain⟨v',r',rfl,q3,q4⟩:=q2.cons_inv;rw[q4.nil_inv];dsimp only at e;split at e
 ·split at e
  ·rename_i hj
   exact⟨_,_,by rw[q1.int_inv,q3.int_inv],hj,wG (P:=fun _=>True) R1 trivial e uM fun ah H' ae R' s'=>k ah H' ae R' (s1.ss.trans s')⟩
  ·cases e
 ·cases e
def lN(c:FB)(F:FS):Nat->FS
 |0,_,_=>none
 |n+1,τ,C=>(c τ C).bind fun p=>if p.1=true then(F τ p.2).bind fun r=>match r with
  | (.nx,ap,C2)=>lN c F n ap C2
  | (.ct,ap,C2)=>lN c F n ap C2
  | (.bk,ap,C2)=>some (.nx,ap,C2)
  | (.rt v,ap,C2)=>some (.rt v,ap,C2)
  | (.ex v,ap,C2)=>some (.ex v,ap,C2)
  else some (.nx,τ,p.2)
theorem aIV(h:trS K W (lN c F n) D σ H):tWhile (trT K c) (trS K W F) D σ H:=by
 obtain⟨H₀,Z,ρ,τ,C,fl,ag,C',R,e,k⟩:=h
 refine⟨fun m cz H1=>∃af aq C1,Rel K H₀ Z af aq C1 cz H1/\SStep Z H H1 ρ af/\lN c F m aq C1=some (fl,ag,C'),⟨n,ρ,τ,C,R,.refl,e⟩,?_⟩
 rintro m cz H1 ⟨af,aq,C1,R1,s1,e1⟩;cases m with
 |zero=>cases e1
 |succ m=>
  unfold lN at e1;obtain⟨⟨b,C2⟩,e2,e1⟩:=aK.mp e1
  refine⟨H₀,Z,af,aq,C1,b,C2,R1,e2,fun H2 ar R2 s2=>?_⟩
  cases b with
  |false=>
   rw[if_neg (by simp)]at e1|-;cases e1
   exact k cz H2 ar R2 (s1.trans s2.ss)
  |true=>
   rw[if_pos rfl]at e1|-;obtain⟨⟨f3,ei,C3⟩,e3,e1⟩:=aK.mp e1
   refine⟨fun ah H'=>∃bb ei C3,Rel K H₀ Z bb ei C3 ah H'/\SStep Z H H' ρ bb/\lN c F m ei C3=some (fl,ag,C'),fun ah H' z=>⟨m,d7 _,z⟩,?_⟩
   refine⟨H₀,Z,ar,aq,C2,f3,ei,C3,R2,e3,fun vp H4 jn R4 s4=>?_⟩
   cases f3 with
   |nx=>exact⟨jn,ei,C3,R4,(s1.trans s2.ss).trans s4,e1⟩
   |ct=>exact⟨jn,ei,C3,R4,(s1.trans s2.ss).trans s4,e1⟩
   |bk=>cases e1;exact k vp H4 jn R4 ((s1.trans s2.ss).trans s4)
   |rt v=>cases e1;exact k vp H4 jn R4 ((s1.trans s2.ss).trans s4)
   |ex c=>cases e1;exact k vp H4 jn R4 ((s1.trans s2.ss).trans s4)
end
section
variable {K:aO}{σ:St}{H:Hp}{Q:VK}
variable{M:Hp}{x y:V}{f fa fb fo:FE}{xs:List V}{c d:FB}{D:Ends}
theorem aL9{ρ:Rho}{ts:List T}{vs:List V}{i:Int}{t:T}(h:RTs K M ρ ts vs)(e:atI ts i=some t):∃v,atI vs i=some v/\RT K M ρ t v:=by
 unfold atI at e|-;rw[h.length];cases q:ixN ts.length i with
 |none=>rw[q]at e;cases e
 |some j=>
  rw[q]at e
  exact h.get e
def gIx(t1 t2:T)(C:Sto):Option (T×Sto):=match t2 with
 | .int i=>(sqT C t1).bind fun ts=>(atI ts i).map fun t=>(t,C)
 |_=>none
theorem aN9(h:∃t1 t2,trV K σ [t1,t2] [x,y] (gIx t1 t2) H Q):rIx K x y H Q:=by
 obtain⟨t1,t2,H₀,Z,ρ,τ,C,t,C',R,r,e,k⟩:=h;obtain⟨_,_,z,r1,r⟩:=r.cons_inv;cases z;obtain⟨_,_,z,r2,r⟩:=r.cons_inv;cases z;unfold gIx at e;split at e
 ·obtain⟨ts,e1,e⟩:=aK.mp e;obtain⟨u,e2,e⟩:=aL.mp e;cases e;obtain⟨a,vs,ev,q,rr⟩:=R.sq r1 e1;obtain⟨v,h1,h2⟩:=aL9 rr e2;have fin:=k v H ρ R h2 .refl;rcases q with q|q
  ·exact .inl ⟨a,vs,_,v,ev,r2.int_inv,q,h1,fin⟩
  ·exact .inr (.inl ⟨a,vs,_,v,ev,r2.int_inv,q,h1,fin⟩)
 ·cases e
abbrev FO:=TSt->Sto->Option (Option Int×Sto)
noncomputable def mT:FO:=fun _ C=>some (none,C)
noncomputable def qW(f:FE):FO:=fun τ C=>(f τ C).bind fun p=>match p.1 with
 | .int i=>some (some i,p.2)
 |_=>none
noncomputable def trO(K:aO)(f:FO):TO:=fun σ H Q=>∃H₀ Z ρ τ C o C',Rel K H₀ Z ρ τ C σ H/\f τ C=some (o,C')/\
 ∀H' ae,Rel K H₀ Z ae τ C' σ H'->Step H H' ρ ae->Q o H'
theorem aGC{Q:Option Int->Hp->Prop}(h:trO K mT σ H Q):tNoPart σ H Q:=by
 obtain⟨H₀,Z,ρ,τ,C,o,C',R,e,k⟩:=h;cases e
 exact k H ρ R .refl
theorem aL4{Q:Option Int->Hp->Prop}(h:trO K (qW f) σ H Q):tPart (trE K f) σ H Q:=by
 obtain⟨H₀,Z,ρ,τ,C,o,C',R,e,k⟩:=h;unfold qW at e;obtain⟨⟨t,C1⟩,e1,e⟩:=aK.mp e;dsimp only at e;split at e
 ·cases e
  exact⟨H₀,Z,ρ,τ,C,_,_,R,e1,fun v H1 af R1 h1 s1=>⟨_,h1.int_inv,k H1 af R1 s1⟩⟩
 ·cases e
def aAY(xs:List T)(lo hi:Option Int):List T:=(xs.drop (HT.sIx xs.length 0 lo)).take (HT.sIx xs.length xs.length hi - HT.sIx xs.length 0 lo)
theorem RTs.cut{ρ:Rho}{ts:List T}{vs:List V}(h:RTs K M ρ ts vs)(lo hi:Option Int):RTs K M ρ (aAY ts lo hi) (aFu vs lo hi):=by
 unfold aAY aFu;rw[h.length]
 exact(h.drop _).take _
def fSl(f:FE)(lo hi:FO):FN:=fun τ C=>(f τ C).bind fun p=>(lo τ p.2).bind fun q=>(hi τ q.2).bind fun r=>(liT r.2 p.1).map fun ts=>(aAY ts q.1 r.1,r.2)
theorem aOa{lo hi:FO}(h:trN K (fSl f lo hi) σ H Q):tSl (rSlL K) (trE K f) (trO K lo) (trO K hi) σ H Q:=by
 obtain⟨H₀,Z,ρ,τ,C,ts,C',R,e,k⟩:=h;unfold fSl at e;obtain⟨⟨t,C1⟩,e1,e⟩:=aK.mp e;obtain⟨⟨l,C2⟩,e2,e⟩:=aK.mp e;obtain⟨⟨u,C3⟩,e3,e⟩:=aK.mp e;obtain⟨us,e4,e⟩:=aL.mp e;cases e
 refine⟨H₀,Z,ρ,τ,C,t,C1,R,e1,fun v H1 af R1 h1 s1=>?_⟩
 refine⟨H₀,Z,af,τ,C1,l,C2,R1,e2,fun H2 ar R2 s2=>?_⟩
 refine⟨H₀,Z,ar,τ,C2,u,_,R2,e3,fun H3 bb R3 s3=>?_⟩
 obtain⟨a,vs,ev,q,r⟩:=R3.li ((h1.step s2).step s3) e4
 exact⟨a,vs,ev,q,fun p hp=>k p H3 bb _ R3 hp (r.cut l u) ((s1.trans s2).trans s3)⟩
def rCatL(K:aO):R2:=fun x y H Q=>∃l b xs zs,x=.ref l/\y=.ref b/\SqL K H l xs/\SqL K H b zs/\xs.length+zs.length<=lim/\∀p,H p=none->Q (.ref p) (upd H p (.lst (xs++zs)))
def aFs(t1 t2:T)(C:Sto):Option (List T):=(liT C t1).bind fun ts=>(liT C t2).bind fun us=>if ts.length+us.length<=lim then some (ts++us)else none
theorem aNg(h:∃t1 t2,trW K σ [t1,t2] [x,y] (aFs t1 t2) H Q):rCatL K x y H Q:=by
 obtain⟨t1,t2,H₀,Z,ρ,τ,C,us,R,r,e,k⟩:=h;obtain⟨_,_,z,r1,r⟩:=r.cons_inv;cases z;obtain⟨_,_,z,r2,r⟩:=r.cons_inv;cases z;unfold aFs at e;obtain⟨ts,e1,e⟩:=aK.mp e;obtain⟨ws,e2,e⟩:=aK.mp e;split at e
 ·rename_i hl;cases e;obtain⟨a,vs,ea,qa,ra⟩:=R.li r1 e1;obtain⟨b,zs,eb,qb,rb⟩:=R.li r2 e2
  exact⟨a,b,vs,zs,ea,eb,qa,qb,by rw[ra.length,rb.length];exact hl,fun p hp=>k p H ρ _ R hp (ra.append rb) .refl⟩
 ·cases e
def gE(fa:FN):FN:=vA fa fun ts _=>if ts.length<=lim then some ts else none
theorem aMf{fa:FN}(hz:lim<=sizeLine)(h:trN K (gE fa) σ H Q):tLst (trA K fa) σ H Q:=by
 obtain⟨H₀,Z,ρ,τ,C,ts,C',R,e,k⟩:=aGG h
 refine⟨H₀,Z,ρ,τ,C,ts,C',R,e,fun vs H1 af R1 h1 s1=>?_⟩
 obtain⟨us,jb,Z',ae,ag,C1,ws,R',r,e,k⟩:=k vs H1 af R1 h1 s1;split at e
 ·rename_i hl;cases e
  exact⟨by rw[r.length];exact cA hl hz,fun p hp=>k p H1 ae _ R' hp r .refl⟩
 ·cases e
def aEu(ts:List T)(C:Sto):Option (List T):=match ts with
 | [t]=>sqT C t
 |_=>none
theorem aLE(h:∃ts,trW K σ ts xs (aEu ts) H Q):∃p ys,xs=[.ref p]/\(SqL K H p ys\/SqT K H p ys)/\∀l,H l=none->Q (.ref l) (upd H l (.lst ys)):=by
 obtain⟨ts,H₀,Z,ρ,τ,C,us,R,r,e,k⟩:=h;unfold aEu at e;split at e
 ·obtain⟨v,_,rfl,r1,r⟩:=r.cons_inv;rw[r.nil_inv];obtain⟨a,vs,ea,qa,ra⟩:=R.sq r1 e
  exact⟨a,vs,by rw[ea],qa,fun p hp=>k p H ρ _ R hp ra .refl⟩
 ·cases e
def aFL(ts:List T)(C:Sto):Option (T×Sto):=match ts with
 | [t]=>(sqT C t).map fun us=>(.int us.length,C)
 |_=>none
theorem aNP(h:∃ts,trV K σ ts xs (aFL ts) H Q):∃p ys,xs=[.ref p]/\(SqL K H p ys\/SqT K H p ys)/\Q (.int ys.length) H:=by
 obtain⟨ts,H₀,Z,ρ,τ,C,t,C',R,r,e,k⟩:=h;unfold aFL at e;split at e
 ·obtain⟨v,_,rfl,r1,r⟩:=r.cons_inv;rw[r.nil_inv];obtain⟨us,e1,e⟩:=aL.mp e;cases e;obtain⟨a,vs,ea,qa,ra⟩:=R.sq r1 e1
  exact⟨a,vs,by rw[ea],qa,k _ H ρ R (by rw[ra.length];exact .int) .refl⟩
 ·cases e
noncomputable def ints?:List T->Option (List Int)
 | []=>some []
 | .int i::ts=>(ints? ts).map (i:: ·)
 |_::_=>none
noncomputable def bls?:List T->Option (List Bool)
 | []=>some []
 | .bl i::ts=>(bls? ts).map (i:: ·)
 |_::_=>none
theorem aAO{ρ:Rho}:∀{ts:List T}{vs:List V}{ns:List Int},RTs K M ρ ts vs->ints? ts=some ns->vs=ns.map V.int:=by
 intro ts;induction ts with
 |nil=>intro _ _ r e;cases e;rw[r.nil_inv];rfl
 |cons t ts ih=>
  intro _ _ r e;cases t with
  |int i=>
   obtain⟨v,vs,rfl,r1,r⟩:=r.cons_inv;obtain⟨ns,e1,rfl⟩:=aL.mp e;rw[aM,r1.int_inv,ih r e1]
  |_=>cases e
theorem aGZ{ρ:Rho}:∀{ts:List T}{vs:List V}{ns:List Bool},RTs K M ρ ts vs->bls? ts=some ns->vs=ns.map V.bl:=by
 intro ts;induction ts with
 |nil=>intro _ _ r e;cases e;rw[r.nil_inv];rfl
 |cons t ts ih=>
  intro _ _ r e;cases t with
  |bl i=>
   obtain⟨v,vs,rfl,r1,r⟩:=r.cons_inv;obtain⟨ns,e1,rfl⟩:=aL.mp e;rw[aM,r1.bl_inv,ih r e1]
  |_=>cases e
theorem t8(ns:List Int):ints? (ns.map T.int)=some ns:=by
 induction ns with
 |nil=>rfl
 |cons n ns ih=>simp[ints?,ih]
theorem aH8(ns:List Bool):bls? (ns.map T.bl)=some ns:=by
 induction ns with
 |nil=>rfl
 |cons n ns ih=>simp[bls?,ih]
def aAb(c:List Int->Bool)(f:List Int->Int)(ts:List T)(C:Sto):Option (T×Sto):=match ts with
 | [t]=>(liT C t).bind fun us=>(ints? us).bind fun ns=>if c ns=true then some (.int (f ns),C)else none
 |_=>none
def aEN(K:aO)(c:List Int->Bool)(f:List Int->Int):List V->Hp->VK->Prop:=fun xs H Q=>∃p ns,xs=[.ref p]/\SqL K H p (ns.map V.int)/\c ns=true/\Q (.int (f ns)) H
theorem aIF{c:List Int->Bool}{f:List Int->Int}(h:∃ts,trV K σ ts xs (aAb c f ts) H Q):aEN K c f xs H Q:=by
 obtain⟨ts,H₀,Z,ρ,τ,C,t,C',R,r,e,k⟩:=h;unfold aAb at e;split at e
 ·obtain⟨v,_,rfl,r1,r⟩:=r.cons_inv;rw[r.nil_inv];obtain⟨us,e1,e⟩:=aK.mp e;obtain⟨ns,e2,e⟩:=aK.mp e;split at e
  ·rename_i hc;cases e;obtain⟨a,vs,ea,qa,ra⟩:=R.li r1 e1;have:=aAO ra e2;subst this
   exact⟨a,ns,by rw[ea],qa,hc,k _ H ρ R .int .refl⟩
  ·cases e
 ·cases e
def aHm(f:List Bool->Bool)(ts:List T)(C:Sto):Option (T×Sto):=match ts with
 | [t]=>(liT C t).bind fun us=>(bls? us).map fun ns=>(.bl (f ns),C)
 |_=>none
def rBls(K:aO)(f:List Bool->Bool):List V->Hp->VK->Prop:=fun xs H Q=>∃p ns,xs=[.ref p]/\SqL K H p (ns.map V.bl)/\Q (.bl (f ns)) H
theorem aNb{f:List Bool->Bool}(h:∃ts,trV K σ ts xs (aHm f ts) H Q):rBls K f xs H Q:=by
 obtain⟨ts,H₀,Z,ρ,τ,C,t,C',R,r,e,k⟩:=h;unfold aHm at e;split at e
 ·obtain⟨v,_,rfl,r1,r⟩:=r.cons_inv;rw[r.nil_inv];obtain⟨us,e1,e⟩:=aK.mp e;obtain⟨ns,e2,e⟩:=aL.mp e;cases e;obtain⟨a,vs,ea,qa,ra⟩:=R.li r1 e1;have:=aGZ ra e2;subst this
  exact⟨a,ns,by rw[ea],qa,k _ H ρ R .bl .refl⟩
 ·cases e
noncomputable def gI2(f:Int->Int->Int)(ts:List T)(C:Sto):Option (T×Sto):=match ts with
 | [.int i,.int j]=>some (.int (f i j),C)
 |_=>none
theorem aNy{f:Int->Int->Int}(h:∃ts,trV K σ ts xs (gI2 f ts) H Q):∃i j,xs=[.int i,.int j]/\Q (.int (f i j)) H:=by
 obtain⟨ts,H₀,Z,ρ,τ,C,t,C',R,r,e,k⟩:=h;unfold gI2 at e;split at e
 ·obtain⟨v,_,rfl,r1,r⟩:=r.cons_inv;obtain⟨w,_,rfl,r2,r⟩:=r.cons_inv;rw[r.nil_inv,r1.int_inv,r2.int_inv];cases e
  exact⟨_,_,rfl,k _ H ρ R .int .refl⟩
 ·cases e
def aKu(C:Sto):T->Option Bool
 | .non=>some false
 | .bl b=>some b
 | .int i=>some (i !=0)
 | .lst ts=>some (!ts.isEmpty)
 | .tup ts=>some (!ts.isEmpty)
 | .cell c=>(lc C c).map fun ts=> !ts.isEmpty
 | .str _=>none
 | .exc _=>none
def j9(f:FE):FB:=fun τ C=>(f τ C).bind fun p=>(aKu p.2 p.1).map fun b=>(b,p.2)
theorem sE{ρ:Rho}{ts:List T}{vs:List V}(h:RTs K M ρ ts vs):vs.isEmpty=ts.isEmpty:=by
 cases ts with
 |nil=>rw[h.nil_inv];rfl
 |cons t ts=>obtain⟨v,r,rfl,_⟩:=h.cons_inv;rfl
theorem aN2{Q:Bool->Hp->Prop}(h:trT K (j9 f) σ H Q):trE K f σ H fun x H1=>∃k,aMa K x H1 k/\Q k H1:=by
 obtain⟨H₀,Z,ρ,τ,C,b,C',R,e,k⟩:=h;unfold j9 at e;obtain⟨⟨t,C1⟩,e1,e⟩:=aK.mp e;obtain⟨b',e2,e⟩:=aL.mp e;cases e
 refine⟨H₀,Z,ρ,τ,C,t,_,R,e1,fun v H1 af R1 h1 s1=>⟨b,?_,k H1 af R1 s1⟩⟩
 dsimp only at e2 R1;cases t with
 |non=>rw[h1.non_inv];cases e2;rfl
 |bl c=>rw[h1.bl_inv];cases e2;rfl
 |int i=>rw[h1.int_inv];cases e2;rfl
 |str x=>cases e2
 |exc x=>cases e2
 |lst ts=>
  obtain⟨a,vs,ea,qa,ra⟩:=R1.li h1 rfl;rw[ea];cases e2
  exact .inl ⟨vs,qa,by rw[sE ra]⟩
 |tup ts=>
  unfold RT at h1;obtain⟨a,vs,ea,qa,ra⟩:=h1;rw[ea];cases e2
  exact .inr (.inl ⟨vs,SqT.msk (.of qa),by rw[sE ra]⟩)
 |cell c=>
  obtain⟨ts,e3,e2⟩:=aL.mp e2;obtain⟨a,vs,ea,qa,ra⟩:=R1.li h1 e3;rw[ea];cases e2
  exact .inl ⟨vs,qa,by rw[sE ra]⟩
noncomputable def hZ(f:FE):FB:=fun τ C=>(f τ C).bind fun p=>match p.1 with
 | .bl b=>some (b,p.2)
 |_=>none
theorem aGf{te:TE}{Q:Bool->Hp->Prop}(hi:∀σ H Q,trE K f σ H Q->te σ H Q)(h:trT K (hZ f) σ H Q):tTest te σ H Q:=by
 obtain⟨H₀,Z,ρ,τ,C,b,C',R,e,k⟩:=h;unfold hZ at e;obtain⟨⟨t,C1⟩,e1,e⟩:=aK.mp e;dsimp only at e;split at e
 ·cases e
  exact hi _ _ _ ⟨H₀,Z,ρ,τ,C,_,_,R,e1,fun v H1 af R1 h1 s1=>⟨_,h1.bl_inv,k H1 af R1 s1⟩⟩
 ·cases e
noncomputable def pZ(c d:FB):FB:=fun τ C=>(c τ C).bind fun p=>if p.1=true then d τ p.2 else some (false,p.2)
noncomputable def lO(c d:FB):FB:=fun τ C=>(c τ C).bind fun p=>if p.1=true then some (true,p.2)else d τ p.2
noncomputable def i8(c:FB):FB:=fun τ C=>(c τ C).map fun p=>(!p.1,p.2)
theorem aLF{Q:Bool->Hp->Prop}(h:trT K (pZ c d) σ H Q):tAnd (trT K c) (trT K d) σ H Q:=by
 obtain⟨H₀,Z,ρ,τ,C,b,C',R,e,k⟩:=h;unfold pZ at e;obtain⟨⟨b1,C1⟩,e1,e⟩:=aK.mp e
 refine⟨H₀,Z,ρ,τ,C,b1,C1,R,e1,fun H1 af R1 s1=>?_⟩
 cases b1 with
 |true=>
  rw[if_pos rfl]at e|-
  exact⟨H₀,Z,af,τ,C1,b,C',R1,e,fun H2 ar R2 s2=>k H2 ar R2 (s1.trans s2)⟩
 |false=>
  rw[if_neg (by simp)]at e|-;cases e
  exact k H1 af R1 s1
theorem aNj{Q:Bool->Hp->Prop}(h:trT K (lO c d) σ H Q):tOr (trT K c) (trT K d) σ H Q:=by
 obtain⟨H₀,Z,ρ,τ,C,b,C',R,e,k⟩:=h;unfold lO at e;obtain⟨⟨b1,C1⟩,e1,e⟩:=aK.mp e
 refine⟨H₀,Z,ρ,τ,C,b1,C1,R,e1,fun H1 af R1 s1=>?_⟩
 cases b1 with
 |false=>
  rw[if_neg (by simp)]at e|-
  exact⟨H₀,Z,af,τ,C1,b,C',R1,e,fun H2 ar R2 s2=>k H2 ar R2 (s1.trans s2)⟩
 |true=>
  rw[if_pos rfl]at e|-;cases e
  exact k H1 af R1 s1
theorem aMj{Q:Bool->Hp->Prop}(h:trT K (i8 c) σ H Q):tNot (trT K c) σ H Q:=by
 obtain⟨H₀,Z,ρ,τ,C,b,C',R,e,k⟩:=h;unfold i8 at e;obtain⟨⟨b1,C1⟩,e1,e⟩:=aL.mp e;cases e
 exact⟨H₀,Z,ρ,τ,C,b1,_,R,e1,fun H1 af R1 s1=>k H1 af R1 s1⟩
noncomputable def aAm(fa fb:FE):FE:=fun τ C=>(fa τ C).bind fun p=>match p.1 with
 | .bl true=>fb τ p.2
 | .bl false=>some (.bl false,p.2)
 |_=>none
noncomputable def z9(fa:FE):FE:=fun τ C=>(fa τ C).bind fun p=>match p.1 with
 | .bl b=>some (.bl (!b),p.2)
 |_=>none
theorem aMD(h:trE K (aAm fa fb) σ H Q):tAndV (trE K fa) (trE K fb) σ H Q:=by
 obtain⟨H₀,Z,ρ,τ,C,t,C',R,e,k⟩:=h;unfold aAm at e;obtain⟨⟨t1,C1⟩,e1,e⟩:=aK.mp e
 refine⟨H₀,Z,ρ,τ,C,t1,C1,R,e1,fun v H1 af R1 h1 s1=>?_⟩
 dsimp only at e;split at e
 ·refine⟨true,h1.bl_inv,?_⟩
  rw[if_pos rfl]
  exact⟨H₀,Z,af,τ,C1,t,C',R1,e,fun v H2 ar R2 h2 s2=>k v H2 ar R2 h2 (s1.trans s2)⟩
 ·refine⟨false,h1.bl_inv,?_⟩
  rw[if_neg (by simp)];cases e
  exact k _ H1 af R1 .bl s1
 ·cases e
theorem aLy(h:trE K (z9 fa) σ H Q):tNotV (trE K fa) σ H Q:=by
 obtain⟨H₀,Z,ρ,τ,C,t,C',R,e,k⟩:=h;unfold z9 at e;obtain⟨⟨t1,C1⟩,e1,e⟩:=aK.mp e
 refine⟨H₀,Z,ρ,τ,C,t1,C1,R,e1,fun v H1 af R1 h1 s1=>?_⟩
 dsimp only at e;split at e
 ·cases e
  exact⟨_,h1.bl_inv,k _ H1 af R1 .bl s1⟩
 ·cases e
noncomputable def aFj(c:FB)(fa fb:FE):FE:=fun τ C=>(c τ C).bind fun p=>if p.1=true then fa τ p.2 else fb τ p.2
theorem aNO(h:trE K (aFj c fa fb) σ H Q):tIf (trT K c) (trE K fa) (trE K fb) σ H Q:=by
 obtain⟨H₀,Z,ρ,τ,C,t,C',R,e,k⟩:=h;unfold aFj at e;obtain⟨⟨b1,C1⟩,e1,e⟩:=aK.mp e
 refine⟨H₀,Z,ρ,τ,C,b1,C1,R,e1,fun H1 af R1 s1=>?_⟩
 cases b1 with
 |false=>
  rw[if_neg (by simp)]at e|-
  exact⟨H₀,Z,af,τ,C1,t,C',R1,e,fun v H2 ar R2 h2 s2=>k v H2 ar R2 h2 (s1.trans s2)⟩
 |true=>
  rw[if_pos rfl]at e|-
  exact⟨H₀,Z,af,τ,C1,t,C',R1,e,fun v H2 ar R2 h2 s2=>k v H2 ar R2 h2 (s1.trans s2)⟩
noncomputable def uR(fa fb fc:FE)(p q:Int->Int->Bool):FE:=fun τ C=>(fa τ C).bind fun x=>(fb τ x.2).bind fun y=>match x.1,y.1 with
 | .int i,.int j=>if p i j=true then(fc τ y.2).bind fun z=>match z.1 with
  | .int l=>some (.bl (q j l),z.2)
  |_=>none
   else some (.bl false,y.2)
 |_,_=>none
theorem aJu{fc:FE}{p q:Int->Int->Bool}(h:trE K (uR fa fb fc p q) σ H Q):
 tChain (fun x y H Q=>∃i j,x=.int i/\y=.int j/\Q (.bl (p i j)) H) (fun x y H Q=>∃i j,x=.int i/\y=.int j/\Q (.bl (q i j)) H) (trE K fa) (trE K fb) (trE K fc) σ H Q:=by
 obtain⟨H₀,Z,ρ,τ,C,t,C',R,e,k⟩:=h;unfold uR at e;obtain⟨⟨t1,C1⟩,e1,e⟩:=aK.mp e;obtain⟨⟨t2,C2⟩,e2,e⟩:=aK.mp e
 refine⟨H₀,Z,ρ,τ,C,t1,C1,R,e1,fun x H1 af R1 h1 s1=>?_⟩
 refine⟨H₀,Z,af,τ,C1,t2,C2,R1,e2,fun y H2 ar R2 h2 s2=>?_⟩
 dsimp only at e;split at e
 ·refine⟨_,_,h1.int_inv,h2.int_inv,_,rfl,?_⟩
  split at e
  ·rename_i hp;rw[if_pos hp];obtain⟨⟨t3,C3⟩,e3,e⟩:=aK.mp e
   refine⟨H₀,Z,ar,τ,C2,t3,C3,R2,e3,fun z H3 bb R3 h3 s3=>?_⟩
   dsimp only at e;split at e
   ·cases e
    exact⟨_,_,h2.int_inv,h3.int_inv,k _ H3 bb R3 .bl ((s1.trans s2).trans s3)⟩
   ·cases e
  ·rename_i hp;rw[if_neg hp];cases e
   exact k _ H2 ar R2 .bl (s1.trans s2)
 ·cases e
def sJ(fe fo fi:FE):FS:=fun τ C=>(fe τ C).bind fun p=>(fo τ p.2).bind fun q=>(fi τ q.2).bind fun r=>match q.1,r.1 with
 | .cell c,.int i=>(lc r.2 c).bind fun ts=>(ixN ts.length i).map fun j=>(.nx,τ,r.2.set c (.l,ts.set j p.1))
 |_,_=>none
theorem aMX{fe fi:FE}(h:trS K W (sJ fe fo fi) D σ H):aDo (trE K fe) (gSub (trE K fo) (trE K fi) rSetL) D σ H:=by
 obtain⟨H₀,Z,ρ,τ,C,fl,ag,C',R,e,k⟩:=h;unfold sJ at e;obtain⟨⟨t1,C1⟩,e1,e⟩:=aK.mp e;obtain⟨⟨t2,C2⟩,e2,e⟩:=aK.mp e;obtain⟨⟨t3,C3⟩,e3,e⟩:=aK.mp e
 refine⟨H₀,Z,ρ,τ,C,t1,C1,R,e1,fun x H1 af R1 h1 s1=>?_⟩
 refine⟨H₀,Z,af,τ,C1,t2,C2,R1,e2,fun y H2 ar R2 h2 s2=>?_⟩
 refine⟨H₀,Z,ar,τ,C2,t3,C3,R2,e3,fun z H3 bb R3 h3 s3=>?_⟩
 dsimp only at e;split at e
 ·obtain⟨ts,e4,e⟩:=aK.mp e;obtain⟨j,e5,e⟩:=aL.mp e;cases e;have h2':=h2.step s3;unfold RT at h2';obtain⟨a,ea,qa⟩:=h2';obtain⟨vs,c2,c3⟩:=R3.celL qa (f9.mp e4);obtain⟨w1,w2⟩:=R3.write qa (by rw[c2];trivial) (c3.set ((h1.step s2).step s3) j)
  exact⟨a,vs,_,j,ea,h3.int_inv,c2,by rw[c3.length];exact e5,k σ _ bb w1 (((s1.trans s2).trans s3).ss.trans w2)⟩
 ·cases e
def aFy(fo:FE)(fa:FN)(g:List T->List T->Option (List T)):FS:=fun τ C=>(fo τ C).bind fun p=>(fa τ p.2).bind fun q=>match p.1 with
 | .cell c=>(lc p.2 c).bind fun _=>(lc q.2 c).bind fun ts=>(g ts q.1).map fun us=>(.nx,τ,q.2.set c (.l,us))
 |_=>none
def aMi(g:List V->List V->Option (List V)):V->List V->Hp->VK->Prop:=fun x vs H Q=>∃l xs ys,x=.ref l/\H l=some (.lst xs)/\g xs vs=some ys/\Q .non (upd H l (.lst ys))
theorem aKR{fa:FN}{g:List T->List T->Option (List T)}{gv:List V->List V->Option (List V)}
 (hg:∀M ρ ts us ws vs xs,RTs K M ρ ts vs->RTs K M ρ us xs->g ts us=some ws->∃ys,gv vs xs=some ys/\RTs K M ρ ws ys)
 (h:trS K W (aFy fo fa g) D σ H):aEm (tBM K "list" (aMi gv) (trE K fo) (trA K fa)) D σ H:=by
 obtain⟨H₀,Z,ρ,τ,C,fl,ag,C',R,e,k⟩:=h;unfold aFy at e;obtain⟨⟨t1,C1⟩,e1,e⟩:=aK.mp e;obtain⟨⟨t2,C2⟩,e2,e⟩:=aK.mp e
 refine⟨H₀,Z,ρ,τ,C,t1,C1,R,e1,fun x H1 af R1 h1 s1=>?_⟩
 dsimp only at e;split at e
 ·obtain⟨_,e3,e⟩:=aK.mp e;obtain⟨ts,e4,e⟩:=aK.mp e;obtain⟨us,e5,e⟩:=aL.mp e;cases e
  refine⟨?_,H₀,Z,af,τ,C1,t2,C2,R1,e2,fun xs H2 ar R2 h2 s2=>?_⟩
  ·have kt:=h1;unfold RT at kt;obtain⟨a,ea,qa⟩:=kt;obtain⟨vs,c2,c3⟩:=R1.celL qa (f9.mp e3);rw[ea]
   exact .inl ⟨rfl,vs,.of c2⟩
  ·have kt:=h1.step s2;unfold RT at kt;obtain⟨a,ea,qa⟩:=kt;obtain⟨vs,c2,c3⟩:=R2.celL qa (f9.mp e4);obtain⟨ys,y1,y2⟩:=hg _ _ _ _ _ _ _ c3 h2 e5;obtain⟨w1,w2⟩:=R2.write qa (by rw[c2];trivial) y2
   exact⟨a,vs,ys,ea,c2,y1,k σ _ ar w1 ((s1.trans s2).ss.trans w2)⟩
 ·cases e
end
mutual
def CF:T->Bool
 | .cell _=>false
 | .lst ts=>CFs ts
 | .tup ts=>CFs ts
 |_=>true
def CFs:List T->Bool
 | []=>true
 |t::ts=>CF t&&CFs ts
end
theorem aBc{ts:List T}:CFs ts=true↔∀t∈ts,CF t=true:=by
 induction ts with
 |nil=>simp[CFs]
 |cons t ts ih=>simp[CFs,ih]
section
variable {K:aO}{σ:St}{H:Hp}{Q:VK}
mutual
theorem RT.cf{M:Hp}{ρ ae:Rho}:∀{t:T}{v:V},CF t=true->RT K M ρ t v->RT K M ae t v
 | .non,_,_,h=>by unfold RT at*;exact h
 | .bl _,_,_,h=>by unfold RT at*;exact h
 | .int _,_,_,h=>by unfold RT at*;exact h
 | .str _,_,_,h=>by unfold RT at*;exact h
 | .exc _,_,_,h=>by unfold RT at*;exact h
 | .lst ts,v,c,h=>by
   unfold RT at*;obtain⟨a,vs,e,q,r⟩:=h
   exact⟨a,vs,e,q,RTs.cf (by unfold CF at c;exact c) r⟩
 | .tup ts,v,c,h=>by
   unfold RT at*;obtain⟨a,vs,e,q,r⟩:=h
   exact⟨a,vs,e,q,RTs.cf (by unfold CF at c;exact c) r⟩
 | .cell c,_,h,_=>by unfold CF at h;cases h
theorem RTs.cf{M:Hp}{ρ ae:Rho}:∀{ts:List T}{vs:List V},CFs ts=true->RTs K M ρ ts vs->RTs K M ae ts vs
 | [],_,_,h=>by unfold RTs at*;exact h
 |t::ts,vs,c,h=>by
  unfold CFs at c;rw[aOZ]at c;unfold RTs at*;obtain⟨v,r,e,h1,h2⟩:=h
  exact⟨v,r,e,RT.cf c.1 h1,RTs.cf c.2 h2⟩
end
variable{H₀:Hp}{τ:TSt}{C:Sto}{neg:Bool}{x y:V}{n m k:Nat}{F:List T->Option T}{E:XK}{α:Type}{D:Addr}{is:List Nat}{g:FG}{tc:FB}{fe f:FE}
noncomputable def mapO(f:T->Option T):List T->Option (List T)
 | []=>some []
 |t::ts=>(f t).bind fun u=>(mapO f ts).map (u:: ·)
def dr:Nat->Sto->T->Option T
 |0,_,t=>if CF t=true then some t else none
 |n+1,C,.cell c=>(lc C c).bind fun ts=>(mapO (dr n C) ts).map T.lst
 |n+1,C,.lst ts=>if CFs ts=true then some (.lst ts)else(mapO (dr n C) ts).map T.lst
 |n+1,C,.tup ts=>if CFs ts=true then some (.tup ts)else(mapO (dr n C) ts).map T.tup
 |_+1,_,t=>if CF t=true then some t else none
theorem rE{Z:Addr->Prop}{ρ:Rho}:Same (mask H Z ρ) (mask H Z []):=fun a o h=>by
 obtain⟨h1,h2,h3⟩:=mC.mp h
 exact nJ h1 (by simp) h3
theorem RTs.mapO{M M':Hp}{ρ ae:Rho}{f:T->Option T}(hf:∀t v t',RT K M ρ t v->f t=some t'->RT K M' ae t' v):∀{ts:List T}{vs:List V}{us:List T},RTs K M ρ ts vs->TL.mapO f ts=some us->RTs K M' ae us vs
 | [],_,_,h,e=>by cases e;rw[h.nil_inv];exact .nil
 |t::ts,_,us,h,e=>by
  obtain⟨v,r,rfl,h1,h2⟩:=h.cons_inv;unfold TL.mapO at e;obtain⟨u,e1,e⟩:=aK.mp e;obtain⟨us,e2,rfl⟩:=aL.mp e
  exact .cons (hf t v u h1 e1) (RTs.mapO hf h2 e2)
theorem Rel.dr{Z:Addr->Prop}{ρ:Rho}(R:Rel K H₀ Z ρ τ C σ H):∀(n:Nat)(t:T)(v:V)(t':T),RT K (mask H Z ρ) ρ t v->TL.dr n C t=some t'->RT K (mask H Z []) [] t' v:=by
 intro n;induction n with
 |zero=>
  intro t v t' h e;unfold TL.dr at e;split at e
  ·rename_i hc;cases e
   exact(h.cf hc).mono rE (fun c a z=>z)
  ·cases e
 |succ n ih=>
  intro t v t' h e;by_cases hc:∃c,t=.cell c
  ·obtain⟨c,rfl⟩:=hc;unfold TL.dr at e;obtain⟨ts,e1,e⟩:=aK.mp e;obtain⟨us,e2,rfl⟩:=aL.mp e;unfold RT at h;obtain⟨a,ea,qa⟩:=h;obtain⟨vs,c2,c3⟩:=R.celL qa (f9.mp e1);unfold RT
   exact⟨a,vs,ea,.of (nJ (R.frs a (bF qa)).2 (by simp) c2),c3.mapO ih e2⟩
  ·have fin:CF t=true->t=t'->RT K (mask H Z []) [] t' v:=fun hc z=>by
    subst z
    exact(h.cf hc).mono rE (fun c a z=>z)
   have jj:∀{p:Bool}{u:T},(if p=true then some u else none)=some t'->p=true/\u=t':=fun {p u} z=>by
    cases p with
    |true=>exact⟨rfl,cO.inj z⟩
    |false=>cases z
   cases t with
   |cell c=>exact absurd ⟨c,rfl⟩ hc
   |lst ts=>
    unfold TL.dr at e;split at e
    ·rename_i hc
     exact fin (by unfold CF;exact hc) (cO.inj e)
    ·obtain⟨us,e2,rfl⟩:=aL.mp e;unfold RT at h;obtain⟨a,vs,ea,qa,ra⟩:=h;unfold RT
     exact⟨a,vs,ea,rE.seq qa,ra.mapO ih e2⟩
   |tup ts=>
    unfold TL.dr at e;split at e
    ·rename_i hc
     exact fin (by unfold CF;exact hc) (cO.inj e)
    ·obtain⟨us,e2,rfl⟩:=aL.mp e;unfold RT at h;obtain⟨a,vs,ea,qa,ra⟩:=h;unfold RT
     exact⟨a,vs,ea,rE _ _ qa,ra.mapO ih e2⟩
   |non=>exact fin (jj e).1 (jj e).2
   |bl _=>exact fin (jj e).1 (jj e).2
   |int _=>exact fin (jj e).1 (jj e).2
   |str _=>exact fin (jj e).1 (jj e).2
   |exc _=>exact fin (jj e).1 (jj e).2
noncomputable def eqF:T->T->Option Bool
 | .bl a,.bl b=>some (a==b)
 | .int a,.int b=>some (a==b)
 | .str a,.str b=>some (a==b)
 |_,_=>none
noncomputable def eqL(e:T->T->Option Bool):List T->List T->Option Bool
 | [],[]=>some true
 |x::xs,y::ys=>(e x y).bind fun a=>(eqL e xs ys).map fun b=>a&&b
 |_,_=>none
def eqT:Nat->T->T->Option Bool
 |n+1,.lst xs,.lst ys=>if xs.length=ys.length then eqL (eqT n) xs ys else some false
 |_,a,b=>eqF a b
def aMT(K:aO)(neg:Bool):R2:=fun x y H Q=>∃t1 t2 b,RT K H [] t1 x/\RT K H [] t2 y/\eqT 5 t1 t2=some b/\Q (.bl (if neg then !b else b)) H
def gEq(neg:Bool)(t1 t2:T)(C:Sto):Option (T×Sto):=(dr 3 C t1).bind fun u1=>(dr 3 C t2).bind fun u2=>(eqT 5 u1 u2).map fun b=>(.bl (if neg then !b else b),C)
theorem aLp(h:∃t1 t2,trV K σ [t1,t2] [x,y] (gEq neg t1 t2) H Q):aMT K neg x y H Q:=by
 obtain⟨t1,t2,H₀,Z,ρ,τ,C,t,C',R,r,e,k⟩:=h;obtain⟨_,_,z,r1,r⟩:=r.cons_inv;cases z;obtain⟨_,_,z,r2,r⟩:=r.cons_inv;cases z;unfold gEq at e;obtain⟨u1,e1,e⟩:=aK.mp e;obtain⟨u2,e2,e⟩:=aK.mp e;obtain⟨b,e3,e⟩:=aL.mp e;cases e
 exact⟨u1,u2,b,(R.dr _ _ _ _ r1 e1).mono o3 (fun c a z=>z),(R.dr _ _ _ _ r2 e2).mono o3 (fun c a z=>z),e3,k _ H ρ R .bl .refl⟩
noncomputable def inL(e:T->Option Bool):List T->Option Bool
 | []=>some false
 |x::xs=>(e x).bind fun a=>(inL e xs).map fun b=>a||b
def aLl(K:aO)(neg:Bool):R2:=fun x y H Q=>∃t p vs ts b,RT K H [] t x/\y=.ref p/\SqL K H p vs/\RTs K H [] ts vs/\inL (fun u=>eqT 5 u t) ts=some b/\Q (.bl (if neg then !b else b)) H
def gIn(neg:Bool)(t1 t2:T)(C:Sto):Option (T×Sto):=(dr 3 C t1).bind fun u1=>(liT C t2).bind fun ts=>(mapO (dr 3 C) ts).bind fun us=>(inL (fun u=>eqT 5 u u1) us).map fun b=>(.bl (if neg then !b else b),C)
theorem aLM(h:∃t1 t2,trV K σ [t1,t2] [x,y] (gIn neg t1 t2) H Q):aLl K neg x y H Q:=by
 obtain⟨t1,t2,H₀,Z,ρ,τ,C,t,C',R,r,e,k⟩:=h;obtain⟨_,_,z,r1,r⟩:=r.cons_inv;cases z;obtain⟨_,_,z,r2,r⟩:=r.cons_inv;cases z;unfold gIn at e;obtain⟨u1,e1,e⟩:=aK.mp e;obtain⟨ts,e2,e⟩:=aK.mp e;obtain⟨us,e4,e⟩:=aK.mp e;obtain⟨b,e3,e⟩:=aL.mp e;cases e;obtain⟨a,vs,ea,qa,ra⟩:=R.li r2 e2
 exact⟨u1,a,vs,us,b,(R.dr _ _ _ _ r1 e1).mono o3 (fun c a z=>z),ea,qa,ra.mapO (fun t v t' h e=>(R.dr _ _ _ _ h e).mono o3 (fun c a z=>z)) e4,e3,k _ H ρ R .bl .refl⟩
def spT(K:aO)(n:Nat)(F:List T->Option T):Sp:=fun vs H Q _=>∃Z ts t,ts.length=n/\(∀a,Z a->NT (H a))/\RTs K (mask H Z []) [] ts vs/\F ts=some t/\
 ∀v H',Same H H'->RT K (mask H' Z []) [] t v->Q v H'
theorem gM:∀vs H Q E,spT K n F vs H Q E->vs.length=n:=fun vs H Q E zz=>by obtain⟨Z,ts,t,h,_,r,_⟩:=zz;rw[r.length,h]
noncomputable def sca:T->Bool
 | .non=>true
 | .bl _=>true
 | .int _=>true
 | .str _=>true
 |_=>false
theorem RT.sca{M M':Hp}{ρ ae:Rho}{t:T}{v:V}(hs:TL.sca t=true)(h:RT K M ρ t v):RT K M' ae t v:=by
 cases t with
 |non=>unfold RT at*;exact h
 |bl _=>unfold RT at*;exact h
 |int _=>unfold RT at*;exact h
 |str _=>unfold RT at*;exact h
 |_=>cases hs
def kE(n:Nat)(F:List T->Option T)(ts:List T)(C:Sto):Option (T×Sto):=if ts.length=n then
 if CFs ts=true then(F ts).map fun t=>(t,C)
 else(mapO (dr 3 C) ts).bind fun us=>(F us).bind fun t=>if sca t=true then some (t,C)else none
 else none
theorem aBd{Z:Addr->Prop}{ρ:Rho}:mask H (fun a=>Z a\/a∈ρ) []=mask H Z ρ:=by
 funext a;unfold mask;by_cases h:Z a\/a∈ρ
 ·rw[if_pos (.inl h),if_pos h]
 ·rw[if_neg (by rintro(z|z);·exact h z
                ·cases z),if_neg h]
theorem aCP{f:T->Option T}:∀{ts us:List T},mapO f ts=some us->us.length=ts.length
 | [],_,e=>by cases e;rfl
 |t::ts,us,e=>by
  unfold mapO at e;obtain⟨u,e1,e⟩:=aK.mp e;obtain⟨us,e2,rfl⟩:=aL.mp e;simp[aCP e2]
theorem Rel.cel_some{Z:Addr->Prop}{ρ:Rho}(R:Rel K H₀ Z ρ τ C σ H){a:Addr}(ha:a∈ρ):NT (H a):=by
 obtain⟨c,hc⟩:=bT.mp ha;obtain⟨_,_,_,_,h,hb,_⟩:=R.cel c a hc;rw[h];exact hb.nt
theorem aMb{vs:List V}(h:∃ts,trV K σ ts vs (kE n F ts) H Q):spT K n F vs H Q E:=by
 obtain⟨ts,H₀,Z,ρ,τ,C,t,C',R,r,e,k⟩:=h;unfold kE at e;split at e
 ·rename_i hn;split at e
  ·rename_i hc;obtain⟨u,e1,e⟩:=aL.mp e;cases e
   refine⟨fun a=>Z a\/a∈ρ,ts,_,hn,fun a z=>?_,by rw[aBd];exact r.cf hc,e1,fun v H' sm rv=>?_⟩
   ·rcases z with z|z
    ·exact R.zd a z
    ·exact R.cel_some z
   ·obtain⟨R',st⟩:=R.same sm;rw[aBd]at rv
    exact k v H' ρ R' (rv.mono (.refl _) (fun c a z=>by cases z)) st
  ·obtain⟨us,e1,e⟩:=aK.mp e;obtain⟨u,e2,e⟩:=aK.mp e;split at e
   ·rename_i hs;cases e
    refine⟨Z,us,_,(aCP e1).trans hn,R.zd,r.mapO (fun t v t' h e=>R.dr _ _ _ _ h e) e1,e2,fun v H' sm rv=>?_⟩
    obtain⟨R',st⟩:=R.same sm
    exact k v H' ρ R' (rv.sca hs) st
   ·cases e
 ·cases e
noncomputable def st0(m:Nat)(ts:List T):TSt:=ts.map some++aX (m - ts.length) none
theorem Rel.start{Z:Addr->Prop}{ts:List T}{vs:List V}(hz:∀a,Z a->NT (H a))(h:RTs K (mask H Z []) [] ts vs):
 Rel K H Z [] (st0 m ts) [] (vs.map some++aX (m - vs.length) none) H:=by
 refine⟨.refl _,(fun a ha=>nomatch ha),aPJ,hz,fun i t e=>?_,(fun c a e=>nomatch e),rfl,by simp[st0,h.length]⟩
 unfold st0 at e;have hi:i<ts.length:=by
  by_cases hi:i<ts.length
  ·exact hi
  ·rw[bI (by simpa using hi),cT]at e;split at e<;>cases e
 rw[aT (by simpa using hi),bH]at e;cases q:ts[i]?with
 |none=>rw[q]at e;cases e
 |some u=>
  rw[q]at e;cases e;obtain⟨v,h1,h2⟩:=h.get q
  refine⟨v,?_,h2⟩
  rw[aT (by simpa[h.length]using hi),bH,h1];rfl
def EndT(t:T):Fl×TSt×Sto->Prop
 | (.rt r,_,C)=>dr 3 C r=some t
 | (.nx,_,_)=>t=.non
 |_=>False
theorem iF{G:List T->Option T}{F:FS}{vs:List V}(hG:∀ts t,ts.length=n->G ts=some t->∃r,F (st0 m ts) []=some r/\EndT t r)(h:spT K n G vs H Q E):
 trS K W F {nx:=fun _ H'=>Q .non H',rt:=Q} (vs.map some++aX (m - vs.length) none) H:=by
 obtain⟨Z,ts,t,hn,hz,r,e,k⟩:=h;obtain⟨⟨fl,ag,C'⟩,e1,e2⟩:=hG ts t hn e
 refine⟨H,Z,[],st0 m ts,[],fl,ag,C',Rel.start hz r,e1,fun ah H' ae R' _=>?_⟩
 cases fl with
 |nx=>
  have:t=.non:=e2;subst this
  exact k .non H' R'.old .non
 |bk=>exact False.elim e2
 |ct=>exact False.elim e2
 |rt u=>exact fun v hv=>k v H' R'.old (R'.dr _ _ _ _ hv e2)
 |ex c=>exact False.elim e2
def aAE(wi:TI)(sc:St->St)(g:TG)(tc:TT)(te:TE):TE:=fun σ H Q=>wi σ H fun J H1=>∀D,H1 D=none->∃W:Nat->Nat->St->Hp->Prop,(∃m,W 0 m (sc σ) (upd H1 D (.lst [])))/\∀i m gf H,W i m gf H->
 (J.stop i H/\Q (.ref D) H)\/(J.go i H/\∀x H',J.yld i H x H'->g x gf H' fun br H2=>tc br H2 fun b H3=>
  if b=true then te br H3 fun y H4=>∃ys m',H4 D=some (.lst ys)/\ys.length<lim/\m'<m/\W (i+1) m' br (upd H4 D (.lst (ys++[y])))else∃m',m'<m/\W (i+1) m' br H3)
open Classical in
noncomputable def kp{α:Type}(C D:Sto)(x:Option α):Option α:=if C<+:D then x else none
theorem aKN{D:Sto}{x:Option α}(h:C<+:D):kp C D x=x:=if_pos h
theorem aEv{x:Option α}:kp C C x=x:=aKN (List.prefix_refl _)
theorem aEq{D:Sto}{x:Option α}{y:α}(h:kp C D x=some y):C<+:D/\x=some y:=by
 unfold kp at h;split at h
 ·exact⟨by assumption,h⟩
 ·cases h
def j3(g:FG)(tc:FB)(fe:FE)(τ:TSt):List T->Sto->Option (List T×Sto)
 | [],C=>some ([],C)
 |t::ts,C=>(g t C τ).bind fun aq=>(tc aq C).bind fun b=>if b.1=true then(fe aq b.2).bind fun y=>kp C y.2 ((j3 g tc fe τ ts y.2).map fun r=>(y.1::r.1,r.2))else kp C b.2 (j3 g tc fe τ ts b.2)
noncomputable def scT(k:Nat)(is:List Nat)(τ:TSt):TSt:=aX k none++is.map fun i=>(τ[i]?).getD none
noncomputable def scV(k:Nat)(is:List Nat)(σ:St):St:=aX k none++is.map fun i=>(σ[i]?).getD none
def Own(k:Nat)(g:FG):Prop:=∀t C τ aq,g t C τ=some aq->aq.length=τ.length/\∀j,k<=j->aq[j]?=τ[j]?
theorem Rel.writeZ{Z:Addr->Prop}{ρ:Rho}{o:HO}(R:Rel K H₀ Z ρ τ C σ H)(hz:Z D)(h0:H₀ D=none)(ho:NT (some o)):Rel K H₀ Z ρ τ C σ (upd H D o)/\mask (upd H D o) Z ρ=mask H Z ρ:=by
 have em:mask (upd H D o) Z ρ=mask H Z ρ:=by
  funext b;unfold mask;split
  ·rfl
  ·rename_i q;rw[fO (by rintro rfl;exact q (.inl hz))]
 refine⟨⟨fun b u q=>?_,R.frs,R.nd,fun b z=>?_,fun i t e=>?_,fun d b e=>?_,R.len,R.lnt⟩,em⟩
 ·rw[fO (by rintro rfl;rw[h0]at q;cases q)]
  exact R.old b u q
 ·by_cases hb:b=D
  ·subst hb;rw[i9];exact ho
  ·rw[fO hb];exact R.zd b z
 ·rw[em];exact R.loc i t e
 ·rw[em];obtain⟨us,ws,ob,h1,h2,h4,h3⟩:=R.cel d b e
  refine⟨us,ws,ob,h1,?_,h4,h3⟩
  rw[fO]
  ·exact h2
  ·rintro rfl
   exact(R.frs b (bF e)).2 hz
theorem aB0{aq:TSt}(hl:aq.length=(scT k is τ).length)(h:∀j,k<=j->aq[j]?=(scT k is τ)[j]?):∀(i:Nat) t,(scT k is τ)[i]?=some (some t)->aq[i]?=some (some t):=fun i t e=>by
 by_cases hi:i<k
 ·unfold scT at e;rw[aT (by simpa using hi),cT,if_pos hi]at e;cases e
 ·rw[h i (by lia)];exact e
theorem sW{J:It}{Z:Addr->Prop}{ρ:Rho}{C':Sto}{P:Sto->Prop}{ts ys:List T}{H1:Hp}
 (R:Rel K H₀ Z ρ τ C σ H1)(hg:Own k g)(w:Wlk K J Z H1 ρ ts P)(hP:P C)(hPm:∀C C2:Sto,C<+:C2->P C->P C2)(hl:ts.length<lim)(e:j3 g tc fe (scT k is τ) ts C=some (ys,C'))(hD:H1 D=none)
 (q:∀p H' ae vs,Rel K H₀ Z ae τ C' σ H'->H' p=none->RTs K (mask H' Z ae) ae ys vs->Step H1 H' ρ ae->Q (.ref p) (upd H' p (.lst vs))):
 ∃W:Nat->Nat->St->Hp->Prop,(∃m,W 0 m (scV k is σ) (upd H1 D (.lst [])))/\∀i m gf H,W i m gf H->
  (J.stop i H/\Q (.ref D) H)\/(J.go i H/\∀x H',J.yld i H x H'->trG K g x gf H' fun br H2=>trT K tc br H2 fun b H3=>
   if b=true then trE K fe br H3 fun y H4=>∃ys m',H4 D=some (.lst ys)/\ys.length<lim/\m'<m/\W (i+1) m' br (upd H4 D (.lst (ys++[y])))else∃m',m'<m/\W (i+1) m' br H3):=by
 obtain⟨nz,nr,n0⟩:=R.fresh_not hD;have hZD:∀a,Z a->a≠D:=fun a z h=>by subst h;exact nz z
 refine⟨fun i m gf H=>∃ae C1 done rest vs,m=rest.length/\ts.drop i=rest/\i<=ts.length/\done.length<=i/\Rel K H₀ (fun a=>Z a\/a=D) ae (scT k is τ) C1 gf H/\H D=some (.lst vs)/\
  RTs K (mask H (fun a=>Z a\/a=D) ae) ae done vs/\Step H1 H ρ ae/\P C1/\∃yr,j3 g tc fe (scT k is τ) rest C1=some (yr,C')/\ys=done++yr,?_,?_⟩
 ·refine⟨ts.length,ρ,C,[],ts,[],rfl,rfl,cV _,bD _,?_,i9,.nil,?_,hP,ys,e,rfl⟩
  ·have sm:Same (mask H1 Z ρ) (mask (upd H1 D (.lst [])) (fun a=>Z a\/a=D) ρ):=fun a o z=>by
    obtain⟨h1,h2,h3⟩:=mC.mp z;have ne:a≠D:=fun z=>by rw[z,hD]at h3;cases h3
    exact nJ (by rintro(z|z);·exact h1 z
                 ·exact ne z) h2 (by rw[fO ne];exact h3)
   refine⟨fun b o z=>?_,fun a ha=>⟨(R.frs a ha).1,?_⟩,R.nd,fun a z=>?_,fun i t z=>?_,fun c a z=>?_,R.len,by simp[scT,scV]⟩
   ·rw[fO (by rintro rfl;rw[n0]at z;cases z)]
    exact R.old b o z
   ·rintro(z|z)
    ·exact(R.frs a ha).2 z
    ·subst z;exact nr ha
   ·by_cases ha:a=D
    ·subst ha;rw[i9];trivial
    ·rw[fO ha];rcases z with z|z
     ·exact R.zd a z
     ·exact absurd z ha
   ·unfold scT at z;by_cases hi:i<k
    ·rw[aT (by simpa using hi),cT,if_pos hi]at z;cases z
    ·rw[bI (by simpa using aOv hi),bH]at z;obtain⟨j,hj,z⟩:=aL.mp z;have oh:τ[j]?=some (some t):=by
      cases q:τ[j]?with
      |none=>rw[q]at z;cases z
      |some u=>rw[q]at z;exact congrArg some z
     obtain⟨v,h1,h2⟩:=R.loc j t oh
     refine⟨v,?_,h2.mono sm (fun c a z=>z)⟩
     unfold scV;rw[bI (by simpa using aOv hi),bH];simp only[eQ]at hj|-;rw[hj];simp[h1]
   ·obtain⟨us,vs,ob,h1,h2,h4,h3⟩:=R.cel c a z
    refine⟨us,vs,ob,h1,?_,h4,h3.mono sm (fun c a z=>z)⟩
    rw[fO (by rintro rfl;rw[hD]at h2;cases h2)]
    exact h2
  ·exact .of0 fun b o z=>by
    rw[fO (by rintro rfl;rw[hD]at z;cases z)]
    exact z
 ·rintro i m gf H ⟨ae,C1,done,rest,vs,rfl,hd,hi,hdl,R1,yx,rd,gh,mr,yr,e1,xf⟩;have ix:∀(c:Nat)(a:Addr),ρ[c]?=some a->ae[c]?=some a:=gh.idx;have smm:Same (mask H1 Z ρ) (mask H (fun a=>Z a\/a=D) ae):=fun a o z=>by
   obtain⟨h1,h2,h3⟩:=mC.mp z;have ne:a≠D:=fun z=>by rw[z,hD]at h3;cases h3
   refine nJ (by rintro(z|z);·exact h1 z
                 ·exact ne z) (gh.kept a o h3 h2).1 (gh.kept a o h3 h2).2
  cases rest with
  |nil=>
   have eh:i=ts.length:=by
    have:ts.length<=i:=by simpa using hd
    lia
   subst eh;cases e1
   refine .inl ⟨w.stop _ _ _ _ _ _ _ R1 smm ix (.inl mr) gh.fz,?_⟩
   have hm:mask (fun b=>if b=D then none else H b) Z ae=mask H (fun a=>Z a\/a=D) ae:=by
    funext a;unfold mask;by_cases ha:a=D
    ·subst ha;rw[if_pos (show(Z a\/a=a)\/a∈ae from .inl (.inr rfl))];split
     ·rfl
     ·exact if_pos rfl
    ·by_cases hz:Z a\/a∈ae
     ·rw[if_pos hz,if_pos (by rcases hz with z|z;·exact .inl (.inl z)
                              ·exact .inr z)]
     ·rw[if_neg hz,if_neg (by rintro((z|z)|z);·exact hz (.inl z)
                              ·exact ha z
                              ·exact hz (.inr z))]
      exact if_neg ha
   have hu:upd (fun b=>if b=D then none else H b) D (.lst vs)=H:=by
    funext b;unfold upd;by_cases hb:b=D
    ·subst hb;rw[if_pos rfl,yx]
    ·rw[if_neg hb];exact if_neg hb
   have st:Step H1 (fun b=>if b=D then none else H b) ρ ae:=⟨fun b o z n=>⟨(gh.kept b o z n).1,by
    show(if b=D then none else H b)=some o;rw[if_neg (by rintro rfl;rw[hD]at z;cases z)]
    exact(gh.kept b o z n).2⟩,gh.pre,fun b ob u z=>by
    show(if b=D then none else H b)=_;rw[if_neg (by rintro rfl;rw[hD]at z;cases z)]
    exact gh.fz b ob u z⟩
   have R2:Rel K H₀ Z ae τ C' σ (fun b=>if b=D then none else H b):=by
    refine⟨fun b o z=>by
     show(if b=D then none else H b)=some o;rw[if_neg (by rintro rfl;rw[n0]at z;cases z)]
     exact R1.old b o z,fun a ha=>⟨(R1.frs a ha).1,fun z=>(R1.frs a ha).2 (.inl z)⟩,R1.nd,fun a z=>(by
     show NT (if a=D then none else H a);rw[if_neg (hZD a z)];exact R1.zd a (.inl z)),fun j t z=>?_,fun c a z=>?_,R1.len,R.lnt⟩
    ·obtain⟨v,h1,h2⟩:=R.loc j t z
     exact⟨v,h1,h2.step st⟩
    ·obtain⟨us,ws,ob,h1,h2,h4,h3⟩:=R1.cel c a z
     refine⟨us,ws,ob,h1,?_,h4,by rw[hm];exact h3⟩
     show(if a=D then none else H a)=_;rw[if_neg (fun z'=>(R1.frs a (bF z)).2 (.inr z'))]
     exact h2
   have fin:=q D (fun b=>if b=D then none else H b) ae vs R2 (if_pos rfl) (by rw[hm,xf,aY];exact rd) st;rw[hu]at fin
   exact fin
  |cons t rest=>
   have ht:ts[i]?=some t:=by
    have:=congrArg (fun l=>l[0]?) hd;simpa using this
   have bi:i<ts.length:=(aR.mp ht).1;have jg:ts.drop (i+1)=rest:=by
    have:=congrArg aP8 hd;simpa using this
   obtain⟨g1,g2⟩:=w.go i t _ _ ae _ C1 gf H ht R1 smm ix (.inl mr) gh.fz
   refine .inr ⟨g1,fun x H' hy=>?_⟩
   obtain⟨smy,rx⟩:=g2 x H' hy;obtain⟨ul,aw⟩:=R1.same smy;unfold j3 at e1;obtain⟨aq,eg,e1⟩:=aK.mp e1;obtain⟨⟨b,C2⟩,et,e1⟩:=aK.mp e1;obtain⟨o1,o2⟩:=hg _ _ _ _ eg
   refine⟨_,_,ae,_,C1,t,aq,ul,rx,eg,fun br R2=>?_⟩
   refine⟨_,_,ae,aq,C1,b,C2,R2,et,fun H3 bb R3 s3=>?_⟩
   have uo:=aw.trans s3;have nD:D∉ae:=fun z=>(R1.frs D z).2 (.inr rfl)
   cases b with
   |false=>
    rw[if_neg (by simp)]at e1;obtain⟨xv,e1⟩:=aEq e1;dsimp only;rw[if_neg (by simp)]
    exact⟨rest.length,by simp,bb,C2,done,rest,vs,rfl,jg,bi,aPu hdl,R3.weak (by rw[o1]) (aB0 o1 o2),(uo.kept _ _ yx nD).2,rd.step uo,gh.trans uo,hPm _ _ xv mr,yr,e1,xf⟩
   |true=>
    rw[if_pos rfl]at e1;dsimp only;rw[if_pos rfl];obtain⟨⟨ty,C3⟩,ee,e1⟩:=aK.mp e1;obtain⟨xv,e1⟩:=aEq e1;obtain⟨⟨yr',C4⟩,e3,e2⟩:=aL.mp e1;cases e2
    refine⟨_,_,bb,aq,C2,ty,C3,R3,ee,fun y H4 jn R4 hy4 s4=>?_⟩
    have oe:=uo.trans s4;have rd4:=rd.step oe;obtain⟨R5,em⟩:=R4.writeZ (D:=D) (o:=.lst (vs++[y])) (.inr rfl) n0 trivial
    refine⟨vs,rest.length,(oe.kept _ _ yx nD).2,by rw[rd.length];lia,by simp,jn,C3,done++[ty],rest,vs++[y],rfl,jg,bi,by simp;lia,R5.weak (by rw[o1]) (aB0 o1 o2),i9,?_,?_,hPm _ _ xv mr,yr',e3,by rw[xf];simp⟩
    ·rw[em]
     exact rd4.append (.cons hy4 .nil)
    ·exact⟨fun b o z n=>⟨((gh.trans oe).kept b o z n).1,by
      rw[fO (by rintro rfl;rw[hD]at z;cases z)]
      exact((gh.trans oe).kept b o z n).2⟩,(gh.trans oe).pre,fun b ob u z=>by
      rw[fO (by rintro rfl;rw[hD]at z;cases z)]
      exact(gh.trans oe).fz b ob u z⟩
theorem aDh{C2:Sto}{c:Nat}{ts:List T}(h:C<+:C2)(e:lc C c=some ts):lc C2 c=some ts:=by
 obtain⟨D,rfl⟩:=h;rw[f9]at e|-;rw[aT (aR.mp e).1];exact e
theorem uK{t:T}{ts:List T}(C C2:Sto)(h:C<+:C2)(e:stays t ts C):stays t ts C2:=by
 unfold stays at*;split
 ·exact aDh h e
 ·trivial
def jE(f:FE)(k:Nat)(is:List Nat)(g:FG)(tc:FB)(fe:FE):FN:=fun τ C=>(f τ C).bind fun p=>(liT p.2 p.1).bind fun ts=>if ts.length<lim then j3 g tc fe (scT k is τ) ts p.2 else none
theorem aHb(hg:Own k g)(h:trN K (jE f k is g tc fe) σ H Q):aAE (aF9 K (trE K f)) (scV k is) (trG K g) (trT K tc) (trE K fe) σ H Q:=by
 obtain⟨H₀,Z,ρ,τ,C,ys,C',R,e,q⟩:=h;unfold jE at e;obtain⟨⟨t,C1⟩,e1,e⟩:=aK.mp e;obtain⟨ts,e2,e⟩:=aK.mp e;split at e
 ·rename_i hl
  refine⟨H₀,Z,ρ,τ,C,t,C1,R,e1,fun v H1 af R1 h1 s1=>?_⟩
  obtain⟨a,vs,ev,qa,r⟩:=R1.li h1 e2;subst ev
  exact⟨a,rfl,⟨vs,qa⟩,fun D hD=>sW R1 hg (aBW R1 h1 e2) (qM e2) uK hl e hD fun p H' ae vs R' hp rv s'=>q p H' ae vs R' hp rv (s1.trans s')⟩
 ·cases e
def lW(f:FE)(k:Nat)(is:List Nat)(g:FG)(tc:FB)(fe:FE):FN:=fun τ C=>(f τ C).bind fun p=>match p.1 with
 | .int j=>if j<400000/\ -(2^62)<=j then j3 g tc fe (scT k is τ) (vH 0 j.toNat) p.2 else none
 |_=>none
theorem aB6(hg:Own k g)(h:trN K (lW f k is g tc fe) σ H Q):aAE (aGs (trA K (e7 f fG))) (scV k is) (trG K g) (trT K tc) (trE K fe) σ H Q:=by
 obtain⟨H₀,Z,ρ,τ,C,ys,C',R,e,q⟩:=h;unfold lW at e;obtain⟨⟨t,C1⟩,e1,e⟩:=aK.mp e;dsimp only at e;split at e
 ·split at e
  ·rename_i hj
   refine⟨H₀,Z,ρ,τ,C,_,C1,R,by simp[e7,fG,e1];rfl,fun vs H1 af R1 h1 s1=>?_⟩
   obtain⟨v,r,rfl,q1,q2⟩:=h1.cons_inv;rw[q2.nil_inv]
   refine⟨_,by rw[q1.int_inv],hj.2,by lia,fun D hD=>sW (P:=fun _=>True) R1 hg uM trivial (fun _ _ _ _=>trivial) (by simp[vH,lim];lia) e hD fun p H' ae vs R' hp rv s'=>q p H' ae vs R' hp rv (s1.trans s')⟩
  ·cases e
 ·cases e
theorem jJ{i:Nat}(h:i<k):Own k (gN i):=fun t C τ aq e=>by
 cases e
 refine⟨by simp,fun j hj=>?_⟩
 rw[aQ (by lia)]
theorem y6{k:Nat}:∀(is:List Nat)(ts:List T)(τ:TSt),(∀i∈is,i<k)->(setAll is ts τ).length=τ.length/\∀j,k<=j->(setAll is ts τ)[j]?=τ[j]?
 | [],_,_,_=>by simp[setAll]
 |i::is,[],_,_=>by simp[setAll]
 |i::is,t::ts,τ,h=>by
  obtain⟨h1,h2⟩:=y6 (k:=k) is ts (τ.set i (some t)) (fun j hj=>h j (aU _ hj));have hi:=h i bJ
  refine⟨by simp[setAll,h1],fun j hj=>?_⟩
  show(setAll is ts (τ.set i (some t)))[j]?=_;rw[h2 j hj,aQ (by lia)]
theorem aDZ(h:∀i∈is,i<k):Own k (gU is):=fun t C τ aq e=>by
 unfold gU at e;obtain⟨ts,e1,e⟩:=aK.mp e;split at e
 ·cases e
  exact y6 is ts τ h
 ·cases e
end
section
variable {K:aO}{σ:St}{H:Hp}
variable{Q:VK}{fa:FN}{fb:FE}{r:List V->Hp->VK->Prop}
theorem iP{f:FE}{Q':VK}(h:trE K f σ H Q)(hq:∀v H',Q v H'->Q' v H'):trE K f σ H Q':=by
 obtain⟨H₀,Z,ρ,τ,C,t,C',R,e,k⟩:=h
 exact⟨H₀,Z,ρ,τ,C,t,C',R,e,fun v H' ae a b c=>hq _ _ (k v H' ae a b c)⟩
theorem qC{f:FN}{Q Q':List V->Hp->Prop}(h:trA K f σ H Q)(hq:∀v H',Q v H'->Q' v H'):trA K f σ H Q':=by
 obtain⟨H₀,Z,ρ,τ,C,t,C',R,e,k⟩:=h
 exact⟨H₀,Z,ρ,τ,C,t,C',R,e,fun v H' ae a b c=>hq _ _ (k v H' ae a b c)⟩
theorem vO{fa:FE}{g:T->T->Sto->Option (T×Sto)}{r:R2}(ho:∀σ H Q x y,(∃t1 t2,trV K σ [t1,t2] [x,y] (g t1 t2) H Q)->r x y H Q)(h:trE K (jA fa fb g) σ H Q):tOp r (trE K fa) (trE K fb) σ H Q:=
 iP (aEK h) fun _ _ q=>iP q fun _ _ q=>ho _ _ _ _ _ q
theorem aNQ{fa:FE}{g:T->T->Sto->Option (List T)}{r:R2}(ho:∀σ H Q x y,(∃t1 t2,trW K σ [t1,t2] [x,y] (g t1 t2) H Q)->r x y H Q)(h:trN K (zA fa fb g) σ H Q):tOp r (trE K fa) (trE K fb) σ H Q:=
 iP (aM3 h) fun _ _ q=>iP q fun _ _ q=>ho _ _ _ _ _ q
theorem aNT{g:List T->Sto->Option (T×Sto)}(ho:∀σ H Q xs,(∃ts,trV K σ ts xs (g ts) H Q)->r xs H Q)(h:trE K (oS fa g) σ H Q):tCB r (trA K fa) σ H Q:=
 qC (aCi h) fun _ _ q=>ho _ _ _ _ q
theorem aNF{g:List T->Sto->Option (List T)}(ho:∀σ H Q xs,(∃ts,trW K σ ts xs (g ts) H Q)->r xs H Q)(h:trN K (vA fa g) σ H Q):tCB r (trA K fa) σ H Q:=
 qC (aGG h) fun _ _ q=>ho _ _ _ _ q
theorem aM2{n:Nat}{F:List T->Option T}{E:XK}(h:trE K (oS fa (kE n F)) σ H Q):aCU (spT K n F) [] E (trA K fa) σ H Q:=
 qC (aCi h) fun vs _ q=>by rw[aY];exact aMb q
noncomputable def gDm(ts:List T)(C:Sto):Option (T×Sto):=match ts with
 | [.int i,.int j]=>if 0<j/\j<1073741824 then some (.tup [.int (i/j),.int (i%j)],C)else none
 |_=>none
noncomputable def aEr(ts:List T)(C:Sto):Option (T×Sto):=match ts with
 | [.int i]=>some (.int i,C)
 | [.bl k]=>some (.int (if k then 1 else 0),C)
 |_=>none
theorem aLO{xs:List V}(h:∃ts,trV K σ ts xs (aEr ts) H Q):(∃i,xs=[.int i]/\Q (.int i) H)\/∃k,xs=[.bl k]/\Q (.int (if k then 1 else 0)) H:=by
 obtain⟨ts,H₀,Z,ρ,τ,C,t,C',R,r,e,k⟩:=h;unfold aEr at e;split at e
 ·obtain⟨v,_,rfl,r1,r⟩:=r.cons_inv;rw[r.nil_inv,r1.int_inv];cases e
  exact .inl ⟨_,rfl,k _ H ρ R .int .refl⟩
 ·obtain⟨v,_,rfl,r1,r⟩:=r.cons_inv;rw[r.nil_inv,r1.bl_inv];cases e
  exact .inr ⟨_,rfl,k _ H ρ R .int .refl⟩
 ·cases e
noncomputable def aIr(t:T)(C:Sto):Option (T×Sto):=match t with
 | .int i=>some (.int (-i),C)
 |_=>none
theorem aNx{x:V}(h:∃t,trV K σ [t] [x] (aIr t) H Q):∃i,x=.int i/\Q (.int (-i)) H:=by
 obtain⟨t0,H₀,Z,ρ,τ,C,t,C',R,r,e,k⟩:=h;obtain⟨_,_,z,r1,r⟩:=r.cons_inv;cases z;unfold aIr at e;split at e
 ·cases e
  exact⟨_,r1.int_inv,k _ H ρ R .int .refl⟩
 ·cases e
end
noncomputable def jG(i j:Int):Bool:= !(decide (Builtin.Int.intBits i>shortFactorBits)&&decide (Builtin.Int.intBits j>shortFactorBits)&&Builtin.Int.intTooBig (Builtin.Int.intBits i+Builtin.Int.intBits j))
noncomputable def insAt{α:Type}(xs:List α)(i:Int)(y:α):List α:=xs.take (if i<0 then(i+(xs.length:Int)).toNat else min i.toNat xs.length)++y::xs.drop (if i<0 then(i+(xs.length:Int)).toNat else min i.toNat xs.length)
def aBN(xs vs:List T):Option (List T):=match vs with
 | [y]=>if xs.length<lim then some (xs++[y])else none
 |_=>none
def aCy(xs vs:List T):Option (List T):=match vs with
 | [.int i,y]=>if xs.length<lim/\ -(2^63)<=i/\i<2^63 then some (insAt xs i y)else none
 |_=>none
noncomputable def aBD:List Int->Int
 | []=>0
 |n::ns=>ns.foldl (fun a b=>if b>a then b else a) n
noncomputable def qN:List Int->Int
 | []=>0
 |n::ns=>ns.foldl (fun a b=>if b<a then b else a) n
abbrev jY(a b:FE):FE:=jA a b (gI fun i j=>.int (i+j))
abbrev mL(a b:FE):FE:=jA a b (gI fun i j=>.int (i - j))
abbrev lH(a b:FE):FE:=jA a b (gIc jG fun i j=>.int (i*j))
abbrev jK(a b:FE):FE:=jA a b (gIc (fun _ j=>decide (0<j)) fun i j=>.int (i%j))
abbrev pR(a b:FE):FE:=jA a b (gIc (fun _ j=>decide (0<j/\j<1073741824)) fun i j=>.int (i/j))
abbrev aJp(a b:FE):FE:=jA a b (gIc (fun i j=>decide (0<=j/\j<=1000000/\i.natAbs<2^64)) fun i j=>.int (i^j.toNat))
abbrev fNeg(a:FE):FE:=fUn a aIr
abbrev fLt(a b:FE):FE:=jA a b (gI fun i j=>.bl (decide (i<j)))
abbrev fGt(a b:FE):FE:=jA a b (gI fun i j=>.bl (decide (j<i)))
abbrev fGe(a b:FE):FE:=jA a b (gI fun i j=>.bl (decide (j<=i)))
abbrev fEq(a b:FE):FE:=jA a b (gEq false)
abbrev fNe(a b:FE):FE:=jA a b (gEq true)
abbrev fIn(a b:FE):FE:=jA a b (gIn false)
abbrev aFZ(a b:FE):FE:=jA a b (gIn true)
abbrev fLeLt(a b c:FE):FE:=uR a b c (fun i j=>decide (i<=j)) (fun i j=>decide (i<j))
abbrev fIx(a b:FE):FE:=jA a b gIx
abbrev aLP(a b:FE):FN:=zA a b aFs
abbrev mD(a:FN):FE:=oS a aFL
abbrev aC0(a:FN):FN:=vA a aEu
abbrev aC8(a:FN):FE:=oS a (aAb (fun _=>true) aQa)
abbrev aAk(a:FN):FE:=oS a (aAb (fun ns=> !ns.isEmpty) qN)
abbrev aMI(a:FN):FE:=oS a (aHm fun bs=>bs.all id)
abbrev aGT(a:FN):FE:=oS a (gI2 fun i j=>if j>i then j else i)
abbrev rN(a:FN):FE:=oS a (gI2 fun i j=>if j<i then j else i)
abbrev tS(a:FN):FE:=oS a aEr
abbrev f7(n:Nat)(F:List T->Option T)(a:FN):FE:=oS a (kE n F)
noncomputable def aMW(c:String):T->Option Bool
 | .non=>some (c=="NoneType")
 | .bl _=>some (c=="bool"||c=="int")
 | .int _=>some (c=="int")
 | .str _=>some (c=="str")
 | .lst _=>some (c=="list")
 | .cell _=>none
 | .tup _=>some (c=="tuple")
 | .exc _=>none
def p6(c:String)(a:FE):FE:=fUn a fun t C=>(aMW c t).map fun b=>(.bl b,C)
abbrev qJ(o:FE)(a:FN):FS:=aFy o a aBN
abbrev aKi(o:FE)(a:FN):FS:=aFy o a aCy
noncomputable def iB:FB:=fun _ C=>some (true,C)
def iX(B:FS)(m:Nat)(ts:List T):Option T:=match B (st0 m ts) []with
 |some (.rt r,_,C)=>dr 3 C r
 |some (.nx,_,_)=>some .non
 |_=>none
theorem gO{B:FS}{m n:Nat}:∀ts t,ts.length=n->iX B m ts=some t->∃r,B (st0 m ts) []=some r/\EndT t r:=fun ts t _ e=>by
 unfold iX at e;split at e
 ·rename_i h;exact⟨_,h,e⟩
 ·rename_i h;cases e;exact⟨_,h,rfl⟩
 ·cases e
end TL
namespace L2
open PySem PySem.Spec PyProof.Rows
variable{X:Cx}{e:Expr}{t':TT}
theorem PE.imp{t t':TE}(h:PE X e t)(hi:∀σ H Q,t' σ H Q->t σ H Q):PE X e t':=fun aa s σ H Q I q=>h aa s σ H Q I (hi σ H Q q)
theorem PT.imp{t:TT}(h:PT X e t)(hi:∀σ H Q,t' σ H Q->t σ H Q):PT X e t':=fun aa s σ H Q I q=>h aa s σ H Q I (hi σ H Q q)
theorem PW.imp{t:TT}(h:PW X e t)(hi:∀σ H Q,t' σ H Q->t σ H Q):PW X e t':=fun wh aa s σ H Q I q=>h wh aa s σ H Q I (hi σ H Q q)
theorem PA.imp{e:List Expr}{t t':TA}(h:PA X e t)(hi:∀σ H Q,t' σ H Q->t σ H Q):PA X e t':=fun pos aa s σ H Q I q=>h pos aa s σ H Q I (hi σ H Q q)
theorem PS.imp{e:Stmt}{t t':TS}(h:PS X e t)(hi:∀D σ H,t' D σ H->t D σ H):PS X e t':=fun aa s σ H D I q=>h aa s σ H D I (hi D σ H q)
theorem PSs.imp{e:List Stmt}{t t':TS}(h:PSs X e t)(hi:∀D σ H,t' D σ H->t D σ H):PSs X e t':=fun aa s σ H D I q=>h aa s σ H D I (hi D σ H q)
theorem PG.imp{t t':TG}(h:PG X e t)(hi:∀v σ H Q,t' v σ H Q->t v σ H Q):PG X e t':=fun aa s σ H v u Q I r q=>h aa s σ H v u Q I r (hi v σ H Q q)
theorem PO.imp{e:Option Expr}{t t':TO}(h:PO X e t)(hi:∀σ H Q,t' σ H Q->t σ H Q):PO X e t':=fun aa s σ H Q I q=>h aa s σ H Q I (hi σ H Q q)
end L2
namespace TL
open PySem PySem.Spec PyProof.Rows L2
theorem lY:lim<=sizeLine:=by unfold lim;rw[sizeLine_eq];decide
section
variable {X:Cx}
theorem aJP:OpR X (binaryOp .Add) (rCatL X.K):=by
 intro aa s σ H x y v u Q I rx ry h;obtain⟨l,b,xs,zs,rfl,rfl,hH,hB,hz,q⟩:=h;cases rx;cases ry;obtain⟨its,r,p,hl⟩:=I.list hH;obtain⟨gx,r2,p2,lz⟩:=I.list hB;obtain⟨⟨cls,dd,data,sl⟩,ho,hc,n,hd⟩:=id p.isList;obtain⟨⟨cls2,dd2,data2,sl2⟩,ho2,hc2,n2,hd2⟩:=id p2.isList;simp only at hc hd hc2 hd2;subst hc hd hc2 hd2;have e1:=r.length;have e2:=r2.length;have fu:=lY;have ea:its.toArray++gx.toArray=(its++gx).toArray:=by simp
 refine concat_meets ⟨_,ho,rfl⟩ ⟨_,ho2,rfl⟩ noFill_list_add seq_list_add PySem.F.slot_list_add PySem.F.entry_list_add (PySem.F.args_list_add_2 _ _)
  (list_addW l b its.toArray gx.toArray n n2 dd dd2 sl sl2 (by rw[bG,bG];lia)) ⟨ho,ho2,?_⟩
 rw[ea]
 exact⟨.ref _,_,I.lnew (t':=s.toks) (r.append r2) (by rw[bB];lia),rfl,q _ I.fresh⟩
def aG9(xs vs:List V):Option (List V):=match vs with
 | [y]=>if xs.length<lim then some (xs++[y])else none
 |_=>none
theorem aML{K:aO}:∀M ρ ts us ws vs xs,RTs K M ρ ts vs->RTs K M ρ us xs->aBN ts us=some ws->∃ys,aG9 vs xs=some ys/\RTs K M ρ ws ys:=by
 intro M ρ ts us ws vs xs h1 h2 e;unfold aBN at e;split at e
 ·obtain⟨v,_,rfl,r1,r2⟩:=h2.cons_inv;rw[r2.nil_inv];split at e
  ·rename_i hl;cases e
   refine⟨vs++[v],?_,h1.append (.cons r1 .nil)⟩
   show(if vs.length<lim then some (vs++[v])else none)=_;rw[if_pos (by rw[h1.length];exact hl)]
  ·cases e
 ·cases e
theorem aL0:MtR X "list.append" (aMi aG9):=by
 intro aa s σ H x vs v us Q I rx rv h;obtain⟨l,xs,ys,ex,hH,e,q⟩:=h;unfold aG9 at e;split at e
 ·split at e
  ·rename_i hl;cases e
   exact aAu aa s σ H x _ v us Q I rx rv ⟨l,xs,_,ex,rfl,hH,bN hl lY,q⟩
  ·cases e
 ·cases e
def aGJ(xs vs:List V):Option (List V):=match vs with
 | [.int i,y]=>if xs.length<lim/\ -(2^63)<=i/\i<2^63 then some (insAt xs i y)else none
 |_=>none
theorem aMu{K:aO}:∀M ρ ts us ws vs xs,RTs K M ρ ts vs->RTs K M ρ us xs->aCy ts us=some ws->∃ys,aGJ vs xs=some ys/\RTs K M ρ ws ys:=by
 intro M ρ ts us ws vs xs h1 h2 e;unfold aCy at e;split at e
 ·obtain⟨v,_,rfl,r1,r2⟩:=h2.cons_inv;obtain⟨v',_,rfl,r2,r3⟩:=r2.cons_inv;rw[r3.nil_inv,r1.int_inv];split at e
  ·rename_i hl;cases e
   refine⟨insAt vs _ v',by
    show(if vs.length<lim/\_ then some (insAt vs _ v')else none)=_;rw[if_pos (by rw[h1.length];exact hl)],?_⟩
   unfold insAt;rw[h1.length]
   exact(h1.take _).append (.cons r2 (h1.drop _))
  ·cases e
 ·cases e
theorem aFS{α:Type}(xs:List α)(i:Int)(y:α):(insAt xs i y).length=xs.length+1:=by
 unfold insAt;rw[bB,aN,d8,aOY]
 lia
theorem Vals.insAt{xs:List V}{us:List Value}{y:V}{u:Value}(h:Vals xs us)(r:RelV y u)(i:Int):Vals (TL.insAt xs i y) (aPe us i u):=by
 unfold TL.insAt aPe;rw[h.length]
 exact(L2.Vals.take _ h).append (.cons r (L2.Vals.drop _ h))
theorem aLU:MtR X "list.insert" (aMi aGJ):=by
 intro aa s σ H x vs v us Q I rx rv h;obtain⟨l,xs,ys,ex,hH,e,q⟩:=h;subst ex;cases rx;unfold aGJ at e;split at e
 ·split at e
  ·rename_i hl;cases e;obtain⟨u1,u2,rfl,r1,r2⟩:=rv.two;obtain⟨t,rfl⟩:=r1;obtain⟨z,its,n,r,lz,eo⟩:=I.lstM hH;have fu:=lY
   refine call_meets PySem.F.slot_list_insert ⟨_,eo,rfl⟩ PySem.F.entry_list_insert (PySem.F.args_list_insert_3 _ _ _) (PySem.AutoSeq1.list_insert_list_int_val_1 l its.toArray n _ t u2 (by rw[fitsIndex_both hl.2.1 hl.2.2];exact bW) (by rw[bG];lia)) ⟨eo,?_⟩
   refine⟨.non,_,I.lset (its':=aPe its _ u2) hH eo ?_ (Vals.insAt r r2 _) ?_,rfl,q⟩
   ·show(its.toArray.extract 0 _).push u2++its.toArray.extract _=_;rw[PySem.W.kl_ins_eq,bG];rfl
   ·rw[aFS];lia
  ·cases e
 ·cases e
theorem aE2(hc:X.calm=true):oV X (.builtin "sum") (aEN X.K (fun _=>true) (fun ns=>ns.sum)):=by
 intro aa s σ H xs us Q I r h;obtain⟨p,ns,rfl,hq,_,q⟩:=h;obtain⟨u,rfl,ru⟩:=vals1 r;cases ru;obtain⟨its,rv,pl,hz⟩:=I.list hq;have hi:=sA rv;obtain⟨ys,hx⟩:=hi.allInts.items;have gk:s.heap.IsList p (intItems ys):=hx ▸ pl.isList
 refine sum_intListG (I.ok.hd hc) gk fun h' tk t' hk=>?_
 have e1:ns=ys.toList.map (·.1):=by
  rw[<-nums_intItems,<-hx]
  exact(show numsOf its.toArray.toList=ns from hi.numsOf).symm
 have e2:preSum (numAt ys) ys.size=ns.sum:=by
  rw[preSum_eq,dR (by simp),e1]
 rw[e2]
 exact⟨.int ns.sum,H,I.kept hk,⟨_,rfl⟩,q⟩
theorem aE8:∀{ns:List Int},ns≠[]->aBD ns∈ns/\∀a∈ns,a<=aBD ns:=by
 have key:∀(ns:List Int)(n:Int),(ns.foldl (fun a b=>if b>a then b else a) n=n\/ns.foldl (fun a b=>if b>a then b else a) n∈ns)/\n<=ns.foldl (fun a b=>if b>a then b else a) n/\∀a∈ns,a<=ns.foldl (fun a b=>if b>a then b else a) n:=by
  intro ns;induction ns with
  |nil=>intro n;simp
  |cons m ns ih=>
   intro n;rw[aOz];obtain⟨h1,h2,h3⟩:=ih (if m>n then m else n);by_cases hm:m>n
   ·rw[if_pos hm]at h1 h2 h3|-
    refine⟨?_,by lia,fun a ha=>?_⟩
    ·rcases h1 with h1|h1
     ·rw[h1];simp
     ·exact .inr (aU _ h1)
    ·rcases bE.mp ha with rfl|ha
     ·exact h2
     ·exact h3 a ha
   ·rw[if_neg hm]at h1 h2 h3|-
    refine⟨?_,h2,fun a ha=>?_⟩
    ·rcases h1 with h1|h1
     ·exact .inl h1
     ·exact .inr (aU _ h1)
    ·rcases bE.mp ha with rfl|ha
     ·lia
     ·exact h3 a ha
 intro ns ay;cases ns with
 |nil=>exact absurd rfl ay
 |cons n ns=>
  obtain⟨h1,h2,h3⟩:=key ns n
  refine⟨?_,fun a ha=>?_⟩
  ·rcases h1 with h1|h1
   ·show aPn (fun a b=>if b>a then b else a) n ns∈n::ns;rw[h1];simp
   ·exact aU _ h1
  ·rcases bE.mp ha with rfl|ha
   ·exact h2
   ·exact h3 a ha
theorem aCg{bs:List Bool}:∀{us:List Value},Vals (bs.map V.bl) us->us=bs.map Value.bool:=by
 induction bs with
 |nil=>intro us r;rw[bC]at r;cases r;rfl
 |cons n ns ih=>
  intro us r;rw[aM]at r;cases r with
  |cons r1 r2=>
   cases r1;rw[ih r2];rfl
theorem aD6(bs:List Bool):((bK bs.length).all fun i=>(bs[i]?).getD true)=bs.all id:=by
 rw[eK,aOf,aOf];constructor
 ·intro h b hb;obtain⟨i,hi,rfl⟩:=List.getElem_of_mem hb;have:=h i (cG.mpr hi);simpa[bA hi]using this
 ·intro h i hi;have eh:=cG.mp hi;simpa[bA eh]using h _ (dB eh)
theorem aIQ{s:Shared}{h':Heap}{o:Obj}(hk:∀b x,b∉[s.heap.objs.size]->(s.heap.push o).get? b=some x->h'.get? b=some x):∀b x,s.heap.get? b=some x->h'.get? b=some x:=
 fun b x e=>hk b x (fun hm=>by rw[bR.mp hm]at e;exact cQ _ (Heap.lt_size e)) (Heap.get?_push_of_some _ e)
theorem aFi(hc:X.calm=true):oV X (.builtin "all") (rBls X.K (fun bs=>bs.all id)):=by
 intro aa s σ H xs us Q I r h;obtain⟨p,bs,rfl,hq,q⟩:=h;obtain⟨u,rfl,ru⟩:=vals1 r;cases ru;obtain⟨its,rv,pl,hz⟩:=I.list hq;have hb:=aCg rv;subst hb;have bi:p<s.heap.objs.size:=pl.lt
 refine call_all_walk (wpAny_pyIter_list pl.isList ?_)
 refine⟨s.heap.objs.size,[s.heap.objs.size,p],[s.heap.objs.size],(bs.map Value.bool).toArray.size,_,_,fun i=>(bs[i]?).getD true,rfl,Walks.list (A:=X.A.in1) (I.ok.hd hc) _ p (bU bi) (bs.map Value.bool).toArray,
  ⟨⟨_,Heap.get?_push_size _ rfl,rfl,rfl⟩,pl.isList.push _⟩,fun i v s' Q' E' hP hQ=>?_,fun h' tk hk=>?_⟩
 ·simp only[List.getElem?_toArray,bH]at hP;cases e:bs[i]?with
  |none=>rw[e]at hP;cases hP
  |some b=>
   rw[e]at hP;cases hP;simp only[e,dS]at hQ
   exact wpAny_truthy_bool hQ
 ·have e:((bK (bs.map Value.bool).toArray.size).all fun i=>(bs[i]?).getD true)=bs.all id:=by
   rw[bG,aS];exact aD6 bs
  rw[e]
  exact⟨.bl _,H,I.kept (aIQ hk),rfl,q⟩
end
section
variable {X:Cx}{aa:List (Addr×Obj)}{σ:L2.St}{H:Hp}{s:Shared}
variable{t1 t2:T}{b:Bool}
theorem aHY{A:Around}{x y:V}{u v:Value}(h1:RT X.K H [] t1 x)(h2:RT X.K H [] t2 y)(r1:RelV x u)(r2:RelV y v)(e:eqF t1 t2=some b):SeqAt.EqAt A s u v b:=by
 unfold eqF at e;split at e<;>first
  | (cases e;done)
  | (cases e
     unfold RT at h1 h2;subst h1 h2;have q:=aLV (A:=A) (s:=s) r1 r2 rfl rfl
     exact q)
theorem aCv{x:V}(h1:RT X.K H [] t1 x)(h2:RT X.K H [] t2 x)(e:eqF t1 t2=some b):b=true:=by
 unfold eqF at e;split at e<;>first
  | (cases e;done)
  | (cases e
     unfold RT at h1 h2;rw[h1]at h2;first|rfl| (cases h2;simp)| (exact nomatch h2))
theorem aCz{e:T->T->Option Bool}{vs:List V}(he:∀t1 t2 x b,RT X.K H [] t1 x->RT X.K H [] t2 x->e t1 t2=some b->b=true):∀{ts us:List T}{vs:List V}{b:Bool},RTs X.K H [] ts vs->RTs X.K H [] us vs->eqL e ts us=some b->b=true
 | [],[],_,b,_,_,q=>by cases q;rfl
 |t::ts,u::us,vs,b,h1,h2,q=>by
  obtain⟨v,r,rfl,a1,a2⟩:=h1.cons_inv;obtain⟨v',r',z,b1,b2⟩:=h2.cons_inv;cases z;unfold eqL at q;obtain⟨c,q1,q⟩:=aK.mp q;obtain⟨d,q2,q⟩:=aL.mp q;rw[he _ _ _ _ a1 b1 q1,aCz (vs:=vs) he a2 b2 q2]at q
  exact q.symm
 | [],_::_,_,_,_,_,q=>by cases q
 |_::_,[],_,_,_,_,q=>by cases q
theorem aG4(I:Inv X aa σ H s):∀(n:Nat)(t1 t2:T)(x:V)(b:Bool),RT X.K H [] t1 x->RT X.K H [] t2 x->eqT n t1 t2=some b->b=true:=by
 intro n;induction n with
 |zero=>intro t1 t2 x b h1 h2 e;exact aCv h1 h2 (by unfold eqT at e;exact e)
 |succ n ih=>
  intro t1 t2 x b h1 h2 e;by_cases hl:∃xs ys,t1=.lst xs/\t2=.lst ys
  ·obtain⟨xs,ys,rfl,rfl⟩:=hl;unfold RT at h1 h2;obtain⟨a,vs,e1,q1,r1⟩:=h1;obtain⟨a',vs',e2,q2,r2⟩:=h2;rw[e1]at e2;cases e2;have:=I.list_inj q1 q2;subst this;unfold eqT at e;rw[if_pos (by rw[<-r1.length,<-r2.length])]at e
   exact aCz (vs:=vs) ih r1 r2 e
  ·have e':eqF t1 t2=some b:=by
    unfold eqT at e;split at e
    ·exact absurd ⟨_,_,rfl,rfl⟩ hl
    ·exact e
   exact aCv h1 h2 e'
theorem aBI{e:T->T->Option Bool}{A:Around}(he:∀t1 t2 x y u v b,RT X.K H [] t1 x->RT X.K H [] t2 y->RelV x u->RelV y v->e t1 t2=some b->SeqAt.EqAt A s u v b):
 ∀{ts us:List T}{vs ws:List V}{is js:List Value}{b:Bool},RTs X.K H [] ts vs->RTs X.K H [] us ws->Vals vs is->Vals ws js->eqL e ts us=some b->
  ∃f:Nat->Bool,(∀j u v,is[j]?=some u->js[j]?=some v->SeqAt.EqAt A s u v (f j))/\(bK is.length).all f=b
 | [],[],_,_,_,_,b,h1,h2,v1,v2,q=>by
   cases q;rw[h1.nil_inv]at v1;cases v1
   exact⟨fun _=>true,fun j u v z=>by simp at z,rfl⟩
 |t::ts,u::us,vs,ws,is,js,b,h1,h2,v1,v2,q=>by
  obtain⟨v,r,rfl,a1,a2⟩:=h1.cons_inv;obtain⟨v',r',rfl,b1,b2⟩:=h2.cons_inv;unfold eqL at q;obtain⟨c,q1,q⟩:=aK.mp q;obtain⟨d,q2,q⟩:=aL.mp q;cases v1 with
  |cons x1 y1=>
   cases v2 with
   |cons x2 y2=>
    obtain⟨f,f1,f2⟩:=aBI he a2 b2 y1 y2 q2
    refine⟨fun j=>match j with|0=>c|j+1=>f j,fun j u v z1 z2=>?_,?_⟩
    ·cases j with
     |zero=>
      simp at z1 z2;subst z1 z2
      exact he _ _ _ _ _ _ _ a1 b1 x1 x2 q1
     |succ j=>exact f1 j u v (by simpa using z1) (by simpa using z2)
    ·rw[aN,aOq,List.all_cons,aPR,<-q,<-f2];rfl
 | [],_::_,_,_,_,_,_,_,_,_,_,q=>by cases q
 |_::_,[],_,_,_,_,_,_,_,_,_,q=>by cases q
theorem aDF(I:Inv X aa σ H s):∀(n:Nat)(A:Around)(t1 t2:T)(x y:V)(u v:Value)(b:Bool),A.units+n<cLine->RT X.K H [] t1 x->RT X.K H [] t2 y->RelV x u->RelV y v->eqT n t1 t2=some b->SeqAt.EqAt A s u v b:=by
 intro n;induction n with
 |zero=>intro A t1 t2 x y u v b hu h1 h2 r1 r2 e;exact aHY h1 h2 r1 r2 (by unfold eqT at e;exact e)
 |succ n ih=>
  intro A t1 t2 x y u v b hu h1 h2 r1 r2 e;by_cases hl:∃xs ys,t1=.lst xs/\t2=.lst ys
  ·obtain⟨xs,ys,rfl,rfl⟩:=hl;have sm:x=y->b=true:=fun z=>by subst z;exact aG4 I _ _ _ _ _ h1 h2 e
   unfold RT at h1 h2;obtain⟨a,vs,e1,q1,k1⟩:=h1;obtain⟨c,ws,e2,q2,k2⟩:=h2;subst e1 e2;cases r1;cases r2;by_cases pd:a=c
   ·subst pd;rw[sm rfl]
    exact SeqAt.EqAt.same _
   ·obtain⟨is,v1,p1,z1⟩:=I.list q1;obtain⟨js,v2,p2,z2⟩:=I.list q2;have l1:=v1.length;have l2:=v2.length;unfold eqT at e;split at e
    ·rename_i ai;obtain⟨f,f1,f2⟩:=aBI (A:=A.in1) (fun t1 t2 x y u v b a1 a2 a3 a4 a5=>ih A.in1 t1 t2 x y u v b (by show A.units+1+n<cLine;lia) a1 a2 a3 a4 a5) k1 k2 v1 v2 e;have q:=SeqAt.EqAt.of_refs pd (SeqAt.RcAt.lists (A:=A) (s:=s) (e:=f) p1.isList p2.isList (by rw[bG,bG,<-l1,<-l2,k1.length,k2.length];exact ai) (by lia) fun j h1 h2=>
      f1 j _ _ (by simp) (by simp))
     rw[bG,f2]at q
     exact q
    ·rename_i ai;cases e
     refine SeqAt.EqAt.of_refs pd (SeqAt.RcAt.lists_lengths p1.isList p2.isList ?_ (by lia))
     rw[bG,bG,<-l1,<-l2,k1.length,k2.length];simpa using ai
  ·have e':eqF t1 t2=some b:=by
    unfold eqT at e;split at e
    ·exact absurd ⟨_,_,rfl,rfl⟩ hl
    ·exact e
   exact aHY h1 h2 r1 r2 e'
end
noncomputable def qL(cells:List (Str×Addr)):List (Str×NameKind)->List (Str×Addr)->Option (List (Str×Addr))
 | [],acc=>some acc
 | (n,k)::r,acc=>if(k==NameKind.free)=true then(match cells.lookup n with
  |some c=>qL cells r ((n,c)::acc)
  |none=>none)else qL cells r acc
theorem x6{env:Env}:∀(ns:List (Str×NameKind))(acc cl:List (Str×Addr)),qL env.cells ns acc=some cl->
 (forIn ns acc fun(x:Str×NameKind) (cs:List (Str×Addr))=>if(x.2==NameKind.free)=true then do let c<-cellOf env x.1;pure (ForInStep.yield ((x.1,c)::cs))else pure (ForInStep.yield cs):Sem (List (Str×Addr)))=pure cl
 | [],acc,cl,e=>by cases e;rfl
 | (n,k)::r,acc,cl,e=>by
   unfold qL at e;rw[List.forIn_cons];split at e
   ·rename_i hk;split at e
    ·rename_i c hc;have:=x6 r _ cl e;simp only[hk,if_true];unfold cellOf;rw[hc]
     exact this
    ·cases e
   ·rename_i hk;have:=x6 r _ cl e;simp only[hk,if_false]
    exact this
theorem aEH{env:Env}{scope:Scope}{cl:List (Str×Addr)}(e:qL env.cells scope.names []=some cl):closureFor scope env=pure cl:=by
 have h:=x6 scope.names [] cl e;unfold closureFor;first
  |exact h
  | (simp only[bind_pure]at*;exact h)
  | (show(forIn scope.names [] _>>=fun r=>pure r)=pure cl;rw[bind_pure];exact h)
theorem tY{cells:List (Str×Addr)}:∀(ns:List (Str×NameKind))(acc cl:List (Str×Addr)),qL cells ns acc=some cl->(∀x c,acc.lookup x=some c->cells.lookup x=some c)->
 (∀x c,cl.lookup x=some c->cells.lookup x=some c)
 | [],acc,cl,e,h=>by cases e;exact h
 | (n,k)::r,acc,cl,e,h=>by
   unfold qL at e;split at e
   ·split at e
    ·rename_i c hc
     refine tY r _ cl e fun x d hx=>?_
     rw[bY]at hx;split at hx
     ·rename_i q;cases hx;rw[eq_of_beq q];exact hc
     ·exact h x d hx
    ·cases e
   ·exact tY r _ cl e h
theorem rK{cells:List (Str×Addr)}:∀(ns:List (Str×NameKind))(acc cl:List (Str×Addr)),qL cells ns acc=some cl->∀x,((x,NameKind.free)∈ns\/∃c,acc.lookup x=some c)->∃c,cl.lookup x=some c
 | [],acc,cl,e,x,h=>by
   cases e;rcases h with h|h
   ·cases h
   ·exact h
 | (n,k)::r,acc,cl,e,x,h=>by
   unfold qL at e;split at e
   ·split at e
    ·rename_i c hc
     refine rK r _ cl e x ?_
     rcases h with h|h
     ·rcases bE.mp h with h|h
      ·cases h
       exact .inr ⟨c,by simp[bY]⟩
      ·exact .inl h
     ·obtain⟨d,hd⟩:=h;by_cases hx:(x==n)=true
      ·exact .inr ⟨c,by rw[bY,hx]⟩
      ·refine .inr ⟨d,?_⟩
       rw[bY];simp only[hx]
       exact hd
    ·cases e
   ·rename_i hk
    refine rK r _ cl e x ?_
    rcases h with h|h
    ·rcases bE.mp h with h|h
     ·cases h;exact absurd rfl hk
     ·exact .inl h
    ·exact .inr h
abbrev gZ(X:Cx)(N:List Str)(scope:Scope)(cl:List (Str×Addr))(C:Addr)(s3:Shared)(H3:Hp)(fp:List Addr):Cx:=
 {X with N:=N,s₀:=s3,H₀:=H3,env:=compEnvC scope cl C X.env,outer:=X.stack,stack:=X.stack,ex:=fp,fn:=fun _=>false,pn:=[],xe:=fun _ _=>False}
theorem n5{env:Env}:∀{names:List (Str×NameKind)}{x:Str},(∀y∈names,y.2≠ .cell)->
 ((names.map fun(n,k)=>if(k==NameKind.free&&env.scope.kind== .function&&env.kindOf n==some .cell)=true then(n,NameKind.cell)else(n,k)).lookup x=some .cell\/
  (names.map fun(n,k)=>if(k==NameKind.free&&env.scope.kind== .function&&env.kindOf n==some .cell)=true then(n,NameKind.cell)else(n,k)).lookup x=some .free)->(x,NameKind.free)∈names
 | [],x,_,h=>by rcases h with h|h<;>simp at h
 | (n,k)::r,x,hc,h=>by
   have ih:= @n5 env r x (fun y hy=>hc y (aU _ hy));have hk:k≠ .cell:=hc (n,k) bJ;rw[aM]at h;by_cases hx:(x==n)=true
   ·have xi:x=n:=eq_of_beq hx;subst xi;by_cases gz:(k==NameKind.free&&env.scope.kind== .function&&env.kindOf x==some .cell)=true
    ·have:k=.free:=by
      rw[aOZ,aOZ]at gz
      exact eq_of_beq gz.1.1
     subst this
     exact bJ
    ·simp only[if_neg gz,bY,hx]at h;rcases h with h|h
     ·cases h;exact absurd rfl hk
     ·cases h;exact bJ
   ·refine aU _ (ih ?_)
    by_cases gz:(k==NameKind.free&&env.scope.kind== .function&&env.kindOf n==some .cell)=true
    ·simp only[if_pos gz,bY,hx]at h
     exact h
    ·simp only[if_neg gz,bY,hx]at h
     exact h
structure nV(X:Cx)(own fr:List Str)(is:List Nat)(scope:Scope)(cl:List (Str×Addr)):Prop where
 clos:qL X.env.cells scope.names []=some cl
 cell:∀y∈scope.names,y.2≠ .cell
 kind:scope.kind=.function
 names:∀y∈scope.names,y.2=.local->scope.names.lookup y.1=some .local
 pick:is.map (fun i=>X.N[i]?)=fr.map some
 kx:fr.all (fun x=>X.env.kindOf x==some .cell||X.env.kindOf x==some .free)=true
 ky:fr.all (fun x=>(relabel scope X.env).names.lookup x==some .cell||(relabel scope X.env).names.lookup x==some .free)=true
section
variable {X:Cx}{own fr:List Str}{is:List Nat}{scope:Scope}{cl:List (Str×Addr)}
variable{aa:List (Addr×Obj)}{σ:L2.St}{s:Shared}{fp:List Addr}{bf iter tg:Expr}{ifs:List Expr}{pos:Pos}{te:TE}{wi:TI}
theorem aEc{x:Option NameKind}(h:(x==some .cell||x==some .free)=true):x=some .cell\/x=some .free:=by
 rw[Bool.or_eq_true]at h;rcases h with h|h
 ·exact .inl (eq_of_beq h)
 ·exact .inr (eq_of_beq h)
theorem aIn{H:Hp}{bc:Heap}{tk:Nat}(k:nV X own fr is scope cl)(I:Inv X aa σ H s)(hf:∀b∈fp,uA X aa H b/\b<s.heap.objs.size)
 (hn:bc.Ns s.heap.objs.size (fun x=>([]:List (Str×Value)).reverse.lookup x))(hs:Heap.SameBut s.heap.objs.size (s.heap.push {cls:=.type "dict",data:=.dict #[]}) bc):
 Inv (gZ X (own++fr) scope cl s.heap.objs.size s H fp) [] (scV own.length is σ) H {s with heap:=bc,toks:=tk}:=by
 have hk:∀b o,s.heap.get? b=some o->bc.get? b=some o:=fun b o e=>(hs.2 b (bU (Heap.lt_size e))).trans (Heap.get?_push_of_some _ e)
 have sub:=tY _ _ _ k.clos (fun x c z=>by simp at z);have la:∀x c,cl.lookup x=some c->∃v,s.heap.IsCell c v:=fun x c e=>I.cell x c (sub x c e)
 have lb:∀{c v},s.heap.IsCell c v->bc.IsCell c v:=fun⟨o,ho,hd⟩=>⟨o,hk _ o ho,hd⟩
 have cne:∀x c,cl.lookup x=some c->c≠s.heap.objs.size:=fun x c e z=>by
  obtain⟨v,o,ho,_⟩:=la x c e
  exact absurd (z ▸ Heap.lt_size ho) (cQ _)
 refine⟨⟨I.ok.mod,k.kind,I.ok.glob,I.ok.blt,bD _,fun x y c h1 h2=>I.ok.inj x y c (sub x c h1) (sub y c h2),fun x hx=>?_,fun x c h=>(by cases h),I.ok.hd,I.ok.frames,.inl rfl,fun b hb=>⟨bU (hf b hb).2,fun x c e=>(hf b hb).1.2.2.2.2.1 x c (sub x c e)⟩,
  fun b o e=>I.bs b o e,cA I.ok.bsz I.sz,fun b o e hb=>?_,fun b hb z=>?_,I.stack,I.stkFree⟩,
  rfl,I.bare,Un.kept hk,⟨_,hn,fun i x v h1 h2 h3=>?_⟩,fun x c e=>?_,I.hok.fresh (bD _),fun x c e=>I.freeC x c (sub x c e),fun p hp=>absurd hp (by simp),I.hok.kept hk,?_⟩
 ·have xi:(relabel scope X.env).names.lookup x=some .cell\/(relabel scope X.env).names.lookup x=some .free:=hx
  exact rK _ _ _ k.clos x (.inl (n5 k.cell xi))
 ·rcases(hf b hb).1.2.2.2.1 with z|z
  ·exact I.ok.noex b o e z
  ·exact absurd (bN (Heap.lt_size e) (cA I.ok.bsz z)) (cQ _)
 ·rcases bE.mp (I.stkSub b z)with q|q
  ·exact(hf b hb).1.2.1 q
  ·exact(hf b hb).1.2.2.1 q
 ·
  have hi:¬i<own.length:=fun hi=>by
   unfold scV at h2;rw[aT (by simpa using hi),cT,if_pos hi]at h2;cases h2
  have eh:=aOv hi;unfold scV at h2;rw[bI (by simpa using eh),bH]at h2;simp only[eQ]at h2;obtain⟨j,hj,z⟩:=aL.mp h2;have hσ:σ[j]?=some (some v):=by
   cases q:σ[j]?with
   |none=>rw[q]at z;cases z
   |some u=>rw[q]at z;exact congrArg some z
  have kt:fr[i - own.length]?=some x:=by
   have:(own++fr)[i]?=some x:=h1;rw[bI eh]at this
   exact this
  have hN:X.N[j]?=some x:=by
   have:=congrArg (fun l=>l[i - own.length]?) k.pick;simp only[bH,hj,kt,aOA]at this
   exact cO.inj this
  have uv:x∈fr:=bF kt;have kx:=aEc (aOf.mp k.kx x uv);have ky:=aEc (aOf.mp k.ky x uv);obtain⟨m,_,hl⟩:=I.loc
  obtain⟨u,r,l⟩:=hl j x v hN hσ (by rcases kx with z|z;·exact .inr (.inl z)
                                    ·exact .inr (.inr z))
  refine⟨u,r,.inr ⟨ky,?_⟩⟩
  rcases l with⟨z,_⟩| ⟨_,c,e,q⟩
  ·rcases kx with w|w<;>(rw[w]at z;cases z)
  ·obtain⟨d,hd⟩:=rK _ _ _ k.clos x (.inl (n5 k.cell ky));have:=sub x d hd;rw[e]at this;cases this
   exact⟨c,hd,lb q⟩
 ·obtain⟨v,q⟩:=la x c e
  exact⟨v,lb q⟩
 ·unfold scV;show _=(own++fr).length;have:=congrArg aPF k.pick;simp only[aS]at this;simp[this]
theorem aFC{gf:L2.St}{H H':Hp}{s':Shared}{h':Heap}(I:Inv X aa σ H s)(hf:∀b∈fp,uA X aa H b)
 (J:Inv (gZ X (own++fr) scope cl s.heap.objs.size s H fp) [] gf H' s')(hs:Heap.SameBut s.heap.objs.size s'.heap h'):Inv X aa σ H' {s' with heap:=h'}:=by
 have u:Un (frs X.stack) fp H H' s.heap s'.heap:=J.base;have ne:∀b o,s.heap.get? b=some o->b≠s.heap.objs.size:=fun b o e=>bU (Heap.lt_size e)
 have u':Un (frs X.stack) fp H H' s.heap h':=⟨fun b o e n h1 h2=>(hs.2 b (ne b o e)).trans (u.keep b o e n h1 h2),fun b o e n h1 h2=>by
  obtain⟨sl,q⟩:=u.slot b o e n h1 h2
  exact⟨sl,(hs.2 b (ne b o e)).trans q⟩,u.free,fun b o e h2=>by
  obtain⟨o',q⟩:=u.there b o e h2
  exact⟨o',(hs.2 b (ne b o e)).trans q⟩,u.tups,u.frzs,u.tbls⟩
 have dq:H' s.heap.objs.size=none:=J.free;have hok:HOk X.prog X.w H' h':=fun b ob e=>by
  refine(J.hok b ob e).stay (fun c w' hc q=>(hs.2 c ?_).trans q) (fun _ q=>q) fun _ _ q=>q
  rintro rfl;rcases hc with rfl|hc
  ·rw[dq]at e;cases e
  ·rw[dq]at hc;cases hc
 exact I.call' (s':={s' with heap:=h'}) J.os u' hok J.bare fun b hb=>⟨(hf b hb).2.2.2.1,(hf b hb).2.1,(hf b hb).2.2.2.2.1,(hf b hb).2.2.2.2.2⟩
theorem yY{prog:Program}{w:World}{A:Around}{R:Result->Shared->Prop}{target:Expr}{scope:Scope}{it acc:Value}{env:Env}(I:Nat->Shared->Prop)
 (turn:∀n s,I n s->wpAny (model prog w) A (pyNext it) (fun r aj=>match r with
  |none=>R (.ok .next) aj
  |some v=>wpAny (model prog w) A (letOwnedTupleGo target it v) (fun _ aj=>wpAny (model prog w) A (assign target env v) (fun _ bq=>
   wpAny (model prog w) A (forIn ifs true fun c r=>if r=true then do let ok<-isTrue c env (eval c env);pure (ForInStep.yield ok)else pure (ForInStep.yield r)) (fun ok bz=>
    if ok=true then wpAny (model prog w) A (eval bf env) (fun x jo=>
     wpAny (model prog w) A (call (.builtin "list.append") [acc,x]) (fun _ qh=>∃m,m<n/\I m qh) (fun _ _=>False) jo) (fun _ _=>False) bz
    else∃m,m<n/\I m bz) (fun _ _=>False) bq) (fun _ _=>False) aj) (fun _ _=>False) aj) (fun _ _=>False) s)
 (n:Nat)(h:I n s):
 codeAny (model prog w) A (.compLoop (.ListComp bf [⟨target,iter,ifs,0⟩] scope pos) 0 it acc env) R s:=by
 refine codeAny_loop rfl I (fun n s hI=>?_) n h
 show wpAny _ A ((compTurn (.ListComp bf [⟨target,iter,ifs,0⟩] scope pos) 0 it acc env).onRaise (fun x=>do noteFrame x env;theTreesLotGoes x)) _ _ s
 refine wpAny_noted ?_
 rw[compTurn_list]
 refine wpAny_bind (wpAny_standAt (wpAny_bind (wpAny_mono (turn n s hI) (fun r aj bc=>?_) fun _ _ h'=>h'.elim)))
 cases r with
 |none=>exact wpAny_pure bc
 |some v=>
  refine wpAny_bind (wpAny_mono bc (fun _ aj bc=>?_) fun _ _ h'=>h'.elim)
  refine wpAny_bind (wpAny_mono bc (fun _ bq ck=>wpAny_bind (wpAny_mono ck (fun ok bz jq=>?_) fun _ _ h'=>h'.elim)) fun _ _ h'=>h'.elim)
  cases ok with
  |false=>exact wpAny_pure ⟨rfl,jq⟩
  |true=>
   exact wpAny_bind (wpAny_bind (wpAny_mono jq (fun x jo wy=>wpAny_bind (wpAny_mono wy (fun _ qh wx=>wpAny_pure (wpAny_pure ⟨rfl,wx⟩)) fun _ _ h'=>h'.elim)) fun _ _ h'=>h'.elim))
def PTs(X:Cx)(ifs:List Expr)(t:TT):Prop:=
 ∀(aa:List (Addr×Obj))(s:Shared)(σ:L2.St)(H:Hp)(Q:Bool->Hp->Prop),Inv X aa σ H s->t σ H Q->
  wpAny (model X.prog X.w) X.A (forIn ifs true fun c r=>if r=true then do let ok<-isTrue c X.env (eval c X.env);pure (ForInStep.yield ok)else pure (ForInStep.yield r)) (TP X aa σ Q) X.xe s
theorem aKE:PTs X [] (fun _ H Q=>Q true H):=fun _ _ _ H _ I h=>wpAny_tests_nil ⟨H,I,h⟩
theorem aJI{c:Expr}{t:TT}(h:PT X c t):PTs X [c] t:=fun aa s σ H Q I q=>wpAny_tests_one (h aa s σ H Q I q)
theorem zF{g:TG}{tc:TT}{H2:Hp}{s2:Shared}{it:Addr}{tn:Nat->Heap->Prop}{J:It}{Q:VK}
 {RR:Value->Addr->Result->Shared->Prop}{E:Value->Shared->Prop}
 (hc:X.calm=true)(k:nV X own fr is scope cl)
 (hg:∀C s3 H3 fp,PG (gZ X (own++fr) scope cl C s3 H3 fp) tg g)(ht:∀C s3 H3 fp,PTs (gZ X (own++fr) scope cl C s3 H3 fp) ifs tc)(he:∀C s3 H3 fp,PE (gZ X (own++fr) scope cl C s3 H3 fp) bf te)
 (I2:Inv X aa σ H2 s2)(T:Turn X.prog X.w X.K tg J fp it tn)(kb:tn 0 s2.heap)(f2:∀b∈fp,uA X aa H2 b)
 (q:∀D,H2 D=none->∃W:Nat->Nat->L2.St->Hp->Prop,(∃m,W 0 m (scV own.length is σ) (upd H2 D (.lst [])))/\∀i m gf H,W i m gf H->
  (J.stop i H/\Q (.ref D) H)\/(J.go i H/\∀x H',J.yld i H x H'->g x gf H' fun br H2=>tc br H2 fun b H3=>
   if b=true then te br H3 fun y H4=>∃ys m',H4 D=some (.lst ys)/\ys.length<lim/\m'<m/\W (i+1) m' br (upd H4 D (.lst (ys++[y])))else∃m',m'<m/\W (i+1) m' br H3))
 (hRR:∀D C H' s',(∃m,s'.heap.Ns C m)->(∀h',Heap.SameBut C s'.heap h'->Inv X aa σ H' {s' with heap:=h'})->H' C=none->s2.heap.objs.size<=C->Q (.ref D) H'->RR (.ref D) C (.ok .next) s'):
 wpAny (model X.prog X.w) X.A (newList []) (fun acc bz=>wpAny (model X.prog X.w) X.A (newFunctionEnv scope X.env.globals cl [] X.env.qual none .none (some X.env)) (fun ui jo=>
  codeAny (model X.prog X.w) X.A (.compStart (.ListComp bf [⟨tg,iter,ifs,0⟩] scope pos) 0 (.ref it) acc {ui with scope:=relabel scope X.env}) (RR acc ui.locals) jo) E bz) E s2:=by
 refine wpAny_newObj_type (wpAny_newFunctionEnv k.cell (by intro y hy;simp at hy) (fun bc lv io=>?_) k.kind)
 have I3:Inv X aa σ (upd H2 s2.heap.objs.size (.lst [])) {s2 with heap:=s2.heap.push {cls:=.type "list",data:=.seq ([]:List Value).toArray}}:=I2.lnew (t':=s2.toks) (its:=[]) .nil (cV _);have hD:H2 s2.heap.objs.size=none:=I2.fresh;obtain⟨W,⟨m0,w0⟩,turn⟩:=q _ hD;have bi:∀b∈fp,b<s2.heap.objs.size:=fun b hb=>by
  obtain⟨o,e,_⟩:=T.obj _ _ kb b hb
  exact Heap.lt_size e
 have f3:∀b∈fp,uA X aa (upd H2 s2.heap.objs.size (.lst [])) b/\b<(s2.heap.push {cls:=.type "list",data:=.seq ([]:List Value).toArray}).objs.size:=fun b hb=>
  ⟨⟨by rw[fO (bU (bi b hb))];exact(f2 b hb).1,(f2 b hb).2⟩,by rw[Heap.size_push];exact aOS (bi b hb)⟩
 have J0:=aIn (tk:=s2.toks+([]:List (Str×Value)).length) k I3 f3 lv io;have kept:∀b o,s2.heap.get? b=some o->bc.get? b=some o:=fun b o e=>(io.2 b (by
  show b≠(s2.heap.push _).objs.size;rw[Heap.size_push]
  exact bU (aOS (Heap.lt_size e)))).trans (Heap.get?_push_of_some _ (Heap.get?_push_of_some _ e))
 have st4:tn 0 bc:=T.keep _ _ _ kb fun b _ o e=>kept b o e
 have ff:∀{H':Hp},(∀b∈fp,H' b=none)->∀b∈fp,uA (gZ X (own++fr) scope cl (s2.heap.push {cls:=.type "list",data:=.seq ([]:List Value).toArray}).objs.size {s2 with heap:=s2.heap.push {cls:=.type "list",data:=.seq ([]:List Value).toArray}} (upd H2 s2.heap.objs.size (.lst [])) fp) [] H' b:=fun hn b hb=>
  ⟨hn b hb,bU (f3 b hb).2,fun z=>J0.ok.exfs b hb z,.inl hb,fun x c e=>(J0.ok.exf b hb).2 x c e,fun p hp=>absurd hp (by simp)⟩
 have loop:codeAny (model X.prog X.w) X.A (.compLoop (.ListComp bf [⟨tg,iter,ifs,0⟩] scope pos) 0 (.ref it) (.ref s2.heap.objs.size) (compEnvC scope cl (s2.heap.push {cls:=.type "list",data:=.seq ([]:List Value).toArray}).objs.size X.env))
  (RR (.ref s2.heap.objs.size) (s2.heap.push {cls:=.type "list",data:=.seq ([]:List Value).toArray}).objs.size) {s2 with heap:=bc,toks:=s2.toks+([]:List (Str×Value)).length}:=by
  refine yY (fun n s'=>∃i ah H',Inv (gZ X (own++fr) scope cl (s2.heap.push {cls:=.type "list",data:=.seq ([]:List Value).toArray}).objs.size {s2 with heap:=s2.heap.push {cls:=.type "list",data:=.seq ([]:List Value).toArray}} (upd H2 s2.heap.objs.size (.lst [])) fp) [] ah H' s'/\tn i s'.heap/\(∀b∈fp,H' b=none)/\W i n ah H') ?_ m0
   ⟨0,_,_,J0,st4,fun b hb=>(f3 b hb).1.1,w0⟩
  rintro n s3 ⟨i,cg,H3,I3',qj,uf,w3⟩;rcases turn i n cg H3 w3 with⟨stop,qn⟩| ⟨go,step⟩
  ·refine thn (T.done (gZ X (own++fr) scope cl _ _ _ fp) rfl rfl rfl hc i [] s3 cg H3 (fun _ _=>False) I3' (ff uf) qj stop) fun r s4 ⟨hr,I4⟩=>?_
   subst hr;obtain⟨m,hm,_⟩:=I4.loc
   refine hRR _ _ H3 s4 ⟨m,hm⟩ (fun h' oo=>?_) I4.free ?_ qn
   ·have:=aFC I3 (fun b hb=>(f3 b hb).1) I4 oo
    exact this
   ·show s2.heap.objs.size<=(s2.heap.push _).objs.size;rw[Heap.size_push]
    exact aP2 _
  ·refine thn (T.item (gZ X (own++fr) scope cl _ _ _ fp) rfl rfl rfl hc i [] s3 cg H3 (fun _ _=>False) I3' (ff uf) qj go) fun r s4 ⟨u,hr,h4⟩=>?_
   subst hr
   refine thn h4 fun _ s5 zz=>?_
   obtain⟨x,H5,I5,r5,y5,lf,za⟩:=zz;have I5':=I5.pinned (ff za) (T.obj _ _ lf)
   refine thn (hg _ _ _ _ _ s5 cg H5 x u _ I5' r5 (step x H5 y5)) fun _ s6 zz=>?_
   obtain⟨oa,H6,I6,q6⟩:=zz
   refine thn (ht _ _ _ _ _ s6 oa H6 _ I6 q6) fun ok s7 ⟨H7,I7,q7⟩=>?_
   have back:∀{ef:L2.St}{H7:Hp}{s7:Shared}{m':Nat},Inv (gZ X (own++fr) scope cl (s2.heap.push {cls:=.type "list",data:=.seq ([]:List Value).toArray}).objs.size {s2 with heap:=s2.heap.push {cls:=.type "list",data:=.seq ([]:List Value).toArray}} (upd H2 s2.heap.objs.size (.lst [])) fp) ([]++wQ fp s5.heap) ef H7 s7->m'<n->W (i+1) m' ef H7->
    ∃m,m<n/\∃i ah H',Inv (gZ X (own++fr) scope cl (s2.heap.push {cls:=.type "list",data:=.seq ([]:List Value).toArray}).objs.size {s2 with heap:=s2.heap.push {cls:=.type "list",data:=.seq ([]:List Value).toArray}} (upd H2 s2.heap.objs.size (.lst [])) fp) [] ah H' s7/\tn i s7.heap/\(∀b∈fp,H' b=none)/\W i m ah H':=fun {ef H7 s7 m'} I7 hm w7=>by
    refine⟨m',hm,i+1,ef,H7,I7.unpinned,T.keep _ _ _ lf fun b hb o e=>(I7.pin (b,o) (cE _ (cE _ (pS hb e)))).1,fun b hb=>?_,w7⟩
    obtain⟨o,e,d⟩:=T.obj _ _ lf b hb
    exact(I7.pin (b,o) (cE _ (cE _ (pS hb e)))).2.1
   cases ok with
   |false=>
    try dsimp only at q7
    try dsimp only
    rw[if_neg (by simp)]at q7|-;obtain⟨m',hm,w7⟩:=q7
    exact back I7 hm w7
   |true=>
    try dsimp only at q7
    try dsimp only
    rw[if_pos rfl]at q7|-
    refine thn (he _ _ _ _ _ s7 oa H7 _ I7 q7) fun y s8 zz=>?_
    obtain⟨v,H8,I8,r8,ys,m',e8,l8,hm,w8⟩:=zz
    refine thn (aAu _ s8 oa H8 (.ref s2.heap.objs.size) [v] (.ref s2.heap.objs.size) [y] (fun _ H9=>W (i+1) m' oa H9) I8 rfl (.cons r8 .nil) ⟨_,ys,v,rfl,rfl,e8,bN l8 lY,w8⟩) fun _ s9 zz=>?_
    obtain⟨_,H9,I9,_,w9⟩:=zz
    exact back I9 hm w9
 exact codeAny_compStart_list loop (T.self X.A 0 _ _ _ st4 loop)
theorem aBA{g:TG}{tc:TT}(hc:X.calm=true)(k:nV X own fr is scope cl)(hi:PI X tg iter wi)
 (hg:∀C s3 H3 fp,PG (gZ X (own++fr) scope cl C s3 H3 fp) tg g)(ht:∀C s3 H3 fp,PTs (gZ X (own++fr) scope cl C s3 H3 fp) ifs tc)(he:∀C s3 H3 fp,PE (gZ X (own++fr) scope cl C s3 H3 fp) bf te)
 (hs:∀x,foldedSetIterable iter X.env x=pure x:=by intro _;rfl):PE X (.ListComp bf [⟨tg,iter,ifs,0⟩] scope pos) (aAE wi (scV own.length is) g tc te):=by
 intro aa s σ H Q I h;rw[eval_ListComp]
 refine wpAny_comprehension_free (use:=none) rfl hs (aEH k.clos) k.kind k.names (thn (hi aa s σ H _ I h) fun v s1 h1=>thn h1 fun uu s2 h2=>?_)
 obtain⟨it,fp,tn,J,H2,e,I2,T,kb,f2,q⟩:=h2;subst e
 refine zF (RR:=fun acc C=>compPost (model X.prog X.w) X.A X.xe none (EP X aa σ Q) acc C) hc k hg ht he I2 T kb f2 q ?_
 intro D C H' s' hm hI _ _ qD;obtain⟨m,hm⟩:=hm
 exact⟨m,hm,fun h' oo=>⟨.ref D,H',hI h' oo,rfl,qD⟩⟩
theorem rW{ao ca:Pos}{g:TG}{tc:TT}{i:Nat}{x:Str}(hN:X.N.Nodup)(hx:X.N[i]?=some x)(sr:X.env.scope.names.lookup x=some .local)
 (hc:X.calm=true)(k:nV X own fr is scope cl)(hi:PI X tg iter wi)
 (hg:∀C s3 H3 fp,PG (gZ X (own++fr) scope cl C s3 H3 fp) tg g)(ht:∀C s3 H3 fp,PTs (gZ X (own++fr) scope cl C s3 H3 fp) ifs tc)(he:∀C s3 H3 fp,PE (gZ X (own++fr) scope cl C s3 H3 fp) bf te)
 (je:swapsWith (.ListComp bf [⟨tg,iter,ifs,0⟩] scope pos) (some (.Name x ao)) ca.line X.env=pure true)
 (hs:∀x,foldedSetIterable iter X.env x=pure x:=by intro _;rfl):PS X (.Assign [.Name x ao] (.ListComp bf [⟨tg,iter,ifs,0⟩] scope pos) ca) (aDo (aAE wi (scV own.length is) g tc te) (tI i)):=by
 intro aa s σ H D I h;rw[exec_Assign_Name_used _ _ _ _ je]
 refine wpAny_bind (wpAny_standAt (wpAny_bind ?_))
 show wpAny _ X.A (do let _<-comprehension (.ListComp bf [⟨tg,iter,ifs,0⟩] scope pos) scope X.env _ (newList []) false (eval iter X.env) (some (assign (.Name x ao) X.env))) _ _ s
 refine wpAny_bind (wpAny_mono (wpAny_comprehension_free (use:=some (assign (.Name x ao) X.env)) (Q:=fun _ s'=>SP X aa D .next s') rfl hs (aEH k.clos) k.kind k.names
  (thn (hi aa s σ H _ I h) fun v s1 h1=>thn h1 fun uu s2 h2=>?_)) (fun _ s' hq=>wpAny_pure (wpAny_pure hq)) fun _ _ e=>e)
 obtain⟨it,fp,tn,J,H2,e,I2,T,kb,f2,q⟩:=h2;subst e
 refine zF (Q:=fun v H1=>D.nx (σ.set i (some v)) H1) (RR:=fun acc C=>compPost (model X.prog X.w) X.A X.xe (some (assign (.Name x ao) X.env)) (fun _ s'=>SP X aa D .next s') acc C) hc k hg ht he I2 T kb f2 q ?_
 intro A C H' s' hm hI hC ay qD;obtain⟨m,hm⟩:=hm;show wpAny _ X.A (assign (.Name x ao) X.env (.ref A)) _ _ _;have I':Inv X aa σ H' s':=hI s'.heap (Heap.SameBut.refl ..)
 refine wpAny_assign_Name (aAC (v:=.ref A) I' hN hx (.inl sr) rfl (fun qm I'' bv=>?_) (.inr sr))
 obtain⟨a,sb,ha⟩:=bv;have old:∀b o,s2.heap.get? b=some o->C≠b:=fun b o e z=>by
  subst z
  exact absurd (bN (Heap.lt_size e) ay) (cQ _)
 have hl:∃o,s2.heap.get? X.env.locals=some o:=let ⟨_,⟨o,_,_,ho,_⟩,_⟩:=I2.loc;⟨o,ho⟩
 have va:∀y c,X.env.cells.lookup y=some c->C≠c:=fun y c e=>by
  obtain⟨v,o,ho,_⟩:=I2.cell y c e
  exact old c o ho
 have haC:C≠a:=by
  rcases ha with rfl|ha
  ·obtain⟨o,ho⟩:=hl
   exact old _ o ho
  ·exact va x a ha
 refine⟨m,hm.sameBut sb haC,fun h3 hs3=>⟨σ.set i (some (.ref A)),H',?_,qD⟩⟩
 refine I''.turned (t':=qm.toks) (fun b o hb e=>(hs3.2 b hb).trans e) hC ?_ (.inr (cA I2.sz ay)) (fun y c e=>Ne.symm (va y c e)) fun p hp=>?_
 ·obtain⟨o,ho⟩:=hl
  exact old _ o ho
 ·exact Ne.symm (old _ _ (I2.pin p hp).1)
end
section
variable {X:Cx}
variable{A:Around}{s:Shared}{rs:List (Value×Bool)}
theorem aGN(hu:X.A.units+20<cLine):OpR X (compareOp .Eq) (aMT X.K false):=by
 intro aa s σ H x y u v Q I rx ry h;obtain⟨t1,t2,b,h1,h2,e,q⟩:=h;have q':Q (.bl b) H:=q;have fin:EP X aa σ Q (.bool b) s:=⟨.bl b,H,I,rfl,q'⟩;by_cases hl:∃xs ys,t1=.lst xs/\t2=.lst ys
 ·obtain⟨xs,ys,rfl,rfl⟩:=hl;unfold RT at h1 h2;obtain⟨a,vs,e1,q1,k1⟩:=h1;obtain⟨c,ws,e2,q2,k2⟩:=h2;subst e1 e2;cases rx;cases ry;obtain⟨is,v1,p1,z1⟩:=I.list q1;obtain⟨js,v2,p2,z2⟩:=I.list q2;have l1:=v1.length;have l2:=v2.length;unfold eqT at e;split at e
  ·rename_i ai;obtain⟨f,f1,f2⟩:=aBI (A:=X.A.in1) (fun t1 t2 x y u v b a1 a2 a3 a4 a5=>aDF I _ X.A.in1 t1 t2 x y u v b (by show X.A.units+1+4<cLine;lia) a1 a2 a3 a4 a5) k1 k2 v1 v2 e
   refine SeqAt.eq_listAt (e:=f) p1.isList p2.isList (by rw[bG,bG,<-l1,<-l2,k1.length,k2.length];exact ai) (by lia) (fun j h1 h2=>
    f1 j _ _ (by simp) (by simp)) ?_
   rw[bG,f2]
   exact fin
  ·rename_i ai;cases e
   refine SeqAt.eq_list_lengthsAt p1.isList p2.isList ?_ (by lia) fin
   rw[bG,bG,<-l1,<-l2,k1.length,k2.length];simpa using ai
 ·have e':eqF t1 t2=some b:=by
   unfold eqT at e;split at e
   ·exact absurd ⟨_,_,rfl,rfl⟩ hl
   ·exact e
  unfold eqF at e';split at e'
  ·cases e';unfold RT at h1 h2;subst h1 h2;cases rx;cases ry;exact SeqAt.RcAt.bool_bool _ _ _ _ _ _ fin
  ·cases e';unfold RT at h1 h2;subst h1 h2;obtain⟨t,rfl⟩:=rx;obtain⟨t',rfl⟩:=ry;exact SeqAt.RcAt.int_int _ _ _ _ _ _ _ _ fin
  ·cases e';unfold RT at h1 h2;subst h1 h2;obtain⟨t,rfl⟩:=rx;obtain⟨t',rfl⟩:=ry;exact SeqAt.RcAt.str_str _ _ _ _ _ _ _ _ fin
  ·cases e'
theorem aL5(hu:X.A.units+20<cLine):OpR X (compareOp .NotEq) (aMT X.K true):=by
 intro aa s σ H x y u v Q I rx ry h;obtain⟨t1,t2,b,h1,h2,e,q⟩:=h;have q':Q (.bl (!b)) H:=q;have fin:EP X aa σ Q (.bool (!b)) s:=⟨.bl (!b),H,I,rfl,q'⟩;by_cases hl:∃xs ys,t1=.lst xs/\t2=.lst ys
 ·obtain⟨xs,ys,rfl,rfl⟩:=hl;unfold RT at h1 h2;obtain⟨a,vs,e1,q1,k1⟩:=h1;obtain⟨c,ws,e2,q2,k2⟩:=h2;subst e1 e2;cases rx;cases ry;obtain⟨is,v1,p1,z1⟩:=I.list q1;obtain⟨js,v2,p2,z2⟩:=I.list q2;have l1:=v1.length;have l2:=v2.length;unfold eqT at e;split at e
  ·rename_i ai;obtain⟨f,f1,f2⟩:=aBI (A:=X.A.in1) (fun t1 t2 x y u v b a1 a2 a3 a4 a5=>aDF I _ X.A.in1 t1 t2 x y u v b (by show X.A.units+1+4<cLine;lia) a1 a2 a3 a4 a5) k1 k2 v1 v2 e
   refine SeqAt.RcNeAt.lists (e:=f) p1.isList p2.isList (by rw[bG,bG,<-l1,<-l2,k1.length,k2.length];exact ai) (by lia) (fun j h1 h2=>
    f1 j _ _ (by simp) (by simp)) _ _ _ _ ?_
   rw[bG,f2]
   exact fin
  ·rename_i ai;cases e
   refine SeqAt.RcNeAt.lists_lengths p1.isList p2.isList ?_ (by lia) _ _ _ _ fin
   rw[bG,bG,<-l1,<-l2,k1.length,k2.length];simpa using ai
 ·have e':eqF t1 t2=some b:=by
   unfold eqT at e;split at e
   ·exact absurd ⟨_,_,rfl,rfl⟩ hl
   ·exact e
  unfold eqF at e';split at e'
  ·cases e';unfold RT at h1 h2;subst h1 h2;exact aF7 aa s σ H _ _ u v Q I rx ry ⟨rfl,by rw[aGD];exact q'⟩
  ·cases e';unfold RT at h1 h2;subst h1 h2;exact aF7 aa s σ H _ _ u v Q I rx ry ⟨rfl,by rw[aET];exact q'⟩
  ·cases e';unfold RT at h1 h2;subst h1 h2;exact aF7 aa s σ H _ _ u v Q I rx ry ⟨rfl,by rw[aEf];exact q'⟩
  ·cases e'
theorem aDy{t:T}{x:V}{u:Value}{A:Around}{aa:List (Addr×Obj)}{s:Shared}{σ:L2.St}{H:Hp}(I:Inv X aa σ H s)(hu:A.units+5<cLine)(h:RT X.K H [] t x)(r:RelV x u):
 ∀{ts:List T}{vs:List V}{is:List Value}{b:Bool},RTs X.K H [] ts vs->Vals vs is->inL (fun y=>eqT 5 y t) ts=some b->∃rs:List (Value×Bool),rs.map (·.1)=is/\(∀p∈rs,SeqAt.EqAt A s p.1 u p.2)/\b=rs.any (·.2)
 | [],_,_,b,h1,v1,q=>by
   cases q;rw[h1.nil_inv]at v1;cases v1
   exact⟨[],rfl,(fun p hp=>nomatch hp),rfl⟩
 |t'::ts,_,_,b,h1,v1,q=>by
  obtain⟨v,r',rfl,a1,a2⟩:=h1.cons_inv;unfold inL at q;obtain⟨c,q1,q⟩:=aK.mp q;obtain⟨d,q2,q⟩:=aL.mp q;cases v1 with
  |cons x1 y1=>
   obtain⟨rs,w1,w2,w3⟩:=aDy I hu h r a2 y1 q2
   refine⟨(_,c)::rs,by rw[aM,w1],fun p hp=>?_,by rw[aOw,<-w3,q]⟩
   rcases bE.mp hp with rfl|hp
   ·exact aDF I 5 A t' t _ _ _ _ c hu a1 h x1 r q1
   ·exact w2 p hp
open Classical in
noncomputable def qK(rs:List (Value×Bool))(y:Value):Bool:=if∃p∈rs,p.1=y/\p.2=true then true else false
theorem aHv{u y:Value}(h:∀p∈rs,SeqAt.EqAt A s p.1 u p.2)(hy:y∈rs.map (·.1)):SeqAt.EqAt A s y u (qK rs y):=by
 unfold qK;split
 ·rename_i he;obtain⟨p,hp,rfl,e⟩:=he;rw[<-e];exact h p hp
 ·rename_i hn;obtain⟨p,hp,rfl⟩:=bM.mp hy;have:p.2=false:=by
   cases e:p.2 with
   |false=>rfl
   |true=>exact absurd ⟨p,hp,rfl,e⟩ hn
  rw[<-this];exact h p hp
theorem aEb:(rs.map (·.1)).any (qK rs)=rs.any (·.2):=by
 rw[eK,aPA,aPA];constructor
 ·rintro⟨y,hy,e⟩;unfold qK at e;split at e
  ·rename_i he;obtain⟨p,hp,_,e⟩:=he
   exact⟨p,hp,e⟩
  ·cases e
 ·rintro⟨p,hp,e⟩
  refine⟨p.1,bM.mpr ⟨p,hp,rfl⟩,?_⟩
  unfold qK;rw[if_pos ⟨p,hp,rfl,e⟩]
theorem aIl(hu:X.A.units+20<cLine):OpR X (compareOp .In) (aLl X.K false):=by
 intro aa s σ H x y u v Q I rx ry h;obtain⟨t,p,vs,ts,b,h1,rfl,hq,hs,e,q⟩:=h;cases ry;obtain⟨is,v1,p1,z1⟩:=I.list hq;obtain⟨rs,w1,w2,w3⟩:=aDy (A:=X.A.in1) I (by show X.A.units+1+5<cLine;lia) h1 rx hs v1 e;subst w1
 refine SeqAt.in_listAt (qK rs) p1.isList (fun y hy=>aHv w2 (by simpa using hy)) ?_
 rw[show(rs.map (·.1)).toArray.any (qK rs)=(rs.map (·.1)).any (qK rs)by simp,aEb,<-w3]
 exact⟨.bl b,H,I,rfl,q⟩
theorem aE0(hu:X.A.units+20<cLine):OpR X (compareOp .NotIn) (aLl X.K true):=by
 intro aa s σ H x y u v Q I rx ry h;obtain⟨t,p,vs,ts,b,h1,rfl,hq,hs,e,q⟩:=h;cases ry;obtain⟨is,v1,p1,z1⟩:=I.list hq;obtain⟨rs,w1,w2,w3⟩:=aDy (A:=X.A.in1) I (by show X.A.units+1+5<cLine;lia) h1 rx hs v1 e;subst w1
 refine SeqAt.notIn_listAt (qK rs) p1.isList (fun y hy=>aHv w2 (by simpa using hy)) ?_
 rw[show(rs.map (·.1)).toArray.any (qK rs)=(rs.map (·.1)).any (qK rs)by simp,aEb,<-w3]
 exact⟨.bl (!b),H,I,rfl,q⟩
theorem z7{prog:Program}{w:World}{A:Around}{E:Value->Shared->Prop}{it t:Addr}{items:Array Value}(ay:t≠it):∀(n i:Nat)(s:Shared)(Q:List Value->Shared->Prop),s.heap.IsListIter it t i->s.heap.IsList t items->i+n<=items.size->
 (∀h',h'.IsListIter it t (i+n)->Heap.SameBut it s.heap h'->Q ((items.toList.drop i).take n) {s with heap:=h'})->wpAny (model prog w) A (draw (.ref it) n) Q E s
 |0,i,s,Q,hit,_,_,hQ=>by
  show wpAny _ _ (pure []) Q E s
  exact wpAny_pure (by simpa using hQ s.heap hit (Heap.SameBut.refl ..))
 |n+1,i,s,Q,hit,ht,hle,hQ=>by
  have bi:i<items.size:=by lia
  show wpAny _ _ (pyNext (.ref it)>>=_) Q E s
  refine wpAny_bind (wpAny_pyNext_list_item hit ht (x:=items[i]) (by simp[bi]) fun bc gc dh=>?_)
  refine wpAny_bind (wpAny_holding (z7 ay n (i+1) _ _ gc (ht.extBut dh.extBut ay) (by lia) fun ck md rf=>wpAny_pure ?_))
  have hd:items.toList.drop i=items[i]::items.toList.drop (i+1):=by simp[aOj,bi]
  have:=hQ ck (by rw[show i+(n+1)=i+1+n by lia];exact md) (dh.trans rf);rw[hd,aPl]at this
  exact this
theorem uS{prog:Program}{w:World}{E:Value->Shared->Prop}{t:Addr}{items:Array Value}{Q:List Value->Shared->Prop}(hh:A.handled=none)(ht:s.heap.IsList t items)
 (hQ:∀h',Heap.ExtBut s.heap.objs.size s.heap h'->Q items.toList {s with heap:=h'}):wpAny (model prog w) A (unpackItems (.ref t) items.size none) Q E s:=by
 have bi:t≠s.heap.objs.size:=by obtain⟨o,ho,_⟩:=ht;exact bU (Heap.lt_size ho)
 unfold unpackItems
 refine wpAny_bind ?_
 ·unfold notIterableAtAll
  refine wpAny_bind (wpAny_specialOf ht.typeIs slot_list_iter.lookup ?_)
  refine wpAny_pure ?_
  simp only[b8,if_false]
  refine wpAny_bind (wpAny_holding (wpAny_pyIter_list ht ?_))
  refine wpAny_bind (wpAny_holding (z7 bi items.size 0 _ _ ⟨_,Heap.get?_push_size _ rfl,rfl,rfl⟩ (ht.push _) (by lia) fun bc gc dh=>?_))
  have i':List.take items.size (List.drop 0 items.toList)=items.toList:=by
   rw[aPK];exact dR (by simp)
  rw[i'];rw[if_neg (by simp)];have re:bc.IsList t items:=(ht.push _).extBut dh.extBut bi
  refine wpAny_bind (wpAny_holding (wpAny_pyNext_list_end hh gc re (by simp) fun ck tw=>?_))
  simp only[Option.isSome_none,b8,if_false]
  refine wpAny_pure (hQ ck fun b o hb e=>tw b o hb (dh.extBut b o hb (Heap.get?_push_of_some _ e)))
noncomputable def gLst(K:aO)(n:Nat)(t:TGs):TG:=fun v σ H Q=>∃a xs,v=.ref a/\(SqL K H a xs\/SqT K H a xs)/\xs.length=n/\t xs σ H Q
theorem aMG{es:List Expr}{k:Nat}{t:TGs}{n:Nat}{pos:Pos}(hc:X.calm=true)(h:PGs X es t)
 (hn:(assignEach es X.env).length=n:=by rfl)(bg:(assignEach es X.env).findIdx? (·.1)=none:=by rfl):PG X (.Tuple es k pos) (gLst X.K n t):=by
 intro aa s σ H v u Q I r hw;obtain⟨a,xs,e1,hq,hl,hw⟩:=hw;rcases hq with hq|hq
 ·subst e1;cases r;obtain⟨its,rv,ht,hz⟩:=I.list hq;rw[assign_Tuple]
  refine wpAny_bind (wpAny_standAt ?_)
  unfold unpack;have kj:(assignEach es X.env).length=its.toArray.size:=by simp[hn,<-hl,rv.length]
  rw[kj,bg]
  refine wpAny_bind (wpAny_holding (uS (I.ok.hd hc) ht.isList fun h' hx=>?_))
  have I1:Inv X aa σ H {s with heap:=h'}:=I.kept (t':=s.toks) fun b o e=>hx b o (bU (Heap.lt_size e)) e
  exact h aa _ σ H xs _ Q I1 (by simpa using rv) hw
 ·exact aLK hc h hn bg aa s σ H v u Q I r ⟨a,xs,e1,hq,hl,hw⟩
end
end TL
namespace TL
open PySem L2
def Itz(K:aO)(l1 l2:Addr):It:=
 ⟨fun i H=>∃xs ys x y,SqL K H l1 xs/\SqL K H l2 ys/\xs[i]?=some x/\ys[i]?=some y,
  fun i H v H'=>∃p x y,H p=none/\v=.ref p/\H'=upd H p (.tup [x,y])/\(∀xs,SqL K H l1 xs->xs[i]?=some x)/\∀ys,SqL K H l2 ys->ys[i]?=some y,
  fun i H=>∃xs ys,SqL K H l1 xs/\SqL K H l2 ys/\(xs[i]?=none\/ys[i]?=none)⟩
def iZip(K:aO)(t:TA):TI:=fun σ H R=>t σ H fun vs H1=>∃l1 l2,vs=[.ref l1,.ref l2]/\(∃xs,SqL K H1 l1 xs)/\(∃ys,SqL K H1 l2 ys)/\R (Itz K l1 l2) H1
noncomputable def zT(ts us:List T):List T:=(ts.zip us).map fun p=>.tup [p.1,p.2]
section
variable {K:aO}{σ:L2.St}{H:Hp}{Q:VK}
variable{H1:Hp}{af:Rho}
theorem mG{Z:Addr->Prop}{H₀:Hp}{τ:TSt}{C:Sto}{σ:L2.St}{t:T}{ts:List T}{a:Addr}(R1:Rel K H₀ Z af τ C σ H1)(h1:RT K (mask H1 Z af) af t (.ref a))(e2:liT C t=some ts)
 {jb:Hp}{Z':Addr->Prop}{ae:Rho}{ag:TSt}{C':Sto}{ah:L2.St}{H:Hp}(R':Rel K jb Z' ae ag C' ah H)(sm:Same (mask H1 Z af) (mask H Z' ae))(ix:∀(c:Nat)(a:Addr),af[c]?=some a->ae[c]?=some a)(aw:stays t ts C'\/Same H1 H):
  ∃ws,SqL K H a ws/\RTs K (mask H Z' ae) ae ts ws:=by
 rcases aw with aw|aw
 ·have h2:=h1.mono sm ix;have e3:liT C' t=some ts:=by
   cases t with
   |cell c=>exact aw
   |lst us=>exact e2
   |_=>cases e2
  obtain⟨a',ws,ik,q',r'⟩:=R'.li h2 e3;cases ik
  exact⟨ws,q',r'⟩
 ·obtain⟨a',ws,ik,q',r'⟩:=R1.li h1 e2;cases ik
  exact⟨ws,aw.seq q',r'.mono sm ix⟩
theorem aJG{Z:Addr->Prop}{H₀:Hp}{τ:TSt}{C:Sto}{σ:L2.St}{t u:T}{ts us:List T}{a b:Addr}(R1:Rel K H₀ Z af τ C σ H1)(h1:RT K (mask H1 Z af) af t (.ref a))(e1:liT C t=some ts)
 (h2:RT K (mask H1 Z af) af u (.ref b))(e2:liT C u=some us):Wlk K (Itz K a b) Z H1 af (zT ts us) (fun C=>stays t ts C/\stays u us C):=by
 refine⟨fun i t' H₀ Z' ae ag C' σ H ht R' sm ix aw _=>?_,fun H₀ Z' ae ag C' σ H R' sm ix aw _=>?_⟩
 ·obtain⟨ws,q1,r1⟩:=mG R1 h1 e1 R' sm ix (aw.imp (·.1) id);obtain⟨xs,q2,r2⟩:=mG R1 h2 e2 R' sm ix (aw.imp (·.2) id);unfold zT at ht;rw[bH]at ht;obtain⟨⟨x1,x2⟩,hz,rfl⟩:=aL.mp ht;obtain⟨z1,z2⟩:=dX.mp hz;obtain⟨v1,lm,vy⟩:=r1.get z1;obtain⟨v2,hv2,og⟩:=r2.get z2
  refine⟨⟨ws,xs,v1,v2,q1,q2,lm,hv2⟩,fun x H' hy=>?_⟩
  obtain⟨p,y1,y2,hp,rfl,rfl,k1,k2⟩:=hy;have w1:=k1 ws q1;have w2:=k2 xs q2;rw[lm]at w1;cases w1;rw[hv2]at w2;cases w2
  exact⟨fun b u h=>by rw[fO (fun z=>by rw[z,hp]at h;cases h)];exact h,R'.alloc_tup hp (.cons vy (.cons og .nil))⟩
 ·obtain⟨ws,q1,r1⟩:=mG R1 h1 e1 R' sm ix (aw.imp (·.1) id);obtain⟨xs,q2,r2⟩:=mG R1 h2 e2 R' sm ix (aw.imp (·.2) id)
  refine⟨ws,xs,q1,q2,?_⟩
  have hl:(zT ts us).length=min ts.length us.length:=by simp[zT]
  rw[hl];rcases Nat.le_total ts.length us.length with h|h
  ·exact .inl (dG (by rw[r1.length,aO8 h];exact bD _))
  ·exact .inr (dG (by rw[r2.length,aO0 h];exact bD _))
def tX(f1 f2:FE)(k:Nat)(is:List Nat)(g:FG)(tc:FB)(fe:FE):FN:=fun τ C=>(f1 τ C).bind fun p=>(f2 τ p.2).bind fun q=>(liT q.2 p.1).bind fun ts=>(liT q.2 q.1).bind fun us=>
 if(zT ts us).length<lim then j3 g tc fe (scT k is τ) (zT ts us) q.2 else none
theorem aJA{f1 f2:FE}{k:Nat}{is:List Nat}{g:FG}{tc:FB}{fe:FE}(hg:Own k g)(h:trN K (tX f1 f2 k is g tc fe) σ H Q):aAE (iZip K (trA K (e7 f1 (e7 f2 fG)))) (scV k is) (trG K g) (trT K tc) (trE K fe) σ H Q:=by
 obtain⟨H₀,Z,ρ,τ,C,ys,C',R,e,q⟩:=h;unfold tX at e;obtain⟨⟨t,C1⟩,e1,e⟩:=aK.mp e;obtain⟨⟨u,C2⟩,e2,e⟩:=aK.mp e;obtain⟨ts,e3,e⟩:=aK.mp e;obtain⟨us,e4,e⟩:=aK.mp e;split at e
 ·rename_i hl
  refine⟨H₀,Z,ρ,τ,C,[t,u],C2,R,by simp[e7,fG,e1,e2],fun vs H1 af R1 h1 s1=>?_⟩
  obtain⟨v,r,rfl,q1,q2⟩:=h1.cons_inv;obtain⟨v',r',rfl,q3,q4⟩:=q2.cons_inv;rw[q4.nil_inv];obtain⟨a,vs,ea,qa,ra⟩:=R1.li q1 e3;obtain⟨b,ws,eb,qb,rb⟩:=R1.li q3 e4;subst ea eb
  exact⟨a,b,rfl,⟨vs,qa⟩,⟨ws,qb⟩,fun D hD=>sW R1 hg (aJG R1 q1 e3 q3 e4) ⟨qM e3,qM e4⟩ (fun C C2 h z=>⟨uK C C2 h z.1,uK C C2 h z.2⟩) hl e hD fun p H' ae vs R' hp rv s'=>q p H' ae vs R' hp rv (s1.trans s')⟩
 ·cases e
end
def lI(d:Int)(ns:List Int):Int:=if ns.isEmpty then d else aBD ns
def aCJ(t1 t2:T)(C:Sto):Option (T×Sto):=match t2 with
 | .int d=>(liT C t1).bind fun us=>(ints? us).map fun ns=>(.int (lI d ns),C)
 |_=>none
abbrev aGu(a b:FE):FE:=jA a b aCJ
def frz1(C:Sto):Option T->Option (Option T)
 |none=>some none
 |some t=>(dr 3 C t).map some
def frz(C:Sto):TSt->Option TSt
 | []=>some []
 |o::τ=>(frz1 C o).bind fun o'=>(frz C τ).map (o':: ·)
section
variable {K:aO}{σ:St}{H:Hp}{D:Ends}{F G:FS}{Q:VK}
end
end TL
namespace TL
open PySem PySem.Spec PyProof.Rows L2
section
variable {P:Program}{w:World}{H H':Hp}{h h':Heap}{a:Addr}{o:HO}
end
def Named(K:aO)(c:String)(C:Addr):Prop:=bV K mainGlobals (Str.ofString c)=some (some (.ref C))
structure Aloft(P:Program)(w:World)(K:aO)(l:List Env)(H:Hp)(s:Shared)(c:String)(H':Hp)(C:Addr)(B:Heap)(s':Shared):Prop where
 nm:Named K c C
 os:s'.os=s.os
 bare:AllBare s'.gens
 un:Un (frs l) [] H H' s.heap s'.heap
 hok:HOk P w H' s'.heap
 keepB:∀b o,s.heap.get? b=some o->H b=none->b∉frs l->B.get? b=some o
 trkB:∀b u o,H' b=some u->s'.heap.get? b=some o->B.get? b=some o
 thereB:∀b o,s.heap.get? b=some o->b∉frs l->∃o',B.get? b=some o'
def Flies(B:Heap)(l:List Env)(a C:Addr)(s':Shared):Prop:=∃t,Heap.FlyingW B l a (.ref C) (.ref t) s'.heap
def Made(B:Heap)(l:List Env)(a C:Addr)(s':Shared):Prop:=∃h vs,B.StaysIn h/\h.FunFrames B l/\Heap.MadeExcOf h s'.heap a (.ref C) vs
noncomputable def wish(X:Cx):XW:=fun c σ H'=>∀aa H s a C B s',Inv X aa σ H s->Aloft X.prog X.w X.K X.stack H s c H' C B s'->(Made B X.stack a C s'\/Flies B X.stack a C s')->X.xe (.ref a) s'
section
variable {X:Cx}{aa:List (Addr×Obj)}{σ:L2.St}{H H':Hp}{s s':Shared}{c:String}{C a:Addr}{B:Heap}
end
section
variable {P:Program}{w:World}{K:aO}{mg:Str->Option Value}{base:Heap}{N:List Str}{qual:Str}{scope:Scope}{f:Addr}{cd:Value}{A:Around}{outer:List Env}{s:Shared}{H:Hp}{E:XK}
end
abbrev QE(X:Cx)(e:Expr)(f:FE):Prop:=PE X e (trE X.K f)
abbrev QN(X:Cx)(e:Expr)(f:FN):Prop:=PE X e (trN X.K f)
abbrev QA(X:Cx)(e:List Expr)(f:FN):Prop:=PA X e (trA X.K f)
abbrev QT(X:Cx)(e:Expr)(f:FB):Prop:=PT X e (trT X.K f)
abbrev QW(X:Cx)(e:Expr)(f:FB):Prop:=PW X e (trT X.K f)
abbrev QO(X:Cx)(e:Option Expr)(f:FO):Prop:=PO X e (trO X.K f)
abbrev QS(X:Cx)(e:Stmt)(f:FS):Prop:=PS X e (trS X.K (wish X) f)
abbrev QSs(X:Cx)(e:List Stmt)(f:FS):Prop:=PSs X e (trS X.K (wish X) f)
abbrev QG(X:Cx)(e:Expr)(g:FG):Prop:=PG X e (trG X.K g)
abbrev QTs(X:Cx)(e:List Expr)(f:FB):Prop:=PTs X e (trT X.K f)
theorem PTs.imp{X:Cx}{e:List Expr}{t t':TT}(h:PTs X e t)(hi:∀σ H Q,t' σ H Q->t σ H Q):PTs X e t':=fun aa s σ H Q I q=>h aa s σ H Q I (hi σ H Q q)
theorem aHn{i j:Int}(h:jG i j=true):IntMulOk i j:=by
 unfold jG at h;unfold IntMulOk;intro z;rw[z]at h;cases h
section
variable {X:Cx}{a b c e:Expr}{es:List Expr}{fa fb fc f:FE}{fr fn:FN}{ga gb:FB}{pos p p2:Pos}{j:Nat}
variable{op:CmpOp}{r:R2}
theorem eY(i:Nat){x:Str}(hN:X.N[i]?=some x:=by rfl)(hv:Vis X.env.scope x:=by first|exact aPL rfl|exact aPB (aPL rfl)|exact aPB (aPB rfl))(hd:(x==("__debug__":Str))=false:=by decide)
 (iy:(x==("__classdict__":Str))=false:=by decide):QE X (.Name x pos) (iY i):=(aLC hN hv hd iy).imp fun _ _ _=>aKS
theorem fE{i:Int}{k}:QE X (.Constant (.int i) k pos) (fC (.int i)):=aDK.imp fun _ _ _=>i_C fun _ _=>.int
theorem qO{i:Bool}{k}:QE X (.Constant (.bool i) k pos) (fC (.bl i)):=aNL.imp fun _ _ _=>i_C fun _ _=>.bl
theorem aNN{k}:QE X (.Constant .none k pos) (fC .non):=aLt.imp fun _ _ _=>i_C fun _ _=>.non
theorem iR(ha:QE X a fa)(hb:QE X b fb):QE X (.BinOp a .Add b pos) (jA fa fb (gI fun i j=>.int (i+j))):=(u9 aLA ha hb).imp fun _ _ _=>vO fun _ _ _ _ _=>o_I fun _ _ _ _=>.int
theorem mV(ha:QE X a fa)(hb:QE X b fb):QE X (.BinOp a .Sub b pos) (jA fa fb (gI fun i j=>.int (i - j))):=(u9 aLn ha hb).imp fun _ _ _=>vO fun _ _ _ _ _=>o_I fun _ _ _ _=>.int
theorem aIL:OpR X (binaryOp .Mult) (rI IntMulOk fun i j=>.int (i*j)):=opI fun _ _ _ _ _ _ _ hc q=>mul_int q hc
theorem kK(ha:QE X a fa)(hb:QE X b fb):QE X (.BinOp a .Mult b pos) (jA fa fb (gIc jG fun i j=>.int (i*j))):=(u9 aIL ha hb).imp fun _ _ _=>vO fun _ _ _ _ _ h=>by
 obtain⟨i,j,h1,h2,h3,q⟩:=aG8 (g:=fun i j=>.int (i*j)) (fun _ _ _ _=>.int) h
 exact⟨i,j,h1,h2,aHn h3,q⟩
theorem iK(ha:QE X a fa)(hb:QE X b fb):QE X (.BinOp a .Mod b pos) (jA fa fb (gIc (fun _ j=>decide (0<j)) fun i j=>.int (i%j))):=(u9 aLv ha hb).imp fun _ _ _=>vO fun _ _ _ _ _ h=>by
 obtain⟨i,j,h1,h2,h3,q⟩:=aG8 (g:=fun i j=>.int (i%j)) (fun _ _ _ _=>.int) h
 exact⟨i,j,h1,h2,of_decide_eq_true h3,q⟩
theorem kS(ha:QE X a fa)(hb:QE X b fb):QE X (.BinOp a .FloorDiv b pos) (jA fa fb (gIc (fun _ j=>decide (0<j/\j<1073741824)) fun i j=>.int (i/j))):=(u9 aJx ha hb).imp fun _ _ _=>vO fun _ _ _ _ _ h=>by
 obtain⟨i,j,h1,h2,h3,q⟩:=aG8 (g:=fun i j=>.int (i/j)) (fun _ _ _ _=>.int) h;have h4:0<j/\j<1073741824:=of_decide_eq_true h3
 exact⟨i,j,h1,h2,h4,q⟩
theorem aHk(ha:QE X a fa)(hb:QE X b fb):QE X (.BinOp a .Pow b pos) (jA fa fb (gIc (fun i j=>decide (0<=j/\j<=1000000/\i.natAbs<2^64)) fun i j=>.int (i^j.toNat))):=(u9 aMr ha hb).imp fun _ _ _=>vO fun _ _ _ _ _ h=>by
 obtain⟨i,j,h1,h2,h3,q⟩:=aG8 (g:=fun i j=>.int (i^j.toNat)) (fun _ _ _ _=>.int) h;have h4:0<=j/\j<=1000000/\i.natAbs<2^64:=of_decide_eq_true h3
 exact⟨i,j,h1,h2,h4,q⟩
theorem aNY(ha:QE X a fa):QE X (.UnaryOp .USub a pos) (fUn fa aIr):=(aNK aLJ ha).imp fun _ _ _ h=>iP (aLG h) fun _ _ q=>aNx q
theorem aEk{g:T->T->Sto->Option (T×Sto)}(ho:OpR X (compareOp op) r)(hg:∀σ H Q x y,(∃t1 t2,trV X.K σ [t1,t2] [x,y] (g t1 t2) H Q)->r x y H Q)(ha:QE X a fa)(hb:QE X b fb)(hm:behindInMarks op b=false):
 QE X (.Compare a [op] [b] pos) (jA fa fb g):=(aKs ho ha hb hm).imp fun _ _ _=>vO hg
theorem xC{g:T->T->Sto->Option (T×Sto)}(ho:OpR X (compareOp op) r)(hg:∀σ H Q x y,(∃t1 t2,trV X.K σ [t1,t2] [x,y] (g t1 t2) H Q)->r x y H Q)(ha:QE X a fa)(hb:QE X b fb)(hm:behindInMarks op b=false):
 QT X (.Compare a [op] [b] pos) (hZ (jA fa fb g)):=(aKF ho ha hb hm).imp fun _ _ _=>aGf fun _ _ _=>vO hg
abbrev gLt:=gI fun i j=>.bl (decide (i<j))
abbrev gGt:=gI fun i j=>.bl (decide (j<i))
abbrev gGe:=gI fun i j=>.bl (decide (j<=i))
theorem aN4(ha:QE X a fa)(hb:QE X b fb):QE X (.Compare a [.Lt] [b] pos) (jA fa fb gLt):=aEk aGA (fun _ _ _ _ _=>o_I fun _ _ _ _=>.bl) ha hb (nomark _)
theorem aDD(ha:QE X a fa)(hb:QE X b fb):QE X (.Compare a [.Gt] [b] pos) (jA fa fb gGt):=aEk aKX (fun _ _ _ _ _=>o_I fun _ _ _ _=>.bl) ha hb (nomark _)
theorem aIb(ha:QE X a fa)(hb:QE X b fb):QT X (.Compare a [.Lt] [b] pos) (hZ (jA fa fb gLt)):=xC aGA (fun _ _ _ _ _=>o_I fun _ _ _ _=>.bl) ha hb (nomark _)
theorem aC4(ha:QE X a fa)(hb:QE X b fb):QT X (.Compare a [.Gt] [b] pos) (hZ (jA fa fb gGt)):=xC aKX (fun _ _ _ _ _=>o_I fun _ _ _ _=>.bl) ha hb (nomark _)
theorem aOc(ha:QE X a fa)(hb:QE X b fb):QT X (.Compare a [.GtE] [b] pos) (hZ (jA fa fb gGe)):=xC aNt (fun _ _ _ _ _=>o_I fun _ _ _ _=>.bl) ha hb (nomark _)
theorem aOe(hu:X.A.units+20<cLine)(ha:QE X a fa)(hb:QE X b fb):QE X (.Compare a [.Eq] [b] pos) (jA fa fb (gEq false)):=aEk (aGN hu) (fun _ _ _ _ _=>aLp) ha hb (nomark _)
theorem vK(hu:X.A.units+20<cLine)(ha:QE X a fa)(hb:QE X b fb):QT X (.Compare a [.Eq] [b] pos) (hZ (jA fa fb (gEq false))):=xC (aGN hu) (fun _ _ _ _ _=>aLp) ha hb (nomark _)
theorem aGS(hu:X.A.units+20<cLine)(ha:QE X a fa)(hb:QE X b fb):QT X (.Compare a [.NotEq] [b] pos) (hZ (jA fa fb (gEq true))):=xC (aL5 hu) (fun _ _ _ _ _=>aLp) ha hb (nomark _)
theorem aOb(hu:X.A.units+20<cLine)(ha:QE X a fa)(hb:QE X b fb)(hm:behindInMarks .In b=false:=by rfl):QE X (.Compare a [.In] [b] pos) (jA fa fb (gIn false)):=aEk (aIl hu) (fun _ _ _ _ _=>aLM) ha hb hm
theorem aN8(hu:X.A.units+20<cLine)(ha:QE X a fa)(hb:QE X b fb)(hm:behindInMarks .In b=false:=by rfl):QT X (.Compare a [.In] [b] pos) (hZ (jA fa fb (gIn false))):=xC (aIl hu) (fun _ _ _ _ _=>aLM) ha hb hm
theorem aHP(hu:X.A.units+20<cLine)(ha:QE X a fa)(hb:QE X b fb)(hm:behindInMarks .NotIn b=false:=by rfl):QT X (.Compare a [.NotIn] [b] pos) (hZ (jA fa fb (gIn true))):=xC (aE0 hu) (fun _ _ _ _ _=>aLM) ha hb hm
theorem zQ(ha:QE X a fa)(hb:QE X b fb)(hc:QE X c fc)(hm:lastMarks [.LtE,.Lt] [b,c]=false:=by with_unfolding_all rfl):QE X (.Compare a [.LtE,.Lt] [b,c] pos) (uR fa fb fc (fun i j=>decide (i<=j)) (fun i j=>decide (i<j))):=
 (aHR aNf aGA ha hb hc hm).imp fun _ _ _=>aJu
theorem aNs{op}(ha:QE X a fa):QE X (.BoolOp op [a] pos) fa:=aMR ha
theorem aNM(ha:QE X a fa)(hb:QE X (.BoolOp .And (b::es) pos) fb):QE X (.BoolOp .And (a::b::es) pos) (aAm fa fb):=(aMQ ha hb).imp fun _ _ _=>aMD
theorem aNS(ha:QE X a fa):QE X (.UnaryOp .Not a pos) (z9 fa):=(aL7 ha).imp fun _ _ _=>aLy
theorem xX(ha:QT X a ga):QW X (.BoolOp .And [a] pos) ga:=aI1 ha
theorem xO(ha:QT X a ga):QW X (.BoolOp .Or [a] pos) ga:=aLR ha
theorem aCI(ha:QT X a ga)(hb:QW X (.BoolOp .And (b::es) pos) gb):QW X (.BoolOp .And (a::b::es) pos) (pZ ga gb):=(aMF ha hb).imp fun _ _ _=>aLF
theorem vN(ha:QT X a ga)(hb:QW X (.BoolOp .Or (b::es) pos) gb):QW X (.BoolOp .Or (a::b::es) pos) (lO ga gb):=(aNJ ha hb).imp fun _ _ _=>aNj
theorem t_w(h:QW X a ga):QT X a ga:=h.pt
theorem oG(ha:QT X a ga):QT X (.UnaryOp .Not a pos) (i8 ga):=(aLZ ha).imp fun _ _ _=>aMj
theorem l9(ha:QE X a fa)(he:∀whole,isTrue a X.env whole=(do let v<-whole;standAt a.pos;holding [v] (truthy v)):=by intro _;rfl):QT X a (j9 fa):=(aHx ha he).imp fun _ _ _=>aN2
theorem aNa(hc:QT X c ga)(ha:QE X a fa)(hb:QE X b fb):QE X (.IfExp c a b pos) (aFj ga fa fb):=(aHr hc ha hb).imp fun _ _ _=>aNO
theorem gP(ha:QE X a fa)(hb:QE X b fb)(hs:PlainIx b:=by exact fun _ _=>rfl):QE X (.Subscript a b pos) (jA fa fb gIx):=(aN1 aMd ha hb hs).imp fun _ _ _=>vO fun _ _ _ _ _=>aN9
theorem tO:QO X none mT:=aJf.imp fun _ _ _=>aGC
theorem aBH(ha:QE X a fa):QO X (some a) (qW fa):=(aBz ha).imp fun _ _ _=>aL4
theorem vV{lo hi:Option Expr}{fl fh:FO}(ha:QE X a fa)(hl:QO X lo fl)(hh:QO X hi fh):QN X (.Subscript a (.Slice lo hi none p2) pos) (fSl fa fl fh):=(aIx aI6 ha hl hh).imp fun _ _ _=>aOa
theorem fD:QA X [] fG:=aDv.imp fun _ _ _=>aLc
theorem eZ(ha:QE X e f)(hr:QA X es fr)(hs:starEach (e::es) X.env=(false,eval e X.env)::starEach es X.env:=by rfl):QA X (e::es) (e7 f fr):=(vY ha hr hs).imp fun _ _ _=>aMe
theorem gG(h:QA X es fr):QN X (.List es pos) (gE fr):=(aMC h).imp fun _ _ _=>aMf lY
theorem aGB(ha:QE X a fa)(hb:QE X b fb):QN X (.BinOp a .Add b pos) (zA fa fb aFs):=(u9 aJP ha hb).imp fun _ _ _=>aNQ fun _ _ _ _ _=>aNg
theorem fZ(h:QN X a fn):QE X a (fS fn):=PE.imp h fun _ _ _=>aHI
theorem kJ(h:QN X a fn):QE X a (i0 fn):=PE.imp h fun _ _ _=>aGE
section
variable {x:Str}{id:String}
theorem aFa{r:List V->Hp->VK->Prop}{g:List T->Sto->Option (T×Sto)}(hc:oV X (.builtin id) r)(ho:∀σ H Q xs,(∃ts,trV X.K σ ts xs (g ts) H Q)->r xs H Q)(hv:bootBuiltins x=some (.builtin id))(hm:X.mg x=none)(hg:Gl X x)(ha:QA X (e::es) fr)(hn:x≠"__name__":=by decide)(cr:(x==("__debug__":Str))=false:=by decide)
 (he:starEach (e::es) X.env=(false,eval e X.env)::starEach es X.env:=by rfl)(av:(backTo pos (starEach es X.env)).any (·.1)=false:=by rfl):QE X (.Call (.Name x p) (e::es) [] pos) (oS fr g):=
 (aBV hc hg hm hv ha hn cr he av).imp fun _ _ _=>aNT ho
end
theorem l7(hm:X.mg "len"=none)(ha:QA X (e::es) fr)(hg:Gl X "len":=by rfl)(he:starEach (e::es) X.env=(false,eval e X.env)::starEach es X.env:=by rfl)(av:(backTo pos (starEach es X.env)).any (·.1)=false:=by rfl):
 QE X (.Call (.Name "len" p) (e::es) [] pos) (oS fr aFL):=aFa aA8 (fun _ _ _ _=>aNP) PySem.boot_len hm hg ha (by decide) (by decide) he av
theorem aFw(hc:X.calm=true):oV X (.builtin "sum") (aEN X.K (fun _=>true) aQa):=aE2 hc
theorem aCm(hm:X.mg "sum"=none)(hc:X.calm=true)(ha:QA X (e::es) fr)(hg:Gl X "sum":=by rfl)(he:starEach (e::es) X.env=(false,eval e X.env)::starEach es X.env:=by rfl)(av:(backTo pos (starEach es X.env)).any (·.1)=false:=by rfl):
 QE X (.Call (.Name "sum" p) (e::es) [] pos) (aC8 fr):=aFa (aFw hc) (fun _ _ _ _=>aIF) boot_sum hm hg ha (by decide) (by decide) he av
theorem aM0(hm:X.mg "max"=none)(hc:X.calm=true)(ha:QA X (e::es) fr)(hg:Gl X "max":=by rfl)(he:starEach (e::es) X.env=(false,eval e X.env)::starEach es X.env:=by rfl)(av:(backTo pos (starEach es X.env)).any (·.1)=false:=by rfl):
 QE X (.Call (.Name "max" p) (e::es) [] pos) (aGT fr):=aFa (aFo hc) (fun _ _ _ _=>aNy) boot_max hm hg ha (by decide) (by decide) he av
theorem qX(hm:X.mg "min"=none)(hc:X.calm=true)(ha:QA X (e::es) fr)(hg:Gl X "min":=by rfl)(he:starEach (e::es) X.env=(false,eval e X.env)::starEach es X.env:=by rfl)(av:(backTo pos (starEach es X.env)).any (·.1)=false:=by rfl):
 QE X (.Call (.Name "min" p) (e::es) [] pos) (rN fr):=aFa (aFK hc) (fun _ _ _ _=>aNy) boot_min hm hg ha (by decide) (by decide) he av
theorem aNv(hm:X.mg "all"=none)(hc:X.calm=true)(ha:QA X (e::es) fr)(hg:Gl X "all":=by rfl)(he:starEach (e::es) X.env=(false,eval e X.env)::starEach es X.env:=by rfl)(av:(backTo pos (starEach es X.env)).any (·.1)=false:=by rfl):
 QE X (.Call (.Name "all" p) (e::es) [] pos) (aMI fr):=aFa (aFi hc) (fun _ _ _ _=>aNb) boot_all hm hg ha (by decide) (by decide) he av
theorem qI(hm:X.mg "int"=none)(ha:QA X (e::es) fr)(hg:Gl X "int":=by rfl)(he:starEach (e::es) X.env=(false,eval e X.env)::starEach es X.env:=by rfl)(av:(backTo pos (starEach es X.env)).any (·.1)=false:=by rfl):
 QE X (.Call (.Name "int" p) (e::es) [] pos) (tS fr):=(aAH aFV hg hm boot_int ha (by decide) (by decide) he av).imp fun _ _ _=>aNT fun _ _ _ _=>aLO
theorem aG0(hm:X.mg "list"=none)(ha:QA X (e::es) fr)(hg:Gl X "list":=by rfl)(he:starEach (e::es) X.env=(false,eval e X.env)::starEach es X.env:=by rfl)(av:(backTo pos (starEach es X.env)).any (·.1)=false:=by rfl):
 QN X (.Call (.Name "list" p) (e::es) [] pos) (aC0 fr):=(aAH aA7 hg hm boot_list ha (by decide) (by decide) he av).imp fun _ _ _=>aNF fun _ _ _ _=>aLE
structure jT(P:Program)(w:World)(K:aO)(mg:Str->Option Value)(base:Heap)(k:Nat)(x:Str)(n:Nat)(F:List T->Option T):Prop where
 ex:∃f fd ps,nY P w K mg base CX0 k f fd ps (spT K n F)/\mg x=some (.ref f)/\cH K (.ref f)=true/\Binds K fd ps []
theorem f8{k n:Nat}{x:Str}{F:List T->Option T}(D:jT X.prog X.w X.K X.mg X.base k x n F)(hr:Room k X.A)(ha:QA X (e::es) fr)(hg:Gl X x:=by rfl)(cr:(x==("__debug__":Str))=false:=by decide)
 (he:starEach (e::es) X.env=(false,eval e X.env)::starEach es X.env:=by rfl)(av:(backTo pos (starEach es X.env)).any (·.1)=false:=by rfl):QE X (.Call (.Name x p) (e::es) [] pos) (f7 n F fr):=by
 obtain⟨f,fd,ps,G,hm,hk,hb⟩:=D.ex
 exact(wH (E:=fun _ _ _=>False) G hr hg hm hk hb .nil (fun _ _ _ _ _ _ _ h=>h.elim) ha cr he av).imp fun _ _ _=>aM2
theorem hu20{k:Nat}{A:Around}(hr:Room k A):A.units+20<cLine:=by have:=hr.un;lia
theorem jP{x:Str}(hN:X.N.Nodup)(i:Nat)(hi:X.N[i]?=some x:=by rfl)(hx:Loc X.env.scope x:=by first|exact aPL rfl|exact aPB rfl)(hf:X.fn x=true\/X.env.scope.names.lookup x=some .local:=by first|exact .inl rfl|exact .inr rfl):QG X (.Name x pos) (gN i):=
 (aEs hN hi hx hf).imp fun _ _ _ _=>wU
structure NG(X:Cx)(ts:List Expr)(is:List Nat):Prop where
 h:PGs X ts (is.foldr (fun i g=>aEw (tI i) g) aIK)
theorem vD:NG X [] []:=⟨aJF⟩
theorem kL{x:Str}{ts:List Expr}{is:List Nat}(hN:X.N.Nodup)(i:Nat)(h:NG X ts is)(hi:X.N[i]?=some x:=by rfl)(hx:Loc X.env.scope x:=by first|exact aPL rfl|exact aPB rfl)(hf:X.fn x=true\/X.env.scope.names.lookup x=some .local:=by first|exact .inl rfl|exact .inr rfl)
 (hs:(assignEach (.Name x pos::ts) X.env).map (·.2)=assign (.Name x pos) X.env::(assignEach ts X.env).map (·.2):=by rfl):NG X (.Name x pos::ts) (i::is):=⟨aGj (aEs hN hi hx hf) h.h hs⟩
theorem aNV{K:aO}{is:List Nat}{v:V}{σ:L2.St}{H:Hp}{Q:L2.St->Hp->Prop}(h:trG K (gU is) v σ H Q):gLst K is.length (is.foldr (fun i g=>aEw (tI i) g) aIK) v σ H Q:=by
 obtain⟨H₀,Z,ρ,τ,C,t,ag,R,r,e,k⟩:=h;unfold gU at e;obtain⟨ts,e1,e⟩:=aK.mp e;split at e
 ·rename_i hl;cases e;obtain⟨a,vs,ea,qa,ra⟩:=R.sq r e1
  exact⟨a,vs,ea,qa,by rw[ra.length];exact hl,Rel.setAll R ra hl k⟩
 ·cases e
theorem u3{ts:List Expr}{is:List Nat}{k:Nat}(hc:X.calm=true)(h:NG X ts is)(hn:(assignEach ts X.env).length=is.length:=by rfl)(bg:(assignEach ts X.env).findIdx? (·.1)=none:=by rfl):QG X (.Tuple ts k pos) (gU is):=
 (aMG hc h.h hn bg).imp fun _ _ _ _=>aNV
theorem cok(own fr:List Str)(is:List Nat){scope:Scope}{cl:List (Str×Addr)}(h1:qL X.env.cells scope.names []=some cl:=by with_unfolding_all rfl)(h2:∀y∈scope.names,y.2≠ .cell:=by decide+kernel)(h3:scope.kind=.function:=by rfl)
 (h4:∀y∈scope.names,y.2=.local->scope.names.lookup y.1=some .local:=by decide+kernel)(h5:is.map (fun i=>X.N[i]?)=fr.map some:=by rfl)
 (h6:fr.all (fun x=>X.env.kindOf x==some .cell||X.env.kindOf x==some .free)=true:=by rfl)(h7:fr.all (fun x=>(relabel scope X.env).names.lookup x==some .cell||(relabel scope X.env).names.lookup x==some .free)=true:=by rfl):nV X own fr is scope cl:=
 ⟨h1,h2,h3,h4,h5,h6,h7⟩
theorem iU:QTs X [] iB:=aKE.imp fun σ H Q h=>by
 obtain⟨H₀,Z,ρ,τ,C,b,C',R,e,k⟩:=h;cases e
 exact k H ρ R .refl
theorem sO(h:QT X c ga):QTs X [c] ga:=aJI h
section
variable {own frs:List Str}{is:List Nat}{scope:Scope}{cl:List (Str×Addr)}{tg iter bf:Expr}{ifs:List Expr}{fi fe:FE}{g:FG}{gt:FB}{ca ao:Pos}{x:Str}
variable{W:XW}{te:TE}{i:Nat}{σ:L2.St}
theorem j5(hc:X.calm=true)(k:nV X own frs is scope cl)(hi:QE X iter fi)(ho:Own own.length g)(hg:∀C s3 H3 fp,QG (gZ X (own++frs) scope cl C s3 H3 fp) tg g)(ht:∀C s3 H3 fp,QTs (gZ X (own++frs) scope cl C s3 H3 fp) ifs gt)
 (he:∀C s3 H3 fp,QE (gZ X (own++frs) scope cl C s3 H3 fp) bf fe)(hs:∀x,foldedSetIterable iter X.env x=pure x:=by intro _;rfl):QN X (.ListComp bf [⟨tg,iter,ifs,0⟩] scope pos) (jE fi own.length is g gt fe):=
 (aBA hc k (aBy hi) hg ht he hs).imp fun _ _ _=>aHb ho
theorem asgT{K:aO}{fn:FN}{D:Ends}{H:Hp}(hi:∀σ H Q,trN K fn σ H Q->te σ H Q)(h:trS K W (fY (fS fn) (gN i)) D σ H):aDo te (tI i) D σ H:=
 hi _ _ _ (aHI (iP (aCH h) fun _ _ q=>wU q))
theorem asgC{K:aO}{fn:FN}{D:Ends}{H:Hp}(hi:∀σ H Q,trN K fn σ H Q->te σ H Q)(h:trS K W (fY (i0 fn) (gN i)) D σ H):aDo te (tI i) D σ H:=
 hi _ _ _ (aGE (iP (aCH h) fun _ _ q=>wU q))
theorem aKo(hN:X.N.Nodup)(i:Nat)(hc:X.calm=true)(k:nV X own frs is scope cl)(hi:QE X iter fi)(ho:Own own.length g)(hg:∀C s3 H3 fp,QG (gZ X (own++frs) scope cl C s3 H3 fp) tg g)(ht:∀C s3 H3 fp,QTs (gZ X (own++frs) scope cl C s3 H3 fp) ifs gt)
 (he:∀C s3 H3 fp,QE (gZ X (own++frs) scope cl C s3 H3 fp) bf fe)(hx:X.N[i]?=some x:=by rfl)(hl:X.env.scope.names.lookup x=some .local:=by rfl)
 (je:swapsWith (.ListComp bf [⟨tg,iter,ifs,0⟩] scope pos) (some (.Name x ao)) ca.line X.env=pure true:=by rfl)(hs:∀x,foldedSetIterable iter X.env x=pure x:=by intro _;rfl):
 QS X (.Assign [.Name x ao] (.ListComp bf [⟨tg,iter,ifs,0⟩] scope pos) ca) (fY (fS (jE fi own.length is g gt fe)) (gN i)):=
 (rW hN hx hl hc k (aBy hi) hg ht he je hs).imp fun _ _ _=>asgT fun _ _ _=>aHb ho
theorem aFT(hN:X.N.Nodup)(i:Nat)(hm:X.mg "range"=none)(hc:X.calm=true)(k:nV X own frs is scope cl)(hi:QE X iter fi)(ho:Own own.length g)(hg:∀C s3 H3 fp,QG (gZ X (own++frs) scope cl C s3 H3 fp) tg g)(ht:∀C s3 H3 fp,QTs (gZ X (own++frs) scope cl C s3 H3 fp) ifs gt)
 (he:∀C s3 H3 fp,QE (gZ X (own++frs) scope cl C s3 H3 fp) bf fe)(ir:Gl X "range":=by rfl)(hx:X.N[i]?=some x:=by rfl)(hl:X.env.scope.names.lookup x=some .local:=by rfl)
 (je:swapsWith (.ListComp bf [⟨tg,.Call (.Name "range" p) [iter] [] p2,ifs,0⟩] scope pos) (some (.Name x ao)) ca.line X.env=pure true:=by rfl)(hs:∀x,foldedSetIterable (.Call (.Name "range" p) [iter] [] p2) X.env x=pure x:=by intro _;rfl)(bg:starEach [iter] X.env=[(false,eval iter X.env)]:=by rfl):
 QS X (.Assign [.Name x ao] (.ListComp bf [⟨tg,.Call (.Name "range" p) [iter] [] p2,ifs,0⟩] scope pos) ca) (fY (fS (lW fi own.length is g gt fe)) (gN i)):=
 (rW hN hx hl hc k (uJ ir hm (eZ hi fD (by rw[bg];rfl)) bg) hg ht he je hs).imp fun _ _ _=>asgT fun _ _ _=>aB6 ho
theorem uQ(hN:X.N.Nodup)(i:Nat)(hm:X.mg "range"=none)(hc:X.calm=true)(k:nV X own frs is scope cl)(hi:QE X iter fi)(ho:Own own.length g)(hg:∀C s3 H3 fp,QG (gZ X (own++frs) scope cl C s3 H3 fp) tg g)(ht:∀C s3 H3 fp,QTs (gZ X (own++frs) scope cl C s3 H3 fp) ifs gt)
 (he:∀C s3 H3 fp,QE (gZ X (own++frs) scope cl C s3 H3 fp) bf fe)(ir:Gl X "range":=by rfl)(hx:X.N[i]?=some x:=by rfl)(hl:X.env.scope.names.lookup x=some .local:=by rfl)
 (je:swapsWith (.ListComp bf [⟨tg,.Call (.Name "range" p) [iter] [] p2,ifs,0⟩] scope pos) (some (.Name x ao)) ca.line X.env=pure true:=by rfl)(hs:∀x,foldedSetIterable (.Call (.Name "range" p) [iter] [] p2) X.env x=pure x:=by intro _;rfl)(bg:starEach [iter] X.env=[(false,eval iter X.env)]:=by rfl):
 QS X (.Assign [.Name x ao] (.ListComp bf [⟨tg,.Call (.Name "range" p) [iter] [] p2,ifs,0⟩] scope pos) ca) (fY (i0 (lW fi own.length is g gt fe)) (gN i)):=
 (rW hN hx hl hc k (uJ ir hm (eZ hi fD (by rw[bg];rfl)) bg) hg ht he je hs).imp fun _ _ _=>asgC fun _ _ _=>aB6 ho
end
section
variable {st:Stmt}{db qi:List Stmt}{F G:FS}{tg iter:Expr}{g:FG}
variable{al ak:Pos}
theorem iC:QSs X [] iE:=aJW.imp fun _ _ _=>aHL
theorem fF(h:QS X st F):QSs X [st] F:=aJB h
theorem fA(h:QS X st F)(h2:QSs X db G):QSs X (st::db) (fM F G):=(aIe h h2).imp fun _ _ _=>aNi
theorem aJQ:QS X (.Pass pos) iE:=aJ3.imp fun _ _ _=>aHL
theorem aCr:QS X st aBE:=fun _ _ _ _ _ _ h=>(aJJ h).elim
theorem fT(h:QE X a fa):QS X (.Return (some a) pos) (gF fa):=(aMA h).imp fun _ _ _=>aNe
theorem lZ(h:QE X a fa)(hs:swapsWith a none pos.line X.env=pure false:=by rfl):QS X (.Expr a pos) (mB fa):=(v4 h hs).imp fun _ _ _=>aLI
theorem j7(hc:QT X c ga)(ha:QSs X db F)(hb:QSs X qi G):QS X (.If c db qi pos) (fIf ga F G):=(aNp hc ha hb).imp fun _ _ _=>aN7
theorem fN{x:Str}{ao:Pos}(hN:X.N.Nodup)(i:Nat)(h:QE X a fa)(hi:X.N[i]?=some x:=by rfl)(hx:Loc X.env.scope x:=by first|exact aPL rfl|exact aPB rfl)(hs:swapsWith a (some (.Name x ao)) pos.line X.env=pure false:=by rfl)
 (hf:X.fn x=true\/X.env.scope.names.lookup x=some .local:=by first|exact .inl rfl|exact .inr rfl):QS X (.Assign [.Name x ao] a pos) (fY fa (gN i)):=(aMV hN hi hx h hs hf).imp fun _ _ _ h=>iP (aCH h) fun _ _ q=>wU q
theorem aHH(h:QE X a fa)(hg:QG X tg g)(hs:swapsWithSole [tg] a pos.line X.env=pure false:=by rfl)(hw:swappedStores [tg] a X.env=pure none:=by rfl)(h1:(assignEach [tg] X.env).map (·.2)=[assign tg X.env]:=by rfl):QS X (.Assign [tg] a pos) (fY fa g):=
 (aIg h hg hs hw h1).imp fun _ _ _=>aCH
theorem v6(hv:QE X a fa)(ho:QE X b fb)(hi:QE X c fc)(hs:swapsWithSole [.Subscript b c p] a pos.line X.env=pure false:=by rfl)(hw:swappedStores [.Subscript b c p] a X.env=pure none:=by rfl)
 (h1:(assignEach [.Subscript b c p] X.env).map (·.2)=[assign (.Subscript b c p) X.env]:=by rfl)
 (ha:∀v,assign (.Subscript b c p) X.env v=(do
  let ov<-holding [v] (eval b X.env)
  let iv<-holding [v,ov] (eval c X.env)
  standAt p
  holding [v,ov,iv] (setItem ov iv v)
  release [v,ov,iv] []):=by intro _;rfl):QS X (.Assign [.Subscript b c p] a pos) (sJ fa fb fc):=
 (aIg hv (aLB ho hi aIs ha) hs hw h1).imp fun _ _ _=>aMX
theorem m4(hc:X.calm=true)(hi:QE X iter fa)(hg:QG X tg g)(hb:QSs X db F)(hp:PassesOwn (model X.prog X.w) X.A X.env X.xe:=by first|exact PassesOwn.never|exact PassesOwn.leaving|exact PassesOwn.looking)(hs:∀x,foldedSetIterable iter X.env x=pure x:=by intro _;rfl):QS X (.For tg iter db [] pos) (oR fa g F):=
 (aBF hp hc (aBy hi) hg hb hs).imp fun _ _ _=>aNd
theorem nW(hm:X.mg "range"=none)(hc:X.calm=true)(hi:QE X iter fa)(hg:QG X tg g)(hb:QSs X db F)(hp:PassesOwn (model X.prog X.w) X.A X.env X.xe:=by first|exact PassesOwn.never|exact PassesOwn.leaving|exact PassesOwn.looking)(ir:Gl X "range":=by rfl)
 (hs:∀x,foldedSetIterable (.Call (.Name "range" p) [iter] [] p2) X.env x=pure x:=by intro _;rfl)(bg:starEach [iter] X.env=[(false,eval iter X.env)]:=by rfl):QS X (.For tg (.Call (.Name "range" p) [iter] [] p2) db [] pos) (lD fa g F):=
 (aBF hp hc (uJ ir hm (eZ hi fD (by rw[bg];rfl)) bg) hg hb hs).imp fun _ _ _=>aJy
theorem yF(hm:X.mg "range"=none)(hc:X.calm=true)(h1:QE X a fa)(h2:QE X b fb)(hg:QG X tg g)(hb:QSs X db F)(hp:PassesOwn (model X.prog X.w) X.A X.env X.xe:=by first|exact PassesOwn.never|exact PassesOwn.leaving|exact PassesOwn.looking)(ir:Gl X "range":=by rfl)
 (hs:∀x,foldedSetIterable (.Call (.Name "range" p) [a,b] [] p2) X.env x=pure x:=by intro _;rfl)(bg:starEach [a,b] X.env=[(false,eval a X.env),(false,eval b X.env)]:=by rfl)(fq:starEach [b] X.env=[(false,eval b X.env)]:=by rfl):QS X (.For tg (.Call (.Name "range" p) [a,b] [] p2) db [] pos) (pI fa fb g F):=
 (aBF hp hc (aFY ir hm (eZ h1 (eZ h2 fD (by rw[fq];rfl)) (by rw[bg,fq])) bg fq) hg hb hs).imp fun _ _ _=>aJr
theorem mU(n:Nat)(hc:QT X c ga)(hb:QSs X db F)(hp:PassesOwn (model X.prog X.w) X.A X.env X.xe:=by first|exact PassesOwn.never|exact PassesOwn.leaving|exact PassesOwn.looking):QS X (.While c db [] pos) (lN ga F n):=(aHo hp hc hb).imp fun _ _ _=>aIV
theorem n4(ho:QE X a fa)(ha:QA X (e::es) fr)(hs:swapsWith (.Call (.Attribute a "append" al) (e::es) [] ak) none pos.line X.env=pure false:=by rfl)(dv:attributeBase a "append" X.env (eval a X.env)=eval a X.env:=by rfl)
 (iu:((backTo ak (starEach (e::es) X.env)).all (fun x=> !x.1)&&(backToKw ak (keywordEach [] X.env)).all (fun x=>x.1.isSome)
  &&decide ((e::es).length+([]:List Keyword).length+(if([]:List Keyword).isEmpty then 0 else 1)<30))=true:=by rfl)
 (dn:(al.endLine==ak.line)=true:=by rfl)(bg:starEach (e::es) X.env=(false,eval e X.env)::starEach es X.env:=by rfl)(bx:(backTo ak (starEach es X.env)).any (·.1)=false:=by rfl):
 QS X (.Expr (.Call (.Attribute a "append" al) (e::es) [] ak) pos) (qJ fa fr):=
 (v4 (aKU PySem.F.plainAttrs_list PySem.F.slot_list_append PySem.F.type_list_append aL0 ho ha dv iu dn bg bx) hs).imp fun _ _ _=>aKR aML
theorem aDI(ho:QE X a fa)(ha:QA X (e::es) fr)(hs:swapsWith (.Call (.Attribute a "insert" al) (e::es) [] ak) none pos.line X.env=pure false:=by rfl)(dv:attributeBase a "insert" X.env (eval a X.env)=eval a X.env:=by rfl)
 (iu:((backTo ak (starEach (e::es) X.env)).all (fun x=> !x.1)&&(backToKw ak (keywordEach [] X.env)).all (fun x=>x.1.isSome)
  &&decide ((e::es).length+([]:List Keyword).length+(if([]:List Keyword).isEmpty then 0 else 1)<30))=true:=by rfl)
 (dn:(al.endLine==ak.line)=true:=by rfl)(bg:starEach (e::es) X.env=(false,eval e X.env)::starEach es X.env:=by rfl)(bx:(backTo ak (starEach es X.env)).any (·.1)=false:=by rfl):
 QS X (.Expr (.Call (.Attribute a "insert" al) (e::es) [] ak) pos) (aKi fa fr):=
 (v4 (aKU PySem.F.plainAttrs_list PySem.F.slot_list_insert PySem.F.type_list_insert aLU ho ha dv iu dn bg bx) hs).imp fun _ _ _=>aKR aMu
end
end
section
variable {X:Cx}{aa:List (Addr×Obj)}{σ:L2.St}{H:Hp}{s:Shared}
variable{ch:List Addr}{h':Heap}{t':Nat}
theorem aCY{p:Addr}{o:HO}(I:Inv X aa σ H s)(bv:∀b∈ch,uA X aa H b)(k:∀b ob,b∉ch->s.heap.get? b=some ob->h'.get? b=some ob)(hp:s.heap.objs.size<=p)
 (new:jQ X.prog X.w (upd H p o) h' p o):Inv X aa σ (upd H p o) {s with heap:=h',toks:=t'}:=by
 have hn:H p=none:=I.hok.fresh hp;have ne:∀b u,H b=some u->b≠p:=fun b u e z=>by rw[z,hn]at e;cases e
 have il:∀b u,H b=some u->b∉ch:=fun b u e z=>by rw[(bv b z).1]at e;cases e
 refine I.step (g':=s.gens) (d':=s.drawn) (ch:=ch) (fun b hb=>⟨(bv b hb).2.2.2.1,(bv b hb).2.1,(bv b hb).2.2.2.2.1,(bv b hb).2.2.2.2.2⟩) (fun b o _ _ hc e _=>k b o hc e) (fun b o _ _ hc e _=>⟨o.slots,k b o hc e⟩)
  (fun b ob _ e n=>by rw[fO (bU (bN (Heap.lt_size e) hp))];exact n) (fun b ob hc e=>⟨ob,k b ob hc e⟩)
  (fun b xs e=>by rw[fO (ne _ _ e)];exact e) (fun b ob u e=>by rw[fO (ne _ _ e)];exact e) (fun b ps e=>⟨#[],by rw[fO (ne _ _ e),e];simp⟩) (fun m hm=>?_) (fun b u e=>?_) I.bare
 ·obtain⟨ob,es,ep,ho,r⟩:=hm
  exact⟨ob,es,ep,k _ ob (fun z=>(bv _ z).2.1 rfl) ho,r⟩
 ·by_cases hb:b=p
  ·subst hb;rw[i9]at e;cases e
   exact new
  ·rw[fO hb]at e
   refine(I.hok b u e).stay (fun c v hc q=>k c v ?_ q) (fun c q=>by rw[fO (ne _ _ q)];exact q) fun c xs q=>by rw[fO (ne _ _ q)];exact q
   rcases hc with z|z
   ·rw[z];exact il b u e
   ·exact il c _ z
theorem aAf(I:Inv X aa σ H s)(bv:∀b∈ch,uA X aa H b)(k:∀b ob,b∉ch->s.heap.get? b=some ob->h'.get? b=some ob):Inv X aa σ H {s with heap:=h',toks:=t'}:=by
 have il:∀b u,H b=some u->b∉ch:=fun b u e z=>by rw[(bv b z).1]at e;cases e
 refine I.step (g':=s.gens) (d':=s.drawn) (ch:=ch) (fun b hb=>⟨(bv b hb).2.2.2.1,(bv b hb).2.1,(bv b hb).2.2.2.2.1,(bv b hb).2.2.2.2.2⟩) (fun b o _ _ hc e _=>k b o hc e) (fun b o _ _ hc e _=>⟨o.slots,k b o hc e⟩)
  (fun b ob _ e n=>n) (fun b ob hc e=>⟨ob,k b ob hc e⟩) (fun b xs e=>e) (fun b ob u e=>e) (fun b ps e=>⟨#[],by rw[e];simp⟩) (fun m hm=>?_) (fun b u e=>?_) I.bare
 ·obtain⟨ob,es,ep,ho,r⟩:=hm
  exact⟨ob,es,ep,k _ ob (fun z=>(bv _ z).2.1 rfl) ho,r⟩
 ·refine(I.hok b u e).stay (fun c v hc q=>k c v ?_ q) (fun c q=>q) fun c xs q=>q
  rcases hc with z|z
  ·rw[z];exact il b u e
  ·exact il c _ z
end
theorem aHq{P:Program}{w:World}{K:aO}{ts:List Expr}{k:Nat}{pos:Pos}(z TI TO i1 i2 l1 l2:Addr)(D:ZipApart z TI TO i1 i2 l1 l2):
 Turn P w K (.Tuple ts k pos) (Itz K l1 l2) [z,TI,TO,i1,i2] z (fun i h=>IsZip h z TI TO .none/\IsPair h TI (.ref i1) (.ref i2)/\(∃a b,IsPair h TO a b)/\h.IsListIter i1 l1 i/\h.IsListIter i2 l2 i) where
 mem:=by simp
 obj:=fun i h st b hb=>by
  obtain⟨hz,ja,⟨a,b',ji⟩,⟨o1,e1,c1,d1⟩,⟨o2,e2,c2,d2⟩⟩:=st;simp only[bE,cB,or_false]at hb;rcases hb with rfl|rfl|rfl|rfl|rfl
  ·exact⟨_,hz,fun v z=>by simp at z⟩
  ·exact⟨_,ja,fun v z=>by simp at z⟩
  ·exact⟨_,ji,fun v z=>by simp at z⟩
  ·exact⟨o1,e1,fun v z=>by rw[d1]at z;cases z⟩
  ·exact⟨o2,e2,fun v z=>by rw[d2]at z;cases z⟩
 keep:=fun i h h' st kk=>by
  obtain⟨hz,ja,⟨a,b',ji⟩,h1,h2⟩:=st
  exact⟨kk z (by simp) _ hz,kk TI (by simp) _ ja,⟨a,b',kk TO (by simp) _ ji⟩,h1.at fun o e=>kk i1 (by simp) o e,h2.at fun o e=>kk i2 (by simp) o e⟩
 item:=by
  intro X hP hw hK hc i aa s σ H E I hf st hg;subst hP hw hK;obtain⟨hz,ja,⟨a,b',ji⟩,h1,h2⟩:=st;obtain⟨xs,ys,x,y,q1,q2,g1,g2⟩:=hg;obtain⟨its,rv,p1,z1⟩:=I.list q1;obtain⟨gx,og,p2,z2⟩:=I.list q2;obtain⟨u,hu,ru⟩:=rv.get g1;obtain⟨u2,qz,lg⟩:=og.get g2
  refine wpAny_pyNext_zip_item D hz ja ji h1 h2 p1.isList p2.isList (x:=u) (y:=u2) (by simpa using hu) (by simpa using qz) fun h' a1 a2 a3 a4 a5 a6 hk=>?_
  refine⟨_,rfl,wpAny_letOwnedTupleGo_zip (s:={s with heap:=h'}) a1 fun jv xb cb=>?_⟩
  have zlt:z≠s.heap.objs.size:=bU (Heap.lt_size hz);have kk:∀b ob,b∉[z,TI,TO,i1,i2]->s.heap.get? b=some ob->jv.get? b=some ob:=fun b ob hb e=>by
   simp only[bE,cB,or_false,not_or]at hb
   exact(cb.2 b hb.1).trans (hk b ob hb.1 hb.2.2.1 hb.2.2.2.1 hb.2.2.2.2 e)
  have hT:jv.get? s.heap.objs.size=some {cls:=.type "tuple",data:=.seq #[u,u2]}:=(cb.2 _ (Ne.symm zlt)).trans a5;have I1:Inv X aa σ (upd H s.heap.objs.size (.tup [x,y])) {s with heap:=jv,toks:=s.toks}:=aCY I hf kk (bD _)
   (show jQ X.prog X.w _ jv _ (.tup [x,y])from⟨by show 2<=sizeLine;decide,[u,u2],.cons ru (.cons lg .nil),⟨_,hT,rfl,_,rfl⟩⟩)
  have hn:H s.heap.objs.size=none:=I.fresh
  refine⟨.ref s.heap.objs.size,_,I1,rfl,⟨_,x,y,hn,rfl,rfl,fun zs hz=>by rw[I.list_inj hz q1];exact g1,fun zs hz=>by rw[I.list_inj hz q2];exact g2⟩,?_,fun b hb=>?_⟩
  ·refine⟨xb,(cb.2 _ D.TIz).trans (hk _ _ D.TIz D.TITO D.TIi1 D.TIi2 ja),⟨u,u2,(cb.2 _ D.TOz).trans a2⟩,a3.at fun o e=>(cb.2 _ D.i1z).trans e,a4.at fun o e=>(cb.2 _ D.i2z).trans e⟩
  ·have ud:=(hf b hb).1;rw[fO]
   ·exact ud
   ·rintro rfl;have:∃o,s.heap.get? s.heap.objs.size=some o:=by
     simp only[bE,cB,or_false]at hb;obtain⟨o1,e1,_⟩:=h1;obtain⟨o2,e2,_⟩:=h2;rcases hb with h|h|h|h|h
     ·rw[h];exact⟨_,hz⟩
     ·rw[h];exact⟨_,ja⟩
     ·rw[h];exact⟨_,ji⟩
     ·rw[h];exact⟨_,e1⟩
     ·rw[h];exact⟨_,e2⟩
    obtain⟨o,e⟩:=this
    exact absurd (Heap.lt_size e) (cQ _)
 done:=by
  intro X hP hw hK hc i aa s σ H E I hf st hg;subst hP hw hK;obtain⟨hz,ja,⟨a,b',ji⟩,h1,h2⟩:=st;obtain⟨xs,ys,q1,q2,tz⟩:=hg;obtain⟨its,rv,p1,z1⟩:=I.list q1;obtain⟨gx,og,p2,z2⟩:=I.list q2;have l1:=rv.length;have l2:=og.length
  refine wpAny_pyNext_zip_end (I.ok.hd hc) D hz ja ji h1 h2 p1.isList p2.isList ?_ fun h' hk=>⟨rfl,aAf (t':=s.toks) I hf fun b ob hb e=>?_⟩
  ·rcases tz with h|h
   ·exact .inl (by simp at h|-;lia)
   ·exact .inr (by simp at h|-;lia)
  ·simp only[bE,cB,or_false,not_or]at hb
   exact hk b ob hb.1 hb.2.2.1 hb.2.2.2.1 hb.2.2.2.2 e
 self:=fun _ _ _ _ _ st h=>wpAny_pyIter_zip st.1 h
section
variable {X:Cx}{a b e:Expr}{es:List Expr}{fa fb:FE}{fr:FN}{pos p p2:Pos}
theorem aMK{ts:List Expr}{k:Nat}{ba:Pos}{ta:TA}(hg:Gl X "zip")(hm:X.mg "zip"=none)(ha:PA X [a,b] ta)(hs:starEach [a,b] X.env=[(false,eval a X.env),(false,eval b X.env)]:=by rfl)(kg:starEach [b] X.env=[(false,eval b X.env)]:=by rfl):
 PI X (.Tuple ts k ba) (.Call (.Name "zip" p) [a,b] [] pos) (iZip X.K ta):=by
 intro aa s σ H R I h
 refine Call_ (qY I hg hm boot_zip (dC (thn (ha pos aa s σ H _ I h) fun us s1 ⟨vs,H1,I1,r1,q1⟩=>?_) (by rw[hs,kg]) (by rw[kg];rfl)))
 obtain⟨l1,l2,e,⟨xs,qx⟩,⟨ys,qy⟩,q⟩:=q1;subst e;obtain⟨u,u2,rfl,ru,lg⟩:=r1.two;cases ru;cases lg;obtain⟨its,rv,p1,z1⟩:=I1.list qx;obtain⟨gx,og,p2,z2⟩:=I1.list qy;have a1:l1<s1.heap.objs.size:=p1.lt;have a2:l2<s1.heap.objs.size:=p2.lt
 refine call_zip_2 p1.isList p2.isList fun h' hz ja ji hi1 hi2 hsz hk=>wpAny_pyIter_zip hz ?_
 have I2:Inv X aa σ H1 {s1 with heap:=h'}:=I1.kept (t':=s1.toks) hk
 refine⟨s1.heap.objs.size+4,[s1.heap.objs.size+4,s1.heap.objs.size+2,s1.heap.objs.size+3,s1.heap.objs.size,s1.heap.objs.size+1],_,_,H1,rfl,I2,aHq _ _ _ _ _ l1 l2 (zipApart_new a1 a2),⟨hz,ja,⟨_,_,ji⟩,hi1,hi2⟩,fun b hb=>?_,q⟩
 have hle:s1.heap.objs.size<=b:=by
  simp only[bE,cB,or_false]at hb;rcases hb with rfl|rfl|rfl|rfl|rfl
  ·exact aOg _ _
  ·exact aOg _ _
  ·exact aOg _ _
  ·exact bD _
  ·exact aOg _ _
 exact I1.fpOk hle (I1.hok.fresh hle)
section
variable {own frs:List Str}{is:List Nat}{scope:Scope}{cl:List (Str×Addr)}{ts:List Expr}{tk:Nat}{ba:Pos}{bf:Expr}{ifs:List Expr}{fe:FE}{g:FG}{gt:FB}
theorem aKy(hm:X.mg "zip"=none)(hc:X.calm=true)(k:nV X own frs is scope cl)(h1:QE X a fa)(h2:QE X b fb)(ho:Own own.length g)(hg:∀C s3 H3 fp,QG (gZ X (own++frs) scope cl C s3 H3 fp) (.Tuple ts tk ba) g)(ht:∀C s3 H3 fp,QTs (gZ X (own++frs) scope cl C s3 H3 fp) ifs gt)
 (he:∀C s3 H3 fp,QE (gZ X (own++frs) scope cl C s3 H3 fp) bf fe)(ir:Gl X "zip":=by rfl)(hs:∀x,foldedSetIterable (.Call (.Name "zip" p) [a,b] [] p2) X.env x=pure x:=by intro _;rfl)
 (bg:starEach [a,b] X.env=[(false,eval a X.env),(false,eval b X.env)]:=by rfl)(fq:starEach [b] X.env=[(false,eval b X.env)]:=by rfl):
 QN X (.ListComp bf [⟨.Tuple ts tk ba,.Call (.Name "zip" p) [a,b] [] p2,ifs,0⟩] scope pos) (tX fa fb own.length is g gt fe):=
 (aBA hc k (aMK ir hm (eZ h1 (eZ h2 fD (by rw[fq];rfl)) (by rw[bg,fq])) bg fq) hg ht he hs).imp fun _ _ _=>aJA ho
end
variable{c:String}
def IsiV(K:aO)(H:Hp)(x:V)(c:String)(b:Bool):Prop:=match x with
 | .non=>cW K (.type "NoneType") (.type c)=some b
 | .bl _=>cW K (.type "bool") (.type c)=some b
 | .int _=>cW K (.type "int") (.type c)=some b
 | .str _=>cW K (.type "str") (.type c)=some b
 | .ref a=>((∃xs,SqL K H a xs)/\cW K (.type "list") (.type c)=some b)\/((∃xs,SqT K H a xs)/\cW K (.type "tuple") (.type c)=some b)
 |_=>False
theorem aIy:oV X (.builtin "isinstance") (fun xs H Q=>∃x c b,xs=[x,.ty c]/\IsiV X.K H x c b/\Q (.bl b) H):=by
 intro aa s σ H xs us Q I r h;obtain⟨x,c,b,rfl,hi,q⟩:=h;obtain⟨u,u2,rfl,ru,lg⟩:=r.two;cases lg;have fin:∀tk,EP X aa σ Q (.bool b) {s with toks:=tk}:=fun tk=>⟨.bl b,H,I.tok tk,rfl,q⟩
 cases x with
 |non=>cases ru;exact eL PySem.W.kitx_none I.kIn True.intro hi (fun z=>nomatch z) fin
 |bl y=>cases ru;exact eL PySem.W.kitx_bool I.kIn True.intro hi (fun z=>nomatch z) fin
 |int i=>obtain⟨t,q⟩:=ru;cases q;exact eL PySem.W.kitx_int I.kIn True.intro hi (fun z=>nomatch z) fin
 |str y=>obtain⟨t,q⟩:=ru;cases q;exact eL PySem.W.kitx_str I.kIn True.intro hi (fun z=>nomatch z) fin
 |ref a=>
  cases ru;rcases hi with⟨⟨xs,hq⟩,hi⟩| ⟨⟨xs,hq⟩,hi⟩
  ·obtain⟨its,_,⟨o,n,e,c,_⟩,_⟩:=I.list hq
   exact eL PySem.W.kitx_list I.kIn ⟨o,e,c⟩ hi (fun z=>nomatch z) fin
  ·obtain⟨its,_,⟨o,e,c,_⟩,_⟩:=I.tuple hq
   exact eL PySem.W.kitx_tuple I.kIn ⟨o,e,c⟩ hi (fun z=>nomatch z) fin
 |_=>exact False.elim hi
def aCd(c:String):Prop:=∀(K:aO),cW K (.type "NoneType") (.type c)=some (c=="NoneType")/\cW K (.type "bool") (.type c)=some (c=="bool"||c=="int")/\cW K (.type "int") (.type c)=some (c=="int")/\
 cW K (.type "str") (.type c)=some (c=="str")/\cW K (.type "list") (.type c)=some (c=="list")/\cW K (.type "tuple") (.type c)=some (c=="tuple")
theorem aJC:aCd "int":=fun K=>⟨rfl,rfl,rfl,rfl,rfl,rfl⟩
theorem aGo:aCd "bool":=fun K=>⟨rfl,rfl,rfl,rfl,rfl,rfl⟩
theorem aH4:aCd "list":=fun K=>⟨rfl,rfl,rfl,rfl,rfl,rfl⟩
theorem aNB{K:aO}{σ:L2.St}{H:Hp}{Q:VK}(hc:aCd c)(h:trE K (p6 c fa) σ H Q):trE K fa σ H fun x H1=>∃b,IsiV K H1 x c b/\Q (.bl b) H1:=by
 obtain⟨h1,h2,h3,h4,h5,h6⟩:=hc K
 refine iP (aLG h) fun x H1 q=>?_
 obtain⟨t0,H₀,Z,ρ,τ,C,t,C',R,r,e,k⟩:=q;obtain⟨_,_,z,r1,r⟩:=r.cons_inv;cases z;obtain⟨b,e1,e⟩:=aL.mp e;cases e
 refine⟨b,?_,k _ H1 ρ R .bl .refl⟩
 cases t0 with
 |non=>rw[r1.non_inv];exact h1.trans e1
 |bl y=>rw[r1.bl_inv];exact h2.trans e1
 |int i=>rw[r1.int_inv];exact h3.trans e1
 |str y=>
  unfold RT at r1;rw[r1];exact h4.trans e1
 |exc y=>cases e1
 |lst ts=>
  obtain⟨a,vs,ea,qa,ra⟩:=R.li r1 rfl;rw[ea];exact .inl ⟨⟨vs,qa⟩,h5.trans e1⟩
 |tup ts=>
  unfold RT at r1;obtain⟨a,vs,ea,qa,ra⟩:=r1;rw[ea];exact .inr ⟨⟨vs,SqT.msk (.of qa)⟩,h6.trans e1⟩
 |cell c=>cases e1
theorem aHM{x:Str}(hc:aCd c)(hm:X.mg "isinstance"=none)(ly:X.mg x=none)(hv:bootBuiltins x=some (.type c))(ha:QE X a fa)(hg:Gl X "isinstance":=by rfl)(mf:Gl X x:=by rfl)(hn:x≠"__name__":=by decide)(hd:(x==("__debug__":Str))=false:=by decide)
 (h1:starEach [a,.Name x p2] X.env=(false,eval a X.env)::starEach [.Name x p2] X.env:=by rfl)(h2:(backTo pos (starEach [.Name x p2] X.env)).any (·.1)=false:=by rfl):
 QE X (.Call (.Name "isinstance" p) [a,.Name x p2] [] pos) (p6 c fa):=
 (aBV aIy hg hm boot_isinstance (vY ha (vY (aKf (v:=.ty c) mf ly hv rfl hn hd) aDv rfl) h1) (by decide) (by decide) h1 h2).imp fun σ H Q h=>iP (aNB hc h) fun x H1 q=>by
  obtain⟨b,h1,h2⟩:=q
  exact⟨x,c,b,rfl,h1,h2⟩
theorem aEY(hm:X.mg "isinstance"=none)(ly:X.mg "int"=none)(ha:QE X a fa)(hg:Gl X "isinstance":=by rfl)(mf:Gl X "int":=by rfl)(h1:starEach [a,.Name "int" p2] X.env=(false,eval a X.env)::starEach [.Name "int" p2] X.env:=by rfl)(h2:(backTo pos (starEach [.Name "int" p2] X.env)).any (·.1)=false:=by rfl):
 QE X (.Call (.Name "isinstance" p) [a,.Name "int" p2] [] pos) (p6 "int" fa):=aHM aJC hm ly boot_int ha hg mf (by decide) (by decide) h1 h2
theorem aDY(hm:X.mg "isinstance"=none)(ly:X.mg "bool"=none)(ha:QE X a fa)(hg:Gl X "isinstance":=by rfl)(mf:Gl X "bool":=by rfl)(h1:starEach [a,.Name "bool" p2] X.env=(false,eval a X.env)::starEach [.Name "bool" p2] X.env:=by rfl)(h2:(backTo pos (starEach [.Name "bool" p2] X.env)).any (·.1)=false:=by rfl):
 QE X (.Call (.Name "isinstance" p) [a,.Name "bool" p2] [] pos) (p6 "bool" fa):=aHM aGo hm ly boot_bool ha hg mf (by decide) (by decide) h1 h2
theorem pF(hm:X.mg "isinstance"=none)(ly:X.mg "list"=none)(ha:QE X a fa)(hg:Gl X "isinstance":=by rfl)(mf:Gl X "list":=by rfl)(h1:starEach [a,.Name "list" p2] X.env=(false,eval a X.env)::starEach [.Name "list" p2] X.env:=by rfl)(h2:(backTo pos (starEach [.Name "list" p2] X.env)).any (·.1)=false:=by rfl):
 QE X (.Call (.Name "isinstance" p) [a,.Name "list" p2] [] pos) (p6 "list" fa):=aHM aH4 hm ly boot_list ha hg mf (by decide) (by decide) h1 h2
end
end TL
namespace TL
open PySem PySem.W PySem.Calls PyProof.Rows L2
theorem bitsW{n:Int}(h:(WData.int n).layable=true):Builtin.Int.intBits n<=2^20:=by
 obtain⟨_,_,h3⟩:=layableW_iff.mp h;unfold WData.weight at h3;unfold Builtin.Int.intBits
 exact h3
theorem aB3{ns:List Int}(h:WData.layableAll [WData.list (ns.map WData.int)]=true):∀n∈ns,Builtin.Int.intBits n<=2^20:=fun n hn=>
 bitsW (layableW_item (layableW_arg h _ bJ) _ (bM.mpr ⟨n,hn,rfl⟩))
theorem aFW{l:aPH}{k:Nat}{q:Program}{loose:List Str}{XP:(Str->Option Value)->Heap->Prop}{YP:World->Heap->Prop}{d:DefRec}{K:Params->aO}{x:Str}{R:List T->Option T}
 (hn:l.most=some 63)(hdf:d.params.defaults=[])(hr:Room k callerA)
 (hY:∀(w:World)(h:Heap),YP w h->(K w.params).In h)
 (hR:∀ns:List Int,ns.length<=63->(∀n∈ns,Builtin.Int.intBits n<=2^20)->R [.lst (ns.map T.int)]=some (.bl true))
 (F:∀(w:World)(mg:Str->Option Value)(fa:Addr)(h:Heap),(K w.params).In h->h.Ns mainGlobals mg->mg d.name=some (.ref fa)->
  ∃fd:FuncData,(∀(s:Shared)(u:Value),BindsTo s fd ⟨[u],[]⟩ [(x,u)])/\
   ∀base:Heap,(K w.params).In base->base.Ns mainGlobals mg->nY l.prog w (K w.params) mg base CX0 k fa fd [x] (spT (K w.params) 1 R)):
 PySem.W.WalkO q loose XP YP l.row.toRowW d [] (fun f vs=>PySem.call f vs):=by
 intro w s₀ aj mg mb G Y fa o pm cd doc dV kV ho hd iy hD ye hg args vals as cn sv rn im hlo;obtain rfl:dV=.none:=Dflts.none hD hdf;obtain rfl:kV=.none:=Dflts.noKw hD;obtain⟨a,vs,ns,rfl,rfl,sg,hints,ai⟩:=Att.aFh hn cn im;have KX:=hY w _ Y;obtain⟨fd,hb,hF⟩:=F w mg fa _ KX G.T.g ye;have di:∀H:Hp,Only H->SqL (K w.params) H a (ns.map V.int)->spT (K w.params) 1 R [.ref a] H (fun v _=>v=.bl true) fun _ _ _=>False:=fun H _ hS=>by
  refine⟨fun _=>False,[.lst (ns.map T.int)],.bl true,rfl,fun _ z=>z.elim,.cons ?_ .nil,hR ns ai (aB3 sv),fun v H' _ r=>r.bl_inv⟩
  unfold RT;have sm:Same H (mask H (fun _=>False) []):=fun b o e=>nJ (fun z=>z) (by simp) e
  refine⟨a,_,rfl,sm.seq hS,?_⟩
  clear hS sg hints ai sv cn rn im;induction ns with
  |nil=>exact .nil
  |cons n ns ih=>exact .cons .int ih
 refine enter_call (codeAny_mono (aHh KX G.T.g G.T.b G.T.builtins G.T.nolimit hg sg hints (cA ai (by decide)) hr hF hb di (fun H e s' z=>z)) fun r s' hq=>?_)
 obtain⟨rfl,h2,h3,h4⟩:=hq
 exact⟨.inl ⟨.bool true,.bool true,[],rfl,fun _=>rfl,.bool true,Att.aE5 l _,fun _=>⟨List.Pairwise.nil,fun _ hm=>(nomatch hm)⟩⟩,h2,h3,h4⟩
end TL
namespace TL
open PySem PySem.Spec PyProof.Rows L2
theorem aFM(a d:Value):argsOk "max" ⟨[a],[("default",d)]⟩:=by unfold argsOk;kernel_rfl
noncomputable abbrev aDg(us:Array Value)(c:Nat):Obj:={cls:=.type "list",dict:=none,data:=.seq us c,slots:=#[]}
section
variable {P:Program}{w:World}{A:Around}{R:Result->Shared->Prop}{it bs:Addr}{fp wr:List Addr}{n:Nat}{Pr:Nat->Value->Prop}{St:Nat->Heap->Prop}{ke:List (Str×Value)}{bt:Nat->Nat->Bool}
variable{s:Shared}{c:Nat}
theorem aBl:(toString "max"++toString ".loop":String)="max.loop":=by decide
theorem aFr(W:Walks P w A.in1 it fp wr n Pr St)(ml:CmpOf P w A.in1 .Gt Pr bt)(jh:bs∉fp):∀(k j:Nat)(s:Shared)(vb:Value)(c:Nat),n - (j+1)=k->j+1<=n->St (j+1) s.heap->Pr (argBest bt j) vb->s.heap.get? bs=some (aDg #[vb,vb] c)->
 (∀v g tk,Pr (argBest bt (n - 1)) v->(∀b o,b∉wr->b≠bs->s.heap.get? b=some o->g.get? b=some o)->R (.ok (.ret v)) {s with heap:=g,toks:=tk})->codeAny (model P w) A (.builtin "max.loop" ⟨[.ref it,.none,.ref bs],ke⟩) R s:=by
 have nw:bs∉wr:=fun q=>jh (W.sub _ q)
 intro k;induction k with
 |zero=>
  intro j s vb c ek ej st pb eb fin;have en:j+1=n:=by lia
  refine codeAny_builtin PySem.F.entry_max_loop (by
   rw[Around.under_plainId PySem.F.plain_max_loop _];show wpAny _ A.in1 (seqItems? (.ref bs)>>=_) _ _ s
   refine wpAny_bind (wpAny_seqItems eb rfl ?_)
   show wpAny _ A.in1 (tryCatch (pyNext (.ref it)) _>>=_) _ _ s
   refine wpAny_bind (wpAny_tryCatch (W.done s _ _ (en ▸ st) fun g tk kp=>?_))
   have ku:=kp bs _ nw eb;show wpAny _ A.in1 (updateSeq bs (fun _=>#[])>>=_) _ _ _
   exact wpAny_bind (wpAny_updateSeq ku rfl (wpAny_bind (wpAny_letGo (wpAny_pure (fin vb _ tk (by rw[<-en];exact pb) fun b o z1 z2 e=>(Heap.get?_update_other _ _ (Ne.symm z2)).trans (kp b o z1 e)))))))
 |succ k ih=>
  intro j s vb c ek ej st pb eb fin;have lt:j+1<n:=by lia
  refine codeAny_builtin PySem.F.entry_max_loop (by
   rw[Around.under_plainId PySem.F.plain_max_loop _];show wpAny _ A.in1 (seqItems? (.ref bs)>>=_) _ _ s
   refine wpAny_bind (wpAny_seqItems eb rfl ?_)
   show wpAny _ A.in1 (tryCatch (pyNext (.ref it)) _>>=_) _ _ s
   refine wpAny_bind (wpAny_tryCatch (W.item (j+1) s _ _ lt st fun v g tk pv aw kp=>?_))
   have ku:=kp bs _ nw eb;show wpAny _ A.in1 (tryCatch (holding [v,v] (richCompare .Gt v vb>>=_)) _>>=_) _ _ _
   refine wpAny_bind (wpAny_tryCatch (wpAny_holding (wpAny_bind (ml (j+1) (argBest bt j) v vb _ _ _ pv pb (wpAny_bind (wpAny_holding (wpAny_truthy_bool (wpAny_bind (wpAny_letGo (wpAny_pure ?_))))))))))
   cases hb:bt (j+1) (argBest bt j)with
   |true=>
    simp only[if_true]
    refine wpAny_bind (wpAny_updateSeq ku rfl (wpAny_bind (wpAny_letGo ?_)))
    rw[aBl]
    refine wpAny_pure ⟨plainId_quiet PySem.F.plain_max_loop _,ih (j+1) _ v _ (by lia) lt (W.frame _ _ _ aw fun b z o e=>?_) (by simp only[argBest,hb,if_true];exact pv) (Heap.get?_update_self _ ku rfl) fun v' g' qg lj qv=>?_⟩
    ·exact(Heap.get?_update_other _ _ (fun q:bs=b=>jh (by rw[q];exact z))).trans e
    ·exact fin v' g' qg lj fun b o z1 z2 e=>qv b o z1 z2 ((Heap.get?_update_other _ _ (Ne.symm z2)).trans (kp b o z1 e))
   |false=>
    simp only[b8,if_false]
    refine wpAny_bind (wpAny_letGo ?_)
    rw[aBl]
    refine wpAny_pure ⟨plainId_quiet PySem.F.plain_max_loop _,ih (j+1) _ vb c (by lia) lt aw (by simp only[argBest,hb,b8,if_false];exact pb) ku fun v' g' qg lj qv=>?_⟩
    exact fin v' g' qg lj fun b o z1 z2 e=>qv b o z1 z2 (kp b o z1 e))
theorem aDc(W:Walks P w A.in1 it fp wr n Pr St)(ml:CmpOf P w A.in1 .Gt Pr bt)(jh:bs∉fp)(hn:0<n)(st:St 0 s.heap)(eb:s.heap.get? bs=some (aDg #[] c))
 (fin:∀v g tk,Pr (argBest bt (n - 1)) v->(∀b o,b∉wr->b≠bs->s.heap.get? b=some o->g.get? b=some o)->R (.ok (.ret v)) {s with heap:=g,toks:=tk}):codeAny (model P w) A (.builtin "max.loop" ⟨[.ref it,.none,.ref bs],ke⟩) R s:=by
 have nw:bs∉wr:=fun q=>jh (W.sub _ q)
 refine codeAny_builtin PySem.F.entry_max_loop (by
  rw[Around.under_plainId PySem.F.plain_max_loop _];show wpAny _ A.in1 (seqItems? (.ref bs)>>=_) _ _ s
  refine wpAny_bind (wpAny_seqItems eb rfl ?_)
  show wpAny _ A.in1 (tryCatch (pyNext (.ref it)) _>>=_) _ _ s
  refine wpAny_bind (wpAny_tryCatch (W.item 0 s _ _ hn st fun v g tk pv aw kp=>?_))
  have ku:=kp bs _ nw eb;show wpAny _ A.in1 (updateSeq bs (fun _=>#[v,v])>>=_) _ _ _
  refine wpAny_bind (wpAny_updateSeq ku rfl ?_)
  rw[aBl]
  refine wpAny_pure ⟨plainId_quiet PySem.F.plain_max_loop _,aFr W ml jh _ 0 _ v _ rfl hn (W.frame _ _ _ aw fun b z o e=>?_) pv (Heap.get?_update_self _ ku rfl) fun v' g' qg lj qv=>?_⟩
  ·exact(Heap.get?_update_other _ _ (fun q:bs=b=>jh (by rw[q];exact z))).trans e
  ·exact fin v' g' qg lj fun b o z1 z2 e=>qv b o z1 z2 ((Heap.get?_update_other _ _ (Ne.symm z2)).trans (kp b o z1 e)))
theorem aFD{d:Value}{nm:Str}(W:Walks P w A.in1 it fp wr 0 Pr St)(jh:bs∉fp)(st:St 0 s.heap)(eb:s.heap.get? bs=some (aDg #[] c))
 (fin:∀g tk,(∀b o,b∉wr->b≠bs->s.heap.get? b=some o->g.get? b=some o)->R (.ok (.ret d)) {s with heap:=g,toks:=tk}):codeAny (model P w) A (.builtin "max.loop" ⟨[.ref it,.none,.ref bs],[(nm,d)]⟩) R s:=by
 refine codeAny_builtin PySem.F.entry_max_loop (by
  rw[Around.under_plainId PySem.F.plain_max_loop _];show wpAny _ A.in1 (seqItems? (.ref bs)>>=_) _ _ s
  refine wpAny_bind (wpAny_seqItems eb rfl ?_)
  show wpAny _ A.in1 (tryCatch (pyNext (.ref it)) _>>=_) _ _ s
  refine wpAny_bind (wpAny_tryCatch (W.done s _ _ st fun g tk kp=>?_))
  exact wpAny_bind (wpAny_rule (wpAny_pure (fin g tk fun b o z1 _ e=>kp b o z1 e))))
end
section
variable {X:Cx}{aa:List (Addr×Obj)}{σ:L2.St}{H:Hp}{s:Shared}{Q:VK}
theorem aFX{p:Addr}{ns:List Int}{d:Int}{t:Tok}(hc:X.calm=true)(I:Inv X aa σ H s)(hq:SqL X.K H p (ns.map V.int))(q:Q (.int (lI d ns)) H):
 wpAny (model X.prog X.w) X.A (call (.builtin "max") [.ref p] [("default",.int d t)]) (EP X aa σ Q) X.xe s:=by
 obtain⟨its,rv,pl,hz⟩:=I.list hq;have hi:=sA rv;obtain⟨ys,hx⟩:=hi.allInts.items;have gk:s.heap.IsList p (intItems ys):=hx ▸ pl.isList;have iq:ns=ys.toList.map (·.1):=by
  rw[<-nums_intItems,<-hx]
  exact(show numsOf its.toArray.toList=ns from hi.numsOf).symm
 refine kmk_tree PySem.F.kind_max PySem.F.plain_max PySem.F.entry_max (aFM _ _) ?_
 show wpAny _ X.A.in1 (Builtin.Builtins.bindParams "max" ["key","default"] 0 ⟨[],[("default",.int d t)]⟩>>=_) _ _ s
 refine wpAny_bind (wpAny_of_eq (show Builtin.Builtins.bindParams "max" ["key","default"] 0 ⟨[],[("default",.int d t)]⟩=pure [none,some (.int d t)]from rfl) (wpAny_bind (wpAny_pure ?_)))
 refine wpAny_bind (iter_intList gk fun s2 e2 st fp ne=>?_)
 subst e2;have W:=Walks.list (prog:=X.prog) (w:=X.w) (A:=X.A.in1) (I.ok.hd hc) s.heap.objs.size p ne (intItems ys);have jh:(s.heap.push {cls:=.type "list_iterator",data:=.fields #[.ref p,.int 0 0]}).objs.size∉[s.heap.objs.size,p]:=fun z=>cQ _ (fp _ z)
 refine wpAny_bind (wpAny_newObj_type ?_)
 rw[aBl]
 refine wpAny_pure ⟨plainId_quiet PySem.F.plain_max_loop _,?_⟩
 by_cases he:ns=[]
 ·have hsz:(intItems ys).size=0:=by
   have h3:ns.length=0:=by rw[he];rfl
   rw[iq,aS,cF]at h3;simpa[intItems]using h3
  rw[hsz]at W
  refine aFD W jh (W.frame _ _ _ st fun b _ o e=>Heap.get?_push_of_some _ e) (Heap.get?_push_size _ rfl) fun g tk kp=>?_
  refine⟨.int d,H,I.kept fun b o e=>kp b o (fun z=>?_) (bU (aPv (Heap.lt_size e) (by rw[Heap.size_push];exact d7 _))) (Heap.get?_push_of_some _ (Heap.get?_push_of_some _ e)),⟨_,rfl⟩,?_⟩
  ·exact cQ _ (bR.mp z ▸ Heap.lt_size e)
  ·have:lI d ns=d:=by unfold lI;rw[he];rfl
   rw[this]at q;exact q
 ·have hsz:0<ys.size:=by
   have h3:0<ns.length:=aOl.mpr he;rw[iq,aS,cF]at h3;exact h3
  refine aDc W (bt:=fun i j=>decide (numAt ys i>numAt ys j)) (CmpOf.ints_gt (numAt ys) (fun _ _=>intItems_at)) jh (by simpa[intItems]using hsz) (W.frame _ _ _ st fun b _ o e=>Heap.get?_push_of_some _ e) (Heap.get?_push_size _ rfl) fun v g tk pv kp=>?_
  have lj:(intItems ys)[argBest (fun i j=>decide (numAt ys i>numAt ys j)) (ys.size - 1)]?=some v:=by simpa[intItems]using pv
  obtain⟨t',rfl⟩:=intItems_at lj;obtain⟨h1,h2⟩:=argBest_gt (numAt ys) (ys.size - 1);obtain⟨m1,m2⟩:=aE8 he;have eM:numAt ys (argBest (fun i j=>decide (numAt ys i>numAt ys j)) (ys.size - 1))=aBD ns:=by
   apply aOB
   ·refine m2 _ ?_
    generalize argBest (fun i j=>decide (numAt ys i>numAt ys j)) (ys.size - 1)=j at*;rw[iq,numAt_eq];exact getD_mem (by rw[aS,cF];lia)
   ·generalize aBD ns=M at*;rw[iq]at m1;obtain⟨j,hj,ej⟩:=mem_getD m1;rw[aS,cF]at hj;rw[<-ej,<-numAt_eq];exact h2 j (by lia)
  refine⟨.int (aBD ns),H,I.kept fun b o e=>kp b o (fun z=>?_) (bU (aPv (Heap.lt_size e) (by rw[Heap.size_push];exact d7 _))) (Heap.get?_push_of_some _ (Heap.get?_push_of_some _ e)),⟨_,by rw[eM]⟩,?_⟩
  ·exact cQ _ (bR.mp z ▸ Heap.lt_size e)
  ·have:lI d ns=aBD ns:=by
    unfold lI;rw[if_neg (by simpa using he)]
   rw[this]at q;exact q
end
def aEG(K:aO):R2:=fun x y H Q=>∃p ns d,x=.ref p/\y=.int d/\SqL K H p (ns.map V.int)/\Q (.int (lI d ns)) H
theorem aM1{K:aO}{σ:L2.St}{H:Hp}{Q:VK}{x y:V}(h:∃t1 t2,trV K σ [t1,t2] [x,y] (aCJ t1 t2) H Q):aEG K x y H Q:=by
 obtain⟨t1,t2,H₀,Z,ρ,τ,C,t,C',R,r,e,k⟩:=h;obtain⟨_,_,z,r1,r⟩:=r.cons_inv;cases z;obtain⟨_,_,z,r2,r⟩:=r.cons_inv;cases z;unfold aCJ at e;split at e
 ·obtain⟨us,e1,e⟩:=aK.mp e;obtain⟨ns,e2,e⟩:=aL.mp e;cases e;obtain⟨a,vs,ea,qa,ra⟩:=R.li r1 e1;have:=aAO ra e2;subst this
  exact⟨a,ns,_,ea,r2.int_inv,qa,k _ H ρ R .int .refl⟩
 ·cases e
section
variable {X:Cx}{p pos kp:Pos}{e de:Expr}{ta tb:TE}{fa fb:FE}
theorem aJn(hm:X.mg "max"=none)(hc:X.calm=true)(ha:PE X e ta)(hb:PE X de tb)(hg:Gl X "max":=by rfl)
 (he:backTo pos (starEach [e] X.env)=(false,eval e X.env)::backTo pos (starEach [] X.env):=by rfl)(av:(backTo pos (starEach [e] X.env)).any (·.1)=false:=by rfl)
 (xk:starEach [e] X.env=(false,eval e X.env)::starEach [] X.env:=by rfl):
 PE X (.Call (.Name "max" p) [e] [⟨some "default",de,kp⟩] pos) (tOp (aEG X.K) ta tb):=by
 intro aa s σ H Q I h
 refine wpAny_Call_Name_kw (qY I hg hm boot_max ?_ (by decide) (by decide))
 refine aPM (thn ((vY ha aDv xk) pos aa s σ H (fun vs H1=>match vs with
  | [x]=>tb σ H1 fun y H2=>aEG X.K x y H2 Q
  |_=>False) I h) fun us s1 ⟨vs,H1,I1,r1,q1⟩=>?_) he av rfl rfl
 match vs,r1,q1 with
 | [x],r1,q1=>
   obtain⟨u,rfl,ru⟩:=vals1 r1
   refine thn ((aJe hb aMH) pos aa s1 σ H1 (fun vs H2=>match vs with
    | [y]=>aEG X.K x y H2 Q
    |_=>False) I1 q1) fun ws s2 ⟨zs,H2,I2,r2,q2⟩=>?_
   match zs,r2,q2 with
   | [y],r2,q2=>
     obtain⟨u2,rfl,lg⟩:=vals1 r2;obtain⟨p,ns,d,rfl,rfl,hq,q⟩:=q2;cases ru;obtain⟨t,rfl⟩:=lg
     exact aFX hc I2 hq q
   | [],_,q2=>exact q2.elim
   |_::_::_,_,q2=>exact q2.elim
 | [],_,q1=>exact q1.elim
 |_::_::_,_,q1=>exact q1.elim
theorem aGg(hm:X.mg "max"=none)(hc:X.calm=true)(ha:QE X e fa)(hb:QE X de fb)(hg:Gl X "max":=by rfl)
 (he:backTo pos (starEach [e] X.env)=(false,eval e X.env)::backTo pos (starEach [] X.env):=by rfl)(av:(backTo pos (starEach [e] X.env)).any (·.1)=false:=by rfl)
 (xk:starEach [e] X.env=(false,eval e X.env)::starEach [] X.env:=by rfl):
 QE X (.Call (.Name "max" p) [e] [⟨some "default",de,kp⟩] pos) (aGu fa fb):=(aJn hm hc ha hb hg he av xk).imp fun _ _ _=>vO (fun _ _ _ _ _=>aM1)
end
section
variable {P:Program}{w:World}{A:Around}{E:Value->Shared->Prop}{s:Shared}{z TI TO i1 i2 l1 l2:Addr}{k1 k2:Nat}{xs ys:Array Value}{x y a b f0 f1:Value}
end
section
variable {X:Cx}{a b e:Expr}{fa fb:FE}{pos p p2:Pos}
variable {own frs:List Str}{is:List Nat}{scope:Scope}{cl:List (Str×Addr)}{x:Str}{ba:Pos}{bf:Expr}{ifs:List Expr}{fe:FE}{g:FG}{gt:FB}
end
section
variable {X:Cx}{a e:Expr}{te:TE}{fa:FE}{pos p2 p3 p4:Pos}
end
section
variable {X:Cx}{a b:Expr}{fa fb:FE}
end
section
variable {X:Cx}{a e tg:Expr}{fa:FE}{pos p p2:Pos}{db:List Stmt}{F:FS}{g:FG}
end
section
variable {X:Cx}{st:Stmt}{db:List Stmt}{F G:FS}
end
end TL
namespace TL
open PySem L2
abbrev XF:=TSt->Sto->Option (String×Sto)
noncomputable def fX(x:XF)(F:FS):FS:=fun τ C=>match x τ C with
 |some (c,C')=>some (.ex c,τ,C')
 |none=>F τ C
noncomputable def fRaise(c:String)(fa:FN):FS:=fun τ C=>(fa τ C).bind fun p=>if p.1.length<=10 then some (.ex c,τ,p.2)else none
def gX(n:Nat)(G:List T->Option String)(ts:List T)(C:Sto):Option String:=if ts.length=n then(if CFs ts=true then G ts else(mapO (dr 3 C) ts).bind G)else none
def xCall(n:Nat)(G:List T->Option String)(fa:FN):XF:=fun τ C=>(fa τ C).bind fun p=>(gX n G p.1 p.2).map fun c=>(c,p.2)
def aM8(B:FS)(m:Nat)(ts:List T):Option String:=match B (st0 m ts) []with
 |some (.ex c,_,_)=>some c
 |_=>none
def xApp(fo:FE)(x:XF):XF:=fun τ C=>(fo τ C).bind fun p=>match p.1 with
 | .cell c=>(lc p.2 c).bind fun _=>x τ p.2
 |_=>none
section
variable {K:aO}{σ:L2.St}{H:Hp}{Q:VK}
end
end TL
namespace TL
open PySem PySem.Spec PyProof.Rows L2
section
variable {K:aO}{W:XW}{σ:L2.St}{H:Hp}{x:XF}
end
section
variable {X:Cx}{aa:List (Addr×Obj)}{σ:L2.St}{H:Hp}{s:Shared}{k:Nat}{f:Addr}{fd:FuncData}{ps:List Str}{sp:Sp}{e a b:Expr}{es:List Expr}{pos p:Pos}{x:XF}{fa fb:FE}{fr:FN}{st:Stmt}{F:FS}
end
section
variable {X:Cx}{aa:List (Addr×Obj)}{σ:L2.St}{H:Hp}{s:Shared}{c:String}{C:Addr}{e₀:Expr}{rest:List Expr}{np ak pos:Pos}{fa:FN}
end
section
variable {P:Program}{w:World}{K:aO}{mg:Str->Option Value}{base:Heap}
end
end TL
namespace PySem
end PySem
namespace TL
open PySem PySem.Spec PyProof.Rows L2
section
variable {X:Cx}{aa:List (Addr×Obj)}{σ:L2.St}{H H':Hp}{s s':Shared}{c:String}{C a:Addr}{B:Heap}
abbrev Cx.at(X:Cx)(A:Around)(calm:Bool)(pn:List (Addr×Obj))(xe:Value->Shared->Prop):Cx:={X with A:=A,calm:=calm,pn:=pn,xe:=xe}
end
section
variable {X:Cx}{tab:String->List String}{rs ds:List String}{d:String}{i:Nat}{n:Str}{F G:FS}{body suite:List Stmt}{b₀:Stmt}{np dm pos:Pos}
end
end TL
namespace PySem.W
open PySem PySem.Spec PySem.Calls PyProof.Rows Builtin Builtin.ObjectAttr Builtin.Getset_descriptor
section
variable {prog:Program}{w:World}{A:Around}{E:Value->Shared->Prop}{s:Shared}{K:Frag}{x C D:Addr}{name:Str}{R:Result->Shared->Prop}
end
section
variable {prog:Program}{w:World}{A:Around}{E:Value->Shared->Prop}{K:Frag}{x C:Addr}{R:Result->Shared->Prop}{h:Heap}{g:Array GenState}{d:Drawn}{t:Nat}{os:OsState}
end
end PySem.W
namespace TL
open PySem PySem.Spec PyProof.Rows L2
section
variable {X:Cx}
variable {tab:String->List String}{rs ds0:List String}{a:Expr}{fa:FE}{p pos ba p2:Pos}{d:String}{ds:List String}{es:List Expr}
end
section
variable {X:Cx}{a e:Expr}{es:List Expr}{fa:FE}{x:XF}{pos:Pos}
end
section
variable {X:Cx}{e:Expr}{es:List Expr}{fr:FN}{p pos:Pos}
end
section
variable {X:Cx}{a b e de:Expr}{fa fb:FE}{x:XF}{p pos kp:Pos}
end
end TL
namespace TL
open PySem L2
abbrev aAe(a b:FE):FE:=jA a b (gIc (fun _ j=>decide (0<j/\j<2^250)) fun i j=>.int (i/j))
def zC(fa:FN):FE:=oS fa fun ts C=>if ts.length<=lim then some (.tup ts,C)else none
section
variable {K:aO}{W:XW}{σ:St}{H:Hp}
theorem aMN{fa:FN}{Q:VK}(hz:lim<=sizeLine)(h:trE K (zC fa) σ H Q):tTup (trA K fa) σ H Q:=by
 obtain⟨H₀,Z,ρ,τ,C,ts,C',R,e,k⟩:=aCi h
 refine⟨H₀,Z,ρ,τ,C,ts,C',R,e,fun vs H1 af R1 h1 s1=>?_⟩
 obtain⟨us,jb,Z',ae,ag,C1,t,C2,R',r,e,k⟩:=k vs H1 af R1 h1 s1;split at e
 ·rename_i hl;cases e
  exact⟨by rw[r.length];exact cA hl hz,fun p hp=>k _ _ ae (R'.alloc hp).1 (R'.alloc_tup hp r) (R'.alloc hp).2⟩
 ·cases e
end
end TL
namespace TL
open PySem PySem.Spec PyProof.Rows L2
section
variable {X:Cx}{a b c e:Expr}{es:List Expr}{fa fb fc:FE}{fr:FN}{p pos:Pos}
theorem aDH{k}(h:QA X es fr):QE X (.Tuple es k pos) (zC fr):=(aM7 h).imp fun _ _ _=>aMN lY
theorem small300{j:Int}(h:0<j/\j<2^250):j.natAbs.log2<9000:=by
 have h0:j.natAbs≠0:=by lia
 have:j.natAbs<2^250:=by
  have h2:=h.2;have:((j.natAbs:Nat):Int)<((2^250:Nat):Int):=by
   rw[aPf (by lia)];simpa using h2
  exact aPS.mp this
 have:=(aP4 h0).mpr this
 lia
theorem aIc:OpR X (binaryOp .FloorDiv) (rI (fun _ j=>0<j/\j<2^250) fun i j=>.int (i/j)):=opI fun i j _ _ _ _ _ hc q=>by
 have h1:(0:Int)<j:=hc.1
 exact floordiv_int (by lia) (by rw[aOI i (by lia)];exact q) (.inl (PyProof.noPylong_of_log2 (small300 hc)))
theorem vW(ha:QE X a fa)(hb:QE X b fb):QE X (.BinOp a .FloorDiv b pos) (aAe fa fb):=(u9 aIc ha hb).imp fun _ _ _=>vO fun _ _ _ _ _ h=>by
 obtain⟨i,j,h1,h2,h3,q⟩:=aG8 (g:=fun i j=>.int (i/j)) (fun _ _ _ _=>.int) h;have h4:0<j/\j<2^250:=of_decide_eq_true h3
 exact⟨i,j,h1,h2,h4,q⟩
end
end TL
namespace TL
open PySem L2
end TL
namespace TL
open PySem PySem.Spec PyProof.Rows L2
section
variable {X:Cx}{e:Expr}{es:List Expr}{fr:FN}{p pos:Pos}
end
end TL
namespace TL
open PySem L2
end TL
namespace TL
open PySem PySem.Spec PyProof.Rows L2
section
variable {X:Cx}{a b:Expr}{fa fb:FE}{p pos:Pos}
end
end TL
namespace TL
open PySem L2
end TL
namespace TL
open PySem PySem.Spec PyProof.Rows L2
section
variable {K:aO}{σ:L2.St}{H:Hp}
end
section
variable {X:Cx}{a b e:Expr}{es:List Expr}{fa fb:FE}{fr:FN}{p pos:Pos}
end
section
variable {X:Cx}{own fr:List Str}{is:List Nat}{scope:Scope}{cl:List (Str×Addr)}{x:Str}
end
section
variable {X:Cx}{p p2 pos:Pos}{own frs:List Str}{is:List Nat}{scope:Scope}{cl:List (Str×Addr)}{tg iter bf:Expr}{ifs:List Expr}{fi fe:FE}{g:FG}{gt:FB}{cx:Str}
end
end TL
namespace TL
open PySem L2
mutual
def sh(k:Nat):T->T
 | .lst ts=>.lst (shs k ts)
 | .tup ts=>.tup (shs k ts)
 | .cell c=>.cell (k+c)
 | .non=>.non
 | .bl b=>.bl b
 | .int i=>.int i
 | .str x=>.str x
 | .exc c=>.exc c
def shs(k:Nat):List T->List T
 | []=>[]
 |t::ts=>sh k t::shs k ts
end
def shc(k:Nat)(x:Cl):Cl:=(x.1,shs k x.2)
section
variable {K:aO}{M:Hp}{ρ ae:Rho}{k:Nat}
mutual
theorem RT.sh(p:∀(c:Nat)(a:Addr),ρ[c]?=some a->ae[k+c]?=some a):∀{t:T}{v:V},RT K M ρ t v->RT K M ae (TL.sh k t) v
 | .non,_,h=>by unfold TL.sh;unfold RT at*;exact h
 | .bl _,_,h=>by unfold TL.sh;unfold RT at*;exact h
 | .int _,_,h=>by unfold TL.sh;unfold RT at*;exact h
 | .str _,_,h=>by unfold TL.sh;unfold RT at*;exact h
 | .lst ts,v,h=>by
   unfold TL.sh;unfold RT at*;obtain⟨a,vs,e,q,r⟩:=h
   exact⟨a,vs,e,q,RTs.sh p r⟩
 | .tup ts,v,h=>by
   unfold TL.sh;unfold RT at*;obtain⟨a,vs,e,q,r⟩:=h
   exact⟨a,vs,e,q,RTs.sh p r⟩
 | .cell c,v,h=>by
   unfold TL.sh;unfold RT at*;obtain⟨a,e,q⟩:=h
   exact⟨a,e,p c a q⟩
 | .exc c,v,h=>by
   unfold TL.sh;unfold RT at*
   exact h
theorem RTs.sh(p:∀(c:Nat)(a:Addr),ρ[c]?=some a->ae[k+c]?=some a):∀{ts:List T}{vs:List V},RTs K M ρ ts vs->RTs K M ae (shs k ts) vs
 | [],_,h=>by unfold shs;unfold RTs at*;exact h
 |t::ts,vs,h=>by
  unfold shs;unfold RTs at*;obtain⟨v,r,e,h1,h2⟩:=h
  exact⟨v,r,e,RT.sh p h1,RTs.sh p h2⟩
end
end
def aBT(K:aO)(n:Nat)(G:List T->Option (T×Sto)):Sp:=fun vs H Q _=>∃Z ts r Cn,ts.length=n/\(∀a,Z a->NT (H a))/\RTs K (mask H Z []) [] ts vs/\G ts=some (r,Cn)/\
 ∀v H' ae ah ag,Rel K H Z ae ag Cn ah H'->RT K (mask H' Z ae) ae r v->Q v H'
theorem aCD{K:aO}{n:Nat}{G:List T->Option (T×Sto)}:∀vs H Q E,aBT K n G vs H Q E->vs.length=n:=fun vs H Q E zz=>by obtain⟨Z,ts,r,Cn,h,_,rr,_⟩:=zz;rw[rr.length,h]
def EndRc(p:T×Sto):Fl×TSt×Sto->Prop
 | (.rt r,_,C)=>p=(r,C)
 |_=>False
def aAP(B:FS)(m:Nat)(ts:List T):Option (T×Sto):=match B (st0 m ts) []with
 |some (.rt r,_,C)=>some (r,C)
 |_=>none
theorem aBM{B:FS}{m n:Nat}:∀ts p,ts.length=n->aAP B m ts=some p->∃r,B (st0 m ts) []=some r/\EndRc p r:=fun ts p _ e=>by
 unfold aAP at e;split at e
 ·rename_i h;cases e;exact⟨_,h,rfl⟩
 ·cases e
section
variable {K:aO}{W:XW}{σ:St}{H:Hp}{Q:VK}{D:Ends}
variable{G:List T->Option (T×Sto)}{fa:FN}
theorem aEp{n m:Nat}{F:FS}{vs:List V}{E:XK}(hG:∀ts p,ts.length=n->G ts=some p->∃r,F (st0 m ts) []=some r/\EndRc p r)(h:aBT K n G vs H Q E):
 trS K W F {nx:=fun _ H'=>Q .non H',rt:=Q} (vs.map some++aX (m - vs.length) none) H:=by
 obtain⟨Z,ts,r,Cn,hn,hz,rr,e,k⟩:=h;obtain⟨⟨fl,ag,C'⟩,e1,e2⟩:=hG ts _ hn e
 refine⟨H,Z,[],st0 m ts,[],fl,ag,C',Rel.start hz rr,e1,fun ah H' ae R' _=>?_⟩
 cases fl with
 |nx=>exact False.elim e2
 |bk=>exact False.elim e2
 |ct=>exact False.elim e2
 |ex c=>exact False.elim e2
 |rt u=>
  cases e2
  exact fun v hv=>k v H' ae ah ag R' hv
def sB(n:Nat)(G:List T->Option (T×Sto))(ts:List T)(C:Sto):Option (T×Sto):=if ts.length=n/\CFs ts=true then(G ts).map fun p=>(sh C.length p.1,C++p.2.map (shc C.length))else none
abbrev tZ(n:Nat)(G:List T->Option (T×Sto))(fa:FN):FE:=oS fa (sB n G)
theorem aJ7{n:Nat}{vs:List V}{E:XK}(h:∃ts,trV K σ ts vs (sB n G ts) H Q):aBT K n G vs H Q E:=by
 obtain⟨ts,H₀,Z,ρ,τ,C,t,C',R,r,e,k⟩:=h;unfold sB at e;split at e
 ·rename_i hn;obtain⟨⟨u,Cn⟩,e1,e⟩:=aL.mp e;cases e
  refine⟨fun a=>Z a\/a∈ρ,ts,u,Cn,hn.1,fun a z=>?_,by rw[aBd];exact r.cf hn.2,e1,fun v H' ae ah ag R' rv=>?_⟩
  ·rcases z with z|z
   ·exact R.zd a z
   ·exact R.cel_some z
  ·have em:mask H' (fun a=>Z a\/a∈ρ) ae=mask H' Z (ρ++ae):=by
    funext a;unfold mask;by_cases h:(Z a\/a∈ρ)\/a∈ae
    ·rw[if_pos h,if_pos (by rcases h with(h|h)|h
                            ·exact .inl h
                            ·exact .inr (bL.mpr (.inl h))
                            ·exact .inr (bL.mpr (.inr h)))]
    ·rw[if_neg h,if_neg (by
      rintro(z|z)
      ·exact h (.inl (.inl z))
      ·rcases bL.mp z with z|z
       ·exact h (.inl (.inr z))
       ·exact h (.inr z))]
   have tu:∀(c:Nat)(a:Addr),ae[c]?=some a->(ρ++ae)[C.length+c]?=some a:=fun c a z=>by
    rw[<-R.len,bI (by lia)];rw[show ρ.length+c - ρ.length=c by lia];exact z
   have st:Step H H' ρ (ρ++ae):=.of R'.old fun a ha=>(R'.frs a ha).1
   have nR:Rel K H₀ Z (ρ++ae) τ (C++Cn.map (shc C.length)) σ H':=by
    refine⟨R.old.trans R'.old,fun a ha=>?_,?_,fun a z=>R'.zd a (.inl z),fun i t e=>?_,fun c a e=>?_,?_,R.lnt⟩
    ·rcases bL.mp ha with ha|ha
     ·exact R.frs a ha
     ·exact⟨R.old.free (R'.frs a ha).1,fun z=>(R'.frs a ha).2 (.inl z)⟩
    ·exact dO.mpr ⟨R.nd,R'.nd,fun a h1 b h2 z=>by subst z;exact(R'.frs a h2).2 (.inr h1)⟩
    ·obtain⟨v,h1,h2⟩:=R.loc i t e
     exact⟨v,h1,h2.step st⟩
    ·by_cases hc:c<ρ.length
     ·rw[aT hc]at e;obtain⟨us,ws,ob,h1,h2,h4,h3⟩:=R.cel c a e
      exact⟨us,ws,ob,by rw[aT (by rw[<-R.len];exact hc)];exact h1,R'.old _ _ h2,h4,h3.step st⟩
     ·rw[bI (by lia)]at e;obtain⟨us,ws,ob,h1,h2,h4,h3⟩:=R'.cel _ a e
      refine⟨shc C.length us,ws,ob,?_,h2,h4,?_⟩
      ·rw[bI (by rw[<-R.len];lia),<-R.len,bH,h1];rfl
      ·rw[em]at h3;exact h3.sh tu
    ·rw[bB,bB,aS,R.len,R'.len]
   rw[em]at rv
   exact k v H' (ρ++ae) nR (rv.sh tu) st
 ·cases e
theorem aKw{n:Nat}{E:XK}(h:trE K (oS fa (sB n G)) σ H Q):aCU (aBT K n G) [] E (trA K fa) σ H Q:=
 qC (aCi h) fun vs _ q=>by rw[aY];exact aJ7 q
def aDj(K:aO)(n:Nat)(G:List T->Sto->Option Sto):Sp:=fun vs H Q _=>∃H₀ Z ρ τ C σ ts C',Rel K H₀ Z ρ τ C σ H/\RTs K (mask H Z ρ) ρ ts vs/\ts.length=n/\G ts C=some C'/\
 ∀H' ae,Rel K H₀ Z ae τ C' σ H'->SStep Z H H' ρ ae->Q .non H'
theorem aGO{n:Nat}{G:List T->Sto->Option Sto}:∀vs H Q E,aDj K n G vs H Q E->vs.length=n:=fun vs H Q E zz=>by obtain⟨H₀,Z,ρ,τ,C,σ,ts,C',R,r,h,_⟩:=zz;rw[r.length,h]
def aCT(B:FS)(m:Nat)(ts:List T)(C:Sto):Option Sto:=match B (st0 m ts) C with
 |some (.nx,_,C')=>some C'
 |_=>none
theorem Rel.locals{H₀:Hp}{Z:Addr->Prop}{ρ:Rho}{τ:TSt}{C:Sto}{ts:List T}{vs:List V}{m:Nat}(R:Rel K H₀ Z ρ τ C σ H)(h:RTs K (mask H Z ρ) ρ ts vs):
 Rel K H₀ Z ρ (st0 m ts) C (vs.map some++aX (m - vs.length) none) H:=by
 refine⟨R.old,R.frs,R.nd,R.zd,fun i t e=>?_,R.cel,R.len,by simp[st0,h.length]⟩
 unfold st0 at e;have hi:i<ts.length:=by
  by_cases hi:i<ts.length
  ·exact hi
  ·rw[bI (by simpa using hi),cT]at e;split at e<;>cases e
 rw[aT (by simpa using hi),bH]at e;cases q:ts[i]?with
 |none=>rw[q]at e;cases e
 |some u=>
  rw[q]at e;cases e;obtain⟨v,h1,h2⟩:=h.get q
  refine⟨v,?_,h2⟩
  rw[aT (by simpa[h.length]using hi),bH,h1];rfl
theorem aJT{n m:Nat}{F:FS}{vs:List V}{E:XK}(h:aDj K n (aCT F m) vs H Q E):
 trS K W F {nx:=fun _ H'=>Q .non H',rt:=Q} (vs.map some++aX (m - vs.length) none) H:=by
 obtain⟨H₀,Z,ρ,τ,C,σ0,ts,C',R,r,hn,e,k⟩:=h;unfold aCT at e;split at e
 ·rename_i ag C2 hF;have e:C2=C':=cO.inj e;subst e
  refine⟨H₀,Z,ρ,st0 m ts,C,.nx,ag,C2,R.locals r,hF,fun ah H' ae R' s'=>?_⟩
  refine k H' ae ⟨R'.old,R'.frs,R'.nd,R'.zd,fun i t e=>?_,R'.cel,R'.len,R.lnt⟩ s'
  obtain⟨v,h1,h2⟩:=R.loc i t e
  exact⟨v,h1,h2.step s'⟩
 ·cases e
noncomputable def aFp(n:Nat)(G:List T->Sto->Option Sto)(fa:FN):FS:=fun τ C=>(fa τ C).bind fun p=>if p.1.length=n then(G p.1 p.2).map fun C'=>(.nx,τ,C')else none
theorem aNm{n:Nat}{G:List T->Sto->Option Sto}{E:XK}(h:trS K W (aFp n G fa) D σ H):aEm (aCU (aDj K n G) [] E (trA K fa)) D σ H:=by
 obtain⟨H₀,Z,ρ,τ,C,fl,ag,C',R,e,k⟩:=h;unfold aFp at e;obtain⟨⟨ts,C1⟩,e1,e⟩:=aK.mp e;dsimp only at e;split at e
 ·rename_i hl;obtain⟨C2,e2,e⟩:=aL.mp e;cases e
  refine⟨H₀,Z,ρ,τ,C,ts,C1,R,e1,fun vs H1 af R1 h1 s1=>?_⟩
  show aDj K n G (vs++[]) H1 (fun x H1=>D.nx σ H1) E;rw[aY]
  exact⟨H₀,Z,af,τ,C1,σ,ts,_,R1,h1,hl,e2,fun H' ae R' s'=>k σ H' ae R' (s1.ss.trans s')⟩
 ·cases e
end
end TL
namespace TL
open PySem PySem.Spec PyProof.Rows L2
section
variable {X:Cx}{e:Expr}{es:List Expr}{fr:FN}{p pos ao:Pos}
structure aCu(P:Program)(w:World)(K:aO)(mg:Str->Option Value)(base:Heap)(k:Nat)(x:Str)(n:Nat)(G:List T->Option (T×Sto)):Prop where
 ex:∃f fd ps,nY P w K mg base CX0 k f fd ps (aBT K n G)/\mg x=some (.ref f)/\cH K (.ref f)=true/\Binds K fd ps []
structure aID(P:Program)(w:World)(K:aO)(mg:Str->Option Value)(base:Heap)(k:Nat)(x:Str)(n:Nat)(G:List T->Sto->Option Sto):Prop where
 ex:∃f fd ps,nY P w K mg base CX0 k f fd ps (aDj K n G)/\mg x=some (.ref f)/\cH K (.ref f)=true/\Binds K fd ps []
theorem aBj{k n:Nat}{x:Str}{G:List T->Option (T×Sto)}(D:aCu X.prog X.w X.K X.mg X.base k x n G)(hr:Room k X.A)(ha:QA X (e::es) fr)(hg:Gl X x:=by rfl)(cr:(x==("__debug__":Str))=false:=by decide)
 (he:starEach (e::es) X.env=(false,eval e X.env)::starEach es X.env:=by rfl)(av:(backTo pos (starEach es X.env)).any (·.1)=false:=by rfl):QE X (.Call (.Name x p) (e::es) [] pos) (tZ n G fr):=by
 obtain⟨f,fd,ps,F,hm,hk,hb⟩:=D.ex
 exact(wH (E:=fun _ _ _=>False) F hr hg hm hk hb .nil (fun _ _ _ _ _ _ _ h=>h.elim) ha cr he av).imp fun _ _ _=>aKw
theorem aMn{k n:Nat}{x:Str}{G:List T->Sto->Option Sto}(D:aID X.prog X.w X.K X.mg X.base k x n G)(hr:Room k X.A)(ha:QA X (e::es) fr)(hg:Gl X x:=by rfl)(cr:(x==("__debug__":Str))=false:=by decide)
 (he:starEach (e::es) X.env=(false,eval e X.env)::starEach es X.env:=by rfl)(av:(backTo pos (starEach es X.env)).any (·.1)=false:=by rfl)(hs:swapsWith (.Call (.Name x p) (e::es) [] pos) none ao.line X.env=pure false:=by rfl):QS X (.Expr (.Call (.Name x p) (e::es) [] pos) ao) (aFp n G fr):=by
 obtain⟨f,fd,ps,F,hm,hk,hb⟩:=D.ex
 exact(v4 (wH (E:=fun _ _ _=>False) F hr hg hm hk hb .nil (fun _ _ _ _ _ _ _ h=>h.elim) ha cr he av) hs).imp fun _ _ _=>aNm
section
variable {own frs:List Str}{is:List Nat}{scope:Scope}{cl:List (Str×Addr)}{bf a b:Expr}{ts ifs:List Expr}{tk}{ba p2 ca:Pos}{fa fb fe:FE}{g:FG}{gt:FB}{x:Str}
end
end
end TL
namespace TL
open PySem L2
noncomputable def getN{α:Type}(f:Str):List Str->List α->Option α
 |n::ns,t::ts=>if f=n then some t else getN f ns ts
 |_,_=>none
noncomputable def pn(f:Str):List Str->List Str
 | []=>[f]
 |n::ns=>if n=f then n::ns else n::pn f ns
noncomputable def pv{α:Type}(f:Str)(t:α):List Str->List α->List α
 | [],_=>[t]
 |n::ns,x::ts=>if n=f then t::ts else x::pv f t ns ts
 |_::_,[]=>[]
theorem vS{f:Str}:∀{ns:List Str}{vs:List V},(ns.zip vs).lookup f=getN f ns vs
 | [],_=>rfl
 |_::_,[]=>rfl
 |n::ns,v::vs=>by
  rw[cC,bY];unfold getN;by_cases h:f=n
  ·rw[if_pos h,beq_iff_eq.mpr h]
  ·rw[if_neg h,(beq_eq_false_iff_ne).mpr h];exact vS
theorem aA4{f:Str}{v:V}:∀{ns:List Str}{vs:List V},ns.length=vs.length->pH f v (ns.zip vs)=(pn f ns).zip (pv f v ns vs)
 | [],_,_=>rfl
 |_::_,[],h=>by cases h
 |n::ns,x::vs,h=>by
  rw[cC];unfold pH pn pv;split
  ·rfl
  ·rw[aA4 (by simpa using h),cC]
theorem aDq{α:Type}{f:Str}{t:α}:∀{ns:List Str}{ts:List α},ns.length=ts.length->(pn f ns).length=(pv f t ns ts).length
 | [],_,_=>rfl
 |_::_,[],h=>by cases h
 |n::ns,x::ts,h=>by
  have h':ns.length=ts.length:=by simpa using h
  unfold pn pv;split
  ·simpa using h'
  ·simpa using aDq h'
section
variable {K:aO}{M:Hp}{ρ:Rho}
theorem RTs.getN{f:Str}:∀{ns:List Str}{ts:List T}{vs:List V}{t:T},RTs K M ρ ts vs->TL.getN f ns ts=some t->∃v,TL.getN f ns vs=some v/\RT K M ρ t v
 | [],ts,vs,t,_,e=>by unfold TL.getN at e;cases e
 |_::_,[],vs,t,_,e=>by unfold TL.getN at e;cases e
 |n::ns,x::ts,vs,t,h,e=>by
  obtain⟨v,r,rfl,h1,h2⟩:=h.cons_inv;unfold TL.getN at e|-;split at e
  ·rename_i hn;cases e;exact⟨v,if_pos hn,h1⟩
  ·rename_i hn;rw[if_neg hn];exact RTs.getN h2 e
theorem RTs.pv{f:Str}{t:T}{v:V}(h0:RT K M ρ t v):∀{ns:List Str}{ts:List T}{vs:List V},RTs K M ρ ts vs->RTs K M ρ (TL.pv f t ns ts) (TL.pv f v ns vs)
 | [],_,_,_=>.cons h0 .nil
 |n::ns,[],vs,h=>by rw[h.nil_inv];exact .nil
 |n::ns,x::ts,vs,h=>by
  obtain⟨u,r,rfl,h1,h2⟩:=h.cons_inv;unfold TL.pv;split
  ·exact .cons h0 h2
  ·exact .cons h1 (RTs.pv h0 h2)
end
noncomputable def oc(cls:String)(C:Sto):T->Option (Nat×List Str×List T)
 | .cell c=>(C[c]?).bind fun x=>match x.1 with
   | .o k ns=>if k=cls then some (c,ns,x.2)else none
   |_=>none
 |_=>none
theorem aIR{cls:String}{C:Sto}{t:T}{c:Nat}{ns:List Str}{ts:List T}(h:oc cls C t=some (c,ns,ts)):t=.cell c/\C[c]?=some (.o cls ns,ts):=by
 unfold oc at h;split at h
 ·obtain⟨⟨k,us⟩,e,h⟩:=aK.mp h;dsimp only at h;split at h
  ·split at h
   ·rename_i hk;cases h;cases hk;exact⟨rfl,e⟩
   ·cases h
  ·cases h
 ·cases h
def iQ(K:aO)(cls:String)(f:Str):Prop:=∀C,bV K mainGlobals (Str.ofString cls)=some (some (.ref C))->Cls K C/\o8 K C f
def aFO(cls:String)(f:Str)(t:T)(C:Sto):Option (T×Sto):=(oc cls C t).bind fun x=>(getN f x.2.1 x.2.2).map fun u=>(u,C)
abbrev kY(cls:String)(f:Str)(a:FE):FE:=fUn a (aFO cls f)
def oI(cls:String)(f:Str)(fo fe:FE):FS:=fun τ C=>(fe τ C).bind fun p=>(fo τ p.2).bind fun q=>(oc cls q.2 q.1).bind fun x=>if x.2.1.length<900 then some (.nx,τ,q.2.set x.1 (.o cls (pn f x.2.1),pv f p.1 x.2.1 x.2.2))else none
def vC(cls:String)(f:Str)(g:Int->Int->Int)(fo fe:FE):FS:=fun τ C=>(fo τ C).bind fun q=>(oc cls q.2 q.1).bind fun x=>(getN f x.2.1 x.2.2).bind fun old=>match old with
 | .int i=>(fe τ q.2).bind fun p=>match p.1 with
   | .int j=>(oc cls p.2 q.1).bind fun y=>if y.2.1.length<900 then some (.nx,τ,p.2.set y.1 (.o cls (pn f y.2.1),pv f (.int (g i j)) y.2.1 y.2.2))else none
   |_=>none
 |_=>none
section
variable {K:aO}{W:XW}{σ:St}{H:Hp}{Q:VK}{D:Ends}{cls:String}{f:Str}
theorem Rel.oc{H₀:Hp}{Z:Addr->Prop}{ρ:Rho}{τ:TSt}{C:Sto}{t:T}{v:V}{c:Nat}{ns:List Str}{ts:List T}(R:Rel K H₀ Z ρ τ C σ H)(h:RT K (mask H Z ρ) ρ t v)(e:TL.oc cls C t=some (c,ns,ts)):
 ∃a Cl dx vs,v=.ref a/\ρ[c]?=some a/\ns.length=vs.length/\bV K mainGlobals (Str.ofString cls)=some (some (.ref Cl))/\H a=some (.ins Cl dx (ns.zip vs))/\RTs K (mask H Z ρ) ρ ts vs:=by
 obtain⟨rfl,e0⟩:=aIR e;unfold RT at h;obtain⟨a,ev,q⟩:=h;obtain⟨x,vs,ob,h1,h2,h3,h4⟩:=R.cel c a q;rw[e0]at h1;cases h1;obtain⟨hl,Cl,dx,hn,ho⟩:=h3;subst ho
 exact⟨a,Cl,dx,vs,ev,q,hl,hn,h2,h4⟩
theorem aNX{fa:FE}(hc:iQ K cls f)(h:trE K (kY cls f fa) σ H Q):tFld K (trE K fa) f σ H Q:=by
 refine iP (aLG h) fun x H1 q=>?_
 obtain⟨t1,H₀,Z,ρ,τ,C,t,C',R,r,e,k⟩:=q;obtain⟨_,_,z,r1,r⟩:=r.cons_inv;cases z;unfold aFO at e;obtain⟨⟨c,ns,ts⟩,e1,e⟩:=aK.mp e;obtain⟨u,e2,e⟩:=aL.mp e;cases e;obtain⟨a,Cl,dx,vs,ev,q,hl,hn,hH,hr⟩:=R.oc r1 e1;obtain⟨v,e3,rv⟩:=hr.getN e2;obtain⟨h1,h2⟩:=hc Cl hn
 exact⟨a,Cl,dx,_,v,ev,hH,h1,h2,by rw[vS];exact e3,k v H1 ρ R rv .refl⟩
theorem aNz{fo fe:FE}(hc:iQ K cls f)(h:trS K W (oI cls f fo fe) D σ H):sFld K (trE K fo) (trE K fe) f D σ H:=by
 obtain⟨H₀,Z,ρ,τ,C,fl,ag,C',R,e,k⟩:=h;unfold oI at e;obtain⟨⟨t1,C1⟩,e1,e⟩:=aK.mp e;obtain⟨⟨t2,C2⟩,e2,e⟩:=aK.mp e;obtain⟨⟨c,ns,ts⟩,e3,e⟩:=aK.mp e;dsimp only at e;split at e
 ·rename_i hl9;cases e
  refine⟨H₀,Z,ρ,τ,C,t1,C1,R,e1,fun y H1 af R1 h1 s1=>?_⟩
  refine⟨H₀,Z,af,τ,C1,t2,C2,R1,e2,fun x H2 ar R2 h2 s2=>?_⟩
  obtain⟨a,Cl,dx,vs,ev,q,hl,hn,hH,hr⟩:=R2.oc h2 e3;obtain⟨p1,p2⟩:=hc Cl hn;obtain⟨w1,w2⟩:=R2.put (kd:=.o cls (pn f ns)) (ob:=.ins Cl dx ((pn f ns).zip (pv f y ns vs))) q (by rw[hH];trivial) ⟨aDq hl,Cl,dx,hn,rfl⟩ (hr.pv (h1.step s2))
  exact⟨a,Cl,dx,_,ev,hH,p1,p2,by rw[dF];lia,by rw[aA4 hl];exact k σ _ ar w1 ((s1.trans s2).ss.trans w2)⟩
 ·cases e
theorem aCs{fo fe:FE}{g:Int->Int->Int}{rd:V->V->Hp->VK->Prop}(rn:∀i j H Q,Q (.int (g i j)) H->rd (.int i) (.int j) H Q)(hc:iQ K cls f)(h:trS K W (vC cls f g fo fe) D σ H):sFldAug K (trE K fo) (trE K fe) rd f D σ H:=by
 obtain⟨H₀,Z,ρ,τ,C,fl,ag,C',R,e,k⟩:=h;unfold vC at e;obtain⟨⟨t1,C1⟩,e1,e⟩:=aK.mp e;obtain⟨⟨c,ns,ts⟩,e3,e⟩:=aK.mp e;obtain⟨old,e4,e⟩:=aK.mp e;dsimp only at e;split at e
 ·rename_i i;obtain⟨⟨t2,C2⟩,e2,e⟩:=aK.mp e;dsimp only at e;split at e
  ·rename_i j;obtain⟨⟨c2,ur,ts2⟩,e5,e⟩:=aK.mp e;dsimp only at e;split at e
   ·rename_i hl9;cases e
    refine⟨H₀,Z,ρ,τ,C,t1,C1,R,e1,fun x H1 af R1 h1 s1=>?_⟩
    obtain⟨a,Cl,dx,vs,ev,q,hl,hn,hH,hr⟩:=R1.oc h1 e3;obtain⟨v,e6,rv⟩:=hr.getN e4;obtain⟨p1,p2⟩:=hc Cl hn
    refine⟨a,Cl,dx,_,v,ev,hH,p1,p2,by rw[vS];exact e6,?_⟩
    refine⟨H₀,Z,af,τ,C1,_,C2,R1,e2,fun y H2 ar R2 h2 s2=>?_⟩
    rw[rv.int_inv,h2.int_inv]
    refine rn i j H2 _ ?_
    obtain⟨a',Cl',ms,vs',ik,q',gk,kj,vd,xu⟩:=R2.oc (h1.step s2) e5;rw[ev]at ik;cases ik;rw[hn]at kj;cases kj;obtain⟨w1,w2⟩:=R2.put (kd:=.o cls (pn f ur)) (ob:=.ins Cl ms ((pn f ur).zip (pv f (.int (g i j)) ur vs'))) (ts:=pv f (.int (g i j)) ur ts2) q' (by rw[vd];trivial) ⟨aDq gk,Cl,ms,hn,rfl⟩ (xu.pv .int)
    exact⟨ms,_,vd,by rw[dF];lia,by rw[aA4 gk];exact k σ _ ar w1 ((s1.trans s2).ss.trans w2)⟩
   ·cases e
  ·cases e
 ·cases e
end
end TL
namespace TL
open PySem PySem.Spec PyProof.Rows L2
section
variable {X:Cx}{e o value:Expr}{fa fo fe:FE}{cls:String}{f:Str}{pos ao ba:Pos}
theorem jS(hc:iQ X.K cls f)(he:QE X e fa)(hb:attributeBase e f X.env (eval e X.env)=eval e X.env:=by rfl):QE X (.Attribute e f pos) (kY cls f fa):=(aMS he hb).imp fun _ _ _=>aNX hc
theorem pE(hc:iQ X.K cls f)(ho:QE X o fo)(hv:QE X value fe)(hs:swapsWith value (some (.Attribute o f ao)) pos.line X.env=pure false:=by rfl):QS X (.Assign [.Attribute o f ao] value pos) (oI cls f fo fe):=(aLz ho hv hs).imp fun _ _ _=>aNz hc
theorem aE3(hc:iQ X.K cls f)(ho:QE X o fo)(hv:QE X value fe):QS X (.AugAssign (.Attribute o f ba) .Add value pos) (vC cls f (fun i j=>i+j) fo fe):=(aAQ ho hv aMY).imp fun _ _ _=>aCs (fun i j H Q q=>⟨i,j,rfl,rfl,q⟩) hc
theorem aFP(hc:iQ X.K cls f)(ho:QE X o fo)(hv:QE X value fe):QS X (.AugAssign (.Attribute o f ba) .Sub value pos) (vC cls f (fun i j=>i - j) fo fe):=(aAQ ho hv aHp).imp fun _ _ _=>aCs (fun i j H Q q=>⟨i,j,rfl,rfl,q⟩) hc
end
end TL
namespace TL
open PySem L2
def spS(K:aO)(n:Nat)(G:List T->Sto->Option (T×Sto)):Sp:=fun vs H Q _=>∃H₀ Z ρ τ C σ ts r C',Rel K H₀ Z ρ τ C σ H/\RTs K (mask H Z ρ) ρ ts vs/\ts.length=n/\G ts C=some (r,C')/\
 ∀v H' ae,Rel K H₀ Z ae τ C' σ H'->RT K (mask H' Z ae) ae r v->Step H H' ρ ae->Q v H'
def nA(B:FS)(m:Nat)(ts:List T)(C:Sto):Option (T×Sto):=match B (st0 m ts) C with
 |some (.nx,_,C')=>some (.non,C')
 |some (.rt r,_,C')=>some (r,C')
 |_=>none
section
variable {K:aO}{W:XW}{σ:St}{H:Hp}{Q:VK}{D:Ends}
variable{G:List T->Sto->Option (T×Sto)}{fa:FN}{cls:String}{Ca:Addr}
theorem jB{n:Nat}:∀vs H Q E,spS K n G vs H Q E->vs.length=n:=fun vs H Q E zz=>by obtain⟨H₀,Z,ρ,τ,C,σ,ts,r,C',R,rr,h,_⟩:=zz;rw[rr.length,h]
theorem Rel.back{H₀:Hp}{Z:Addr->Prop}{ρ ae:Rho}{τ ag:TSt}{C C':Sto}{ah:St}{H':Hp}(R:Rel K H₀ Z ρ τ C σ H)(R':Rel K H₀ Z ae ag C' ah H')(s:Step H H' ρ ae):Rel K H₀ Z ae τ C' σ H':=
 ⟨R'.old,R'.frs,R'.nd,R'.zd,fun i t e=>let ⟨v,h1,h2⟩:=R.loc i t e;⟨v,h1,h2.step s⟩,R'.cel,R'.len,R.lnt⟩
theorem j4{n m:Nat}{F:FS}{vs:List V}{E:XK}(h:spS K n (nA F m) vs H Q E):
 trS K W F {nx:=fun _ H'=>Q .non H',rt:=Q} (vs.map some++aX (m - vs.length) none) H:=by
 obtain⟨H₀,Z,ρ,τ,C,σ0,ts,r,C',R,rr,hn,e,k⟩:=h;unfold nA at e;split at e
 ·rename_i ag C2 hF;cases e
  refine⟨H₀,Z,ρ,st0 m ts,C,.nx,ag,C',R.locals rr,hF,fun ah H' ae R' s'=>?_⟩
  exact k .non H' ae (R.back R' s') .non s'
 ·rename_i u ag C2 hF;cases e
  refine⟨H₀,Z,ρ,st0 m ts,C,.rt r,ag,C',R.locals rr,hF,fun ah H' ae R' s'=>?_⟩
  exact fun v hv=>k v H' ae (R.back R' s') hv s'
 ·cases e
noncomputable def qG(n:Nat)(G:List T->Sto->Option (T×Sto))(ts:List T)(C:Sto):Option (T×Sto):=if ts.length=n then G ts C else none
abbrev kU(n:Nat)(G:List T->Sto->Option (T×Sto))(fa:FN):FE:=oS fa (qG n G)
theorem aBB{n:Nat}{vs:List V}{E:XK}(h:∃ts,trV K σ ts vs (qG n G ts) H Q):spS K n G vs H Q E:=by
 obtain⟨ts,H₀,Z,ρ,τ,C,t,C',R,r,e,k⟩:=h;unfold qG at e;split at e
 ·rename_i hn
  exact⟨H₀,Z,ρ,τ,C,σ,ts,t,C',R,r,hn,e,fun v H' ae R' rv s=>k v H' ae R' rv s⟩
 ·cases e
theorem aJ2{n:Nat}{E:XK}(h:trE K (kU n G fa) σ H Q):aCU (spS K n G) [] E (trA K fa) σ H Q:=
 qC (aCi h) fun vs _ q=>by rw[aY];exact aBB q
def jW(cls:String)(m:Str)(n:Nat)(G:List T->Sto->Option (T×Sto))(fo:FE)(fa:FN):FE:=fun τ C=>(fo τ C).bind fun p=>(oc cls p.2 p.1).bind fun x=>match getN m x.2.1 x.2.2 with
 |some _=>none
 |none=>(fa τ p.2).bind fun q=>qG n G (p.1::q.1) q.2
theorem aAi{α β:Type}{f:Str}:∀{ns:List Str}{ts:List α}{vs:List β},ts.length=vs.length->getN f ns ts=none->getN f ns vs=none
 | [],_,_,_,_=>by unfold getN;rfl
 |_::_,[],[],_,_=>by unfold getN;rfl
 |_::_,[],_::_,h,_=>by cases h
 |_::_,_::_,[],h,_=>by cases h
 |n::ns,t::ts,v::vs,h,e=>by
  unfold getN at e|-;split at e
  ·cases e
  ·rename_i hn;rw[if_neg hn];exact aAi (by simpa using h) e
theorem aHu{m:Str}{n:Nat}{fo:FE}{E:XK}(hc:bV K mainGlobals (Str.ofString cls)=some (some (.ref Ca)))(h:trE K (jW cls m n G fo fa) σ H Q):aGQ Ca m (spS K n G) [] E (trE K fo) (trA K fa) σ H Q:=by
 obtain⟨H₀,Z,ρ,τ,C,t,C',R,e,k⟩:=h;unfold jW at e;obtain⟨⟨t1,C1⟩,e1,e⟩:=aK.mp e;obtain⟨⟨c,ns,ts⟩,e2,e⟩:=aK.mp e;dsimp only at e2 e;split at e
 ·cases e
 ·rename_i hm;obtain⟨⟨us,C2⟩,e3,e⟩:=aK.mp e;dsimp only at e3 e
  refine⟨H₀,Z,ρ,τ,C,t1,C1,R,e1,fun x H1 af R1 h1 s1=>?_⟩
  obtain⟨a,Cl,dx,vs,ev,q,hl,hn,hH,hr⟩:=R1.oc h1 e2;rw[hc]at hn;cases hn
  refine⟨a,dx,_,ev,hH,by rw[vS];exact aAi (by rw[hr.length]) hm,?_⟩
  refine⟨H₀,Z,af,τ,C1,us,C2,R1,e3,fun ws H2 ar R2 h2 s2=>?_⟩
  dsimp only;rw[aY]
  exact aBB ⟨t1::us,H₀,Z,ar,τ,C2,t,C',R2,.cons (h1.step s2) h2,e,fun v H3 bb R3 h3 s3=>k v H3 bb R3 h3 ((s1.trans s2).trans s3)⟩
def sS(cls:String)(n:Nat)(G:List T->Sto->Option (T×Sto))(gp:List T)(fa:FN):FE:=fun τ C=>(fa τ C).bind fun p=>(qG n G (.cell p.2.length::(p.1++gp)) (p.2++[(.o cls [],[])])).bind fun q=>match q.1 with
 | .non=>some (.cell p.2.length,q.2)
 |_=>none
theorem aLW{n:Nat}{gp:List T}{bn:List V}{E:XK}(hc:bV K mainGlobals (Str.ofString cls)=some (some (.ref Ca)))(hd:∀M ρ,RTs K M ρ gp bn)
 (h:trE K (sS cls n G gp fa) σ H Q):tMake Ca (spS K n G) bn E (trA K fa) σ H Q:=by
 obtain⟨H₀,Z,ρ,τ,C,t,C',R,e,k⟩:=h;unfold sS at e;obtain⟨⟨ts,C1⟩,e1,e⟩:=aK.mp e;obtain⟨⟨r,C2⟩,e2,e⟩:=aK.mp e;dsimp only at e2 e;split at e
 ·cases e
  refine⟨H₀,Z,ρ,τ,C,ts,C1,R,e1,fun vs H1 af R1 h1 s1 x dx hx hdx ay=>?_⟩
  obtain⟨R2,s2⟩:=R1.alloc (o:=.own x) hdx;have hx2:upd H1 dx (.own x) x=none:=by rw[fO (Ne.symm ay)];exact hx
  obtain⟨R3,s3,r3⟩:=R2.alloc_cl (kd:=.o cls []) (ts:=[]) (vs:=[]) (ob:=.ins Ca dx []) hx2 ⟨rfl,Ca,dx,hc,rfl⟩ .nil
  refine aBB (σ:=σ) ⟨.cell C1.length::(ts++gp),H₀,Z,af++[x],τ,C1++[(.o cls [],[])],.non,_,R3,.cons r3 (((h1.step s2).step s3).append (hd _ _)),e2,fun v H4 jn R4 h4 s4=>⟨h4.non_inv,?_⟩⟩
  exact k _ H4 jn R4 (r3.step s4) (((s1.trans s2).trans s3).trans s4)
 ·cases e
end
end TL
namespace L2
open PySem PySem.Spec PyProof.Rows
section
variable {κ:Type}[DecidableEq κ]
variable{p:κ×V}{r kvs:List (κ×V)}{o:Option V}{u:Option Value}
noncomputable def uE(kvs:List (κ×V))(k:κ):Option V:=(kvs.find? fun kv=>decide (kv.1=k)).map (·.2)
noncomputable def putK(kvs:List (κ×V))(k:κ)(v:V):List (κ×V):=
 if(kvs.any fun kv=>decide (kv.1=k))=true then kvs.map (fun kv=>if kv.1=k then(kv.1,v)else kv)else kvs++[(k,v)]
theorem tV{k:κ}(e:p.1=k):uE (p::r) k=some p.2:=by simp[uE,c9,e]
theorem qA{k:κ}(e:¬p.1=k):uE (p::r) k=uE r k:=by simp[uE,c9,e]
theorem aCf(k:κ):∀kvs:List (κ×V),(kvs.any fun kv=>decide (kv.1=k))=(uE kvs k).isSome
 | []=>rfl
 |p::r=>by
  rw[aOw];by_cases e:p.1=k
  ·simp only[tV e,decide_eq_true e,Bool.true_or,Option.isSome_some]
  ·rw[qA e,decide_eq_false e,Bool.false_or];exact aCf k r
theorem p9(kvs:List (κ×V))(k:κ)(v:V):(putK kvs k v).length<=kvs.length+1:=by
 unfold putK;split
 ·rw[aS];lia
 ·rw[bB,aN,aP];lia
theorem p7.isSome_eq(r:p7 o u):o.isSome=u.isSome:=by
 cases o with
 |none=>cases u with
  |none=>rfl
  |some _=>exact(show False from r).elim
 |some _=>cases u with
  |none=>exact(show False from r).elim
  |some _=>rfl
theorem p7.getD{d:V}{d':Value}(r:p7 o u)(rd:RelV d d'):RelV (o.getD d) (u.getD d'):=by
 cases o with
 |none=>cases u with
  |none=>exact rd
  |some _=>exact(show False from r).elim
 |some _=>cases u with
  |none=>exact(show False from r).elim
  |some _=>exact r
theorem KV.val{vs:List (κ×Value)}(r:KV kvs vs)(k:κ):p7 (uE kvs k) (valueAt vs k):=by
 unfold KV at r;induction r with
 |nil=>exact True.intro
 | @cons p q ps qs h t ih=>
   obtain⟨h1,h2⟩:=h;by_cases e:p.1=k
   ·have e':q.1=k:=h1.symm.trans e;have b:valueAt (q::qs) k=some q.2:=by simp[valueAt,c9,e']
    rw[tV e,b];exact h2
   ·have e':¬q.1=k:=fun z=>e (h1.trans z)
    have b:valueAt (q::qs) k=valueAt qs k:=by simp[valueAt,c9,e']
    rw[qA e,b];exact ih
theorem KV.any{vs:List (κ×Value)}(r:KV kvs vs)(k:κ):(kvs.any fun kv=>decide (kv.1=k))=vs.any fun kv=>decide (kv.1=k):=by
 unfold KV at r;induction r with
 |nil=>rfl
 |cons h t ih=>rw[aOw,aOw,ih,h.1]
theorem KV.repl{vs:List (κ×Value)}(r:KV kvs vs)(k:κ){y:V}{u:Value}(ry:RelV y u):
 KV (kvs.map fun kv=>if kv.1=k then(kv.1,y)else kv) (vs.map fun kv=>if kv.1=k then(kv.1,u)else kv):=by
 unfold KV at r|-;induction r with
 |nil=>exact .nil
 | @cons p q ps qs h t ih=>
   rw[aM,aM]
   refine .cons ?_ ih
   obtain⟨h1,h2⟩:=h;by_cases e:p.1=k
   ·rw[if_pos e,if_pos (h1.symm.trans e)];exact⟨h1,ry⟩
   ·rw[if_neg e,if_neg (fun z=>e (h1.trans z))];exact⟨h1,h2⟩
theorem KV.put{vs:List (κ×Value)}(r:KV kvs vs)(k:κ){y:V}{u:Value}(ry:RelV y u):KV (putK kvs k y) (stored vs k u):=by
 unfold putK stored;rw[r.any k];by_cases e:(vs.any fun kv=>decide (kv.1=k))=true
 ·rw[if_pos e,if_pos e];exact r.repl k ry
 ·rw[if_neg e,if_neg e];exact Paired.snoc r ⟨rfl,ry⟩
theorem KV.length{vs:List (κ×Value)}(r:KV kvs vs):kvs.length=vs.length:=Paired.length r
end
variable{u:Value}{kvs:List (List Key×V)}{xs:List (List Key×Addr×Value)}
theorem xJ{P:Program}{w:World}{k:Key}(r:RelV (kV k) u):(i6 P w).is k u=true:=by
 cases k with
 |inl i=>obtain⟨t,e⟩:=(show∃t,u=Value.int i t from r);subst e;exact aCQ P w i t
 |inr x=>obtain⟨t,e⟩:=(show∃t,u=Value.str x t from r);subst e;exact aCO P w x t
theorem aAh{P:Program}{w:World}:∀{ks:List Key}{us:List Value},Vals (ks.map kV) us->ItemsAre (i6 P w) ks us
 | [],_,r=>by rw[bC]at r;cases r;exact .nil
 |k::ks,_,r=>by
  rw[aM]at r;cases r with
  |cons h t=>exact .cons (xJ h) (aAh t)
abbrev KT(H:Hp):List (List Key×V)->List (List Key×Addr×Value)->Prop:=Paired fun p q=>p.1=q.1/\H q.2.1=some (.tup (p.1.map kV))/\RelV p.2 q.2.2
theorem KT.val{H:Hp}(r:KT H kvs xs)(k:List Key):p7 (uE kvs k) ((atKey xs k).map (·.2)):=by
 induction r with
 |nil=>exact True.intro
 | @cons p q ps qs h t ih=>
   obtain⟨h1,_,h2⟩:=h;by_cases e:p.1=k
   ·have e':q.1=k:=h1.symm.trans e;have b:atKey (q::qs) k=some q.2:=by simp[atKey,c9,e']
    rw[tV e,b];exact h2
   ·have e':¬q.1=k:=fun z=>e (h1.trans z)
    have b:atKey (q::qs) k=atKey qs k:=by simp[atKey,c9,e']
    rw[qA e,b];exact ih
theorem KT.repl{H:Hp}(r:KT H kvs xs)(k:List Key){y:V}(ry:RelV y u):
 KT H (kvs.map fun kv=>if kv.1=k then(kv.1,y)else kv) (xs.map (putAt k u)):=by
 induction r with
 |nil=>exact .nil
 | @cons p q ps qs h t ih=>
   rw[aM,aM]
   refine .cons ?_ ih
   obtain⟨h1,h2,h3⟩:=h;unfold putAt;by_cases e:p.1=k
   ·rw[if_pos e,if_pos (h1.symm.trans e)];exact⟨h1,h2,ry⟩
   ·rw[if_neg e,if_neg (fun z=>e (h1.trans z))];exact⟨h1,h2,h3⟩
theorem KT.put{H:Hp}(r:KT H kvs xs)(k:List Key){b:Addr}{y:V}(hb:H b=some (.tup (k.map kV)))(ry:RelV y u):
 KT H (putK kvs k y) (storedH xs k b u):=by
 have e:(kvs.any fun kv=>decide (kv.1=k))=(atKey xs k).isSome:=by
  rw[aCf,(r.val k).isSome_eq,aOT]
 unfold putK storedH;rw[e];by_cases q:(atKey xs k).isSome=true
 ·rw[if_pos q,if_pos q];exact r.repl k ry
 ·rw[if_neg q,if_neg q];exact Paired.snoc r ⟨rfl,hb,ry⟩
theorem KT.keeps{H H':Hp}(r:KT H kvs xs)(ht:∀b ys,H b=some (.tup ys)->H' b=some (.tup ys)):KT H' kvs xs:=
 Paired.mapP r fun _ _ z=>⟨z.1,ht _ _ z.2.1,z.2.2⟩
section
variable {P:Program}{w:World}{H:Hp}{h:Heap}{a:Addr}
theorem aK8{u:HO}(ok:HOk P w H h)(e:Rd H a u):jQ P w H h a u:=e.ok ok
theorem xN{kvs:List (Key×V)}(ok:HOk P w H h)(e:Rd H a (.dK kvs)):kvs.length<=sizeLine/\(a==sysModules)=false/\∃vs,KV kvs vs/\h.DictOf (i6 P w) a vs:=
 show jQ P w H h a (.dK kvs)from aK8 ok e
theorem aEn{kvs:List (Key×V)}(ok:HOk P w H h)(e:H a=some (.dK kvs)):kvs.length<=sizeLine/\(a==sysModules)=false/\∃vs,KV kvs vs/\h.DictOf (i6 P w) a vs:=xN ok (.inl e)
theorem uO{ks:List Key}(ok:HOk P w H h)(e:H a=some (.tup (ks.map kV))):(tupleKind (i6 P w)).is h ks a:=by
 obtain⟨_,its,r,o,h1,h2,n,h3⟩:=(show jQ P w H h a (.tup (ks.map kV))from ok a _ e)
 exact⟨o,its.toArray,n,h1,h2,h3,by simpa using aAh r⟩
theorem yH{kvs:List (List Key×V)}(ok:HOk P w H h)(e:Rd H a (.dT kvs)):kvs.length<=sizeLine/\(a==sysModules)=false/\
 ∃xs,KT H kvs xs/\h.DictOfH (tupleKind (i6 P w)) a xs:=by
 obtain⟨z,y,xs,r,o,es,ep,h1,h2,h3,h4,h5⟩:=(show jQ P w H h a (.dT kvs)from aK8 ok e)
 refine⟨z,y,xs,r,o,es,ep,h1,h2,h3,h4,fun x hx=>?_,h5⟩
 have all:∀{l:List (List Key×V)}{m:List (List Key×Addr×Value)},KT H l m->∀x∈m,(tupleKind (i6 P w)).is h x.1 x.2.1:=by
  intro l m q;induction q with
  |nil=>intro x hx;exact nomatch hx
  | @cons p q ps qs hq t ih=>
    intro x hx;rcases bE.mp hx with e|hx
    ·subst e
     exact uO ok (by rw[<-hq.1];exact hq.2.1)
    ·exact ih x hx
 exact all r x hx
theorem aNo{kvs:List (List Key×V)}(ok:HOk P w H h)(e:H a=some (.dT kvs)):kvs.length<=sizeLine/\(a==sysModules)=false/\
 ∃xs,KT H kvs xs/\h.DictOfH (tupleKind (i6 P w)) a xs:=yH ok (.inl e)
end
def rY(H:Hp)(a:Addr)(y:V)(r:Option V):Prop:=
 (∃kvs k,Rd H a (.dK kvs)/\y=kV k/\r=uE kvs k)\/∃kvs k b,Rd H a (.dT kvs)/\y=.ref b/\H b=some (.tup (k.map kV))/\r=uE kvs k
def zO(H:Hp)(a:Addr)(y v:V)(H':Hp):Prop:=
 (∃kvs k,H a=some (.dK kvs)/\y=kV k/\kvs.length<sizeLine/\H'=upd H a (.dK (putK kvs k v)))\/
 ∃kvs k b,H a=some (.dT kvs)/\y=.ref b/\H b=some (.tup (k.map kV))/\kvs.length<sizeLine/\H'=upd H a (.dT (putK kvs k v))
theorem rY.k{H:Hp}{a:Addr}{kvs:List (Key×V)}{k:Key}(e:H a=some (.dK kvs)):rY H a (kV k) (uE kvs k):=.inl ⟨kvs,k,.inl e,rfl,rfl⟩
theorem zO.k{H:Hp}{a:Addr}{kvs:List (Key×V)}{k:Key}{v:V}(e:H a=some (.dK kvs))(hl:kvs.length<sizeLine):zO H a (kV k) v (upd H a (.dK (putK kvs k v))):=.inl ⟨kvs,k,e,rfl,hl,rfl⟩
theorem zO.t{H:Hp}{a b:Addr}{kvs:List (List Key×V)}{k:List Key}{v:V}(e:H a=some (.dT kvs))(eb:H b=some (.tup (k.map kV)))(hl:kvs.length<sizeLine):
 zO H a (.ref b) v (upd H a (.dT (putK kvs k v))):=.inr ⟨kvs,k,b,e,rfl,eb,hl,rfl⟩
section
variable {X:Cx}{aa:List (Addr×Obj)}{σ:St}{H:Hp}{s:Shared}{a:Addr}{y v:V}{u r:Value}{o:Option V}{A:Around}{E:Value->Shared->Prop}
variable{Q:Value->Shared->Prop}{h':Heap}
theorem Inv.big(I:Inv X aa σ H s):sysModules<s.heap.objs.size:=by
 have h:mainGlobals<s.heap.objs.size:=(I.mod.glob.keeps I.bk).lt
 exact aPv (by decide) h
theorem aAv(hu:A.units+1<cLine)(I:Inv X aa σ H s)(g:rY H a y (some v))(ry:RelV y u)(h:∀w' s',Inv X aa σ H s'->RelV v w'->Q w' s'):
 wpAny (model X.prog X.w) A (getItem (.ref a) u) Q E s:=by
 rcases g with⟨kvs,k,e,ey,l⟩| ⟨kvs,k,b,e,ey,eb,l⟩
 ·subst ey;obtain⟨z,hd,vs,rel,dd⟩:=xN I.hok e;obtain⟨w',hw,gr⟩:=p7.some_of (v:=v) (o:=valueAt vs k) (by rw[l];exact rel.val k)
  exact wpAny_getItem_of (xJ ry) dd.mapOf hw (h w' _ (I.tok _) gr)
 ·subst ey;cases (show u=Value.ref b from ry);obtain⟨z,hd,xs,rel,dd⟩:=yH I.hok e;obtain⟨w',hw,gr⟩:=p7.some_of (v:=v) (o:=(atKey xs k).map (·.2)) (by rw[l];exact rel.val k);obtain⟨p,hp,hp2⟩:=aL.mp hw
  refine wpAny_getItem_heap (tupleKind_room_in1 hu) (uO I.hok eb) dd hp ?_
  rw[hp2]
  exact h w' _ (I.tok _) gr
theorem aN5(hu:A.units+1<cLine)(I:Inv X aa σ H s)(g:rY H a y o)(ry:RelV y u)(h:∀s',Inv X aa σ H s'->Q (.bool o.isSome) s'):
 wpAny (model X.prog X.w) A (compareOp .In u (.ref a)) Q E s:=by
 rcases g with⟨kvs,k,e,ey,l⟩| ⟨kvs,k,b,e,ey,eb,l⟩
 ·subst ey;obtain⟨z,hd,vs,rel,dd⟩:=xN I.hok e
  refine wpAny_in_of (xJ ry) hd dd.mapOf ?_
  rw[<-(rel.val k).isSome_eq,<-l]
  exact h _ (I.tok _)
 ·subst ey;cases (show u=Value.ref b from ry);obtain⟨z,hd,xs,rel,dd⟩:=yH I.hok e
  refine wpAny_in_heap (tupleKind_room_in1 hu) (uO I.hok eb) hd dd ?_
  have q:=(rel.val k).isSome_eq;rw[aOT]at q;rw[<-q,<-l]
  exact h _ (I.tok _)
theorem aKH(hu:A.units+1<cLine)(I:Inv X aa σ H s)(g:rY H a y o)(ry:RelV y u)(h:∀s',Inv X aa σ H s'->Q (.bool (!o.isSome)) s'):
 wpAny (model X.prog X.w) A (compareOp .NotIn u (.ref a)) Q E s:=by
 rcases g with⟨kvs,k,e,ey,l⟩| ⟨kvs,k,b,e,ey,eb,l⟩
 ·subst ey;obtain⟨z,hd,vs,rel,dd⟩:=xN I.hok e
  refine wpAny_notIn_of (xJ ry) hd dd.mapOf ?_
  rw[<-(rel.val k).isSome_eq,<-l]
  exact h _ (I.tok _)
 ·subst ey;cases (show u=Value.ref b from ry);obtain⟨z,hd,xs,rel,dd⟩:=yH I.hok e
  refine wpAny_notIn_heap (tupleKind_room_in1 hu) (uO I.hok eb) hd dd ?_
  have q:=(rel.val k).isSome_eq;rw[aOT]at q;rw[<-q,<-l]
  exact h _ (I.tok _)
theorem v9{t':Nat}{ob:HO}(I:Inv X aa σ H s)(mu:Mut (H a))(hs:Heap.SameBut a s.heap h')(he:∃q,h'.get? a=some q)(new:jQ X.prog X.w (upd H a ob) h' a ob):
 Inv X aa σ (upd H a ob) {s with heap:=h',toks:=t'}:=
 I.write (x:=a) (e:=a) mu (.inl rfl) (fun b q hb z=>(hs.2 b hb).trans z) he new
theorem aDR{P:Program}{w:World}{H':Hp}{kvs:List (Key×V)}{vs:List (Key×Value)}(z:kvs.length<=sizeLine)(hd:(a==sysModules)=false)(rel:KV kvs vs)(dd:h'.DictOf (i6 P w) a vs):
 jQ P w H' h' a (.dK kvs):=⟨z,hd,vs,rel,dd⟩
theorem aAg{H':Hp}{Q:Unit->Shared->Prop}(hu:A.units+1<cLine)(I:Inv X aa σ H s)(g:zO H a y v H')(ry:RelV y u)(rv:RelV v r)(h:∀s',Inv X aa σ H' s'->Q () s'):
 wpAny (model X.prog X.w) A (setItem (.ref a) u r) Q E s:=by
 rcases g with⟨kvs,k,e,ey,l,eH⟩| ⟨kvs,k,b,e,ey,eb,l,eH⟩
 ·subst ey eH;obtain⟨z,hd,vs,rel,dd⟩:=aEn I.hok e;have hz:vs.length<=sizeLine:=by rw[<-rel.length];exact z
  have hl:(putK kvs k v).length<=sizeLine:=by have:=p9 kvs k v;lia
  refine wpAny_setItem_pairs (hsz:=hz) (xJ ry) dd fun h' jk hs=>h _ ?_
  have he:∃q,h'.get? a=some q:=let ⟨q,_,_,hq,_⟩:=jk;⟨q,hq⟩
  exact v9 I (by rw[e];exact True.intro) hs he (aDR hl hd (rel.put k rv) jk)
 ·subst ey eH;cases (show u=Value.ref b from ry);obtain⟨z,hd,xs,rel,dd⟩:=aNo I.hok e;have hz:xs.length<=sizeLine:=by rw[<-Paired.length rel];exact z
  have hl:(putK kvs k v).length<=sizeLine:=by have:=p9 kvs k v;lia
  refine wpAny_setItem_heap (hsz:=hz) (tupleKind_room_in1 hu) (uO I.hok eb) dd fun h' jk hs=>h _ ?_
  obtain⟨q,es,ep,hq,h2,h3,h4,_,h5⟩:=jk
  refine v9 I (by rw[e];exact True.intro) hs ⟨q,hq⟩ ⟨hl,hd,_,(rel.put k eb rv).keeps fun c ys ec=>?_,q,es,ep,hq,h2,h3,h4,h5⟩
  rw[fO (oF ec e (fun z=>nomatch z))]
  exact ec
end
section
variable {X:Cx}{aa:List (Addr×Obj)}{σ:St}{H:Hp}{s:Shared}{a:Addr}{kvs:List (Key×V)}{k:Key}{u:Value}{A:Around}{E:Value->Shared->Prop}
end
variable{s:Shared}
def aLr(i:Expr):Prop:=∀ov iv,subscripted i false ov iv=operate [ov,iv] (getItem ov iv)
theorem aJm{prog:Program}{w:World}{A:Around}{E:Value->Shared->Prop}{env:Env}{value slice:Expr}{pos:Pos}{T id:String}{Q:Value->Shared->Prop}
 (hl:typeLookup (.type T) "__getitem__"=pure (some (.builtin id)))(hs:aLr slice)
 (h:wpAny (model prog w) A (eval value env) (fun o aj=>wpAny (model prog w) A (eval slice env) (fun i bq=>bq.TypeIs o T/\wpAny (model prog w) A (getItem o i) Q E bq) E aj) E s):
 wpAny (model prog w) A (eval (.Subscript value slice pos) env) Q E s:=by
 refine Subscript_ (wpAny_mono h (fun o aj bc=>wpAny_mono bc (fun i bq ck=>?_) fun _ _ x=>x) fun _ _ x=>x)
 obtain⟨hT,ck⟩:=ck;unfold subscriptTail
 refine wpAny_bind ?_
 rw[getitemInPython_of_ne hT.not_modules]
 refine wpAny_bind (wpAny_specialOf hT hl ?_)
 have fin:wpAny (model prog w) A (subscripted slice false o i) (fun r bz=>wpAny (model prog w) A (letTemporaryGo value o r>>=fun _=>pure r) Q E bz) E bq:=by
  rw[hs o i]
  exact wpAny_operating (wpAny_mono ck (fun r bz jq=>wpAny_bind (wpAny_letTemporaryGo (wpAny_pure jq))) fun _ _ x=>x)
 first
  |exact wpAny_pure (wpAny_bind fin)
  |exact wpAny_bind (wpAny_pure (wpAny_bind fin))
  |exact wpAny_bind fin
theorem aB1{X:Cx}{aa:List (Addr×Obj)}{σ:St}{H:Hp}{a:Addr}{y:V}{o:Option V}(I:Inv X aa σ H s)(g:rY H a y o):s.TypeIs (.ref a) "dict":=by
 rcases g with⟨kvs,k,e,_,_⟩| ⟨kvs,k,b,e,_,_,_⟩
 ·obtain⟨_,_,vs,_,dd⟩:=xN I.hok e
  exact dd.typeIs
 ·obtain⟨_,_,xs,_,dd⟩:=yH I.hok e
  exact dd.typeIs
noncomputable def tDGet(td ty:TE):TE:=fun σ H Q=>td σ H fun x H1=>ty σ H1 fun y H2=>∃a v,x=.ref a/\rY H2 a y (some v)/\Q v H2
noncomputable def tDIn(ty td:TE):TE:=fun σ H Q=>ty σ H fun y H1=>td σ H1 fun x H2=>∃a o,x=.ref a/\rY H2 a y o/\Q (.bl o.isSome) H2
noncomputable def tDNotIn(ty td:TE):TE:=fun σ H Q=>ty σ H fun y H1=>td σ H1 fun x H2=>∃a o,x=.ref a/\rY H2 a y o/\Q (.bl (!o.isSome)) H2
noncomputable def sDPut(td ty tv:TE):TS:=fun D σ H=>tv σ H fun v H1=>td σ H1 fun x H2=>ty σ H2 fun y H3=>∃a H4,x=.ref a/\zO H3 a y v H4/\D.nx σ H4
def sDAug(td ty tv:TE)(rd:V->V->Hp->VK->Prop):TS:=fun D σ H=>td σ H fun x H1=>ty σ H1 fun y H2=>∃a v,x=.ref a/\rY H2 a y (some v)/\
 tv σ H2 fun y2 H3=>rd v y2 H3 fun z H4=>∃H5,zO H4 a y z H5/\D.nx σ H5
section
variable {X:Cx}{o i e value:Expr}{pos ao ba:Pos}{td ty tv:TE}
theorem aKh(hu:X.A.units+1<cLine)(ho:PE X o td)(hi:PE X i ty)(hs:aLr i):PE X (.Subscript o i pos) (tDGet td ty):=by
 intro aa s σ H Q I h
 refine aJm PySem.F.slot_dict_getitem.lookup hs (thn (ho aa s σ H _ I h) fun u s1 ⟨x,H1,I1,rx,q1⟩=>thn (hi aa s1 σ H1 _ I1 q1) fun iv s2 zz=>?_)
 obtain⟨y,H2,I2,ry,a,v,ex,g,q2⟩:=zz;subst ex;obtain rfl:u=Value.ref a:=rx
 exact⟨aB1 I2 g,aAv hu I2 g ry fun w' s3 I3 gr=>⟨v,H2,I3,gr,q2⟩⟩
theorem aLD(hu:X.A.units+1<cLine)(hi:PE X i ty)(ho:PE X o td):PC X .In i o (tDIn ty td):=by
 intro aa s σ H Q I h
 refine thn (hi aa s σ H _ I h) fun iv s1 ⟨y,H1,I1,ry,q1⟩=>thn (ho aa s1 σ H1 _ I1 q1) fun u s2 zz=>?_
 obtain⟨x,H2,I2,rx,a,ov,ex,g,q2⟩:=zz;subst ex;obtain rfl:u=Value.ref a:=rx
 exact aN5 hu I2 g ry fun s3 I3=>⟨.bl ov.isSome,H2,I3,rfl,q2⟩
theorem aFR(hu:X.A.units+1<cLine)(hi:PE X i ty)(ho:PE X o td):PC X .NotIn i o (tDNotIn ty td):=by
 intro aa s σ H Q I h
 refine thn (hi aa s σ H _ I h) fun iv s1 ⟨y,H1,I1,ry,q1⟩=>thn (ho aa s1 σ H1 _ I1 q1) fun u s2 zz=>?_
 obtain⟨x,H2,I2,rx,a,ov,ex,g,q2⟩:=zz;subst ex;obtain rfl:u=Value.ref a:=rx
 exact aKH hu I2 g ry fun s3 I3=>⟨.bl (!ov.isSome),H2,I3,rfl,q2⟩
theorem aI3(hu:X.A.units+1<cLine)(ho:PE X o td)(hi:PE X i ty)(hv:PE X value tv)(hs:swapsWith value (some (.Subscript o i ao)) pos.line X.env=pure false):
 PS X (.Assign [.Subscript o i ao] value pos) (sDPut td ty tv):=by
 intro aa s σ H D I h
 refine wpAny_Assign_Subscript (thn (hv aa s σ H _ I h) fun r s1 ⟨v,H1,I1,rv,q1⟩=>thn (ho aa s1 σ H1 _ I1 q1) fun u s2 ⟨x,H2,I2,rx,q2⟩=>thn (hi aa s2 σ H2 _ I2 q2) fun iv s3 ⟨y,H3,I3,ry,a,H4,ex,g,q3⟩=>?_) hs
 subst ex;obtain rfl:u=Value.ref a:=rx
 exact aAg hu I3 g ry rv fun s4 I4=>⟨σ,H4,I4,q3⟩
theorem aKr{op:Operator}{rd:V->V->Hp->VK->Prop}(hu:X.A.units+1<cLine)(ho:PE X o td)(hi:PE X i ty)(hv:PE X value tv)(xx:aKx X op rd)
 (ha:∀ov iv new,augStore i ov iv new=(do holding [new,ov,iv] (setItem ov iv new);release [new,ov,iv] [];pure .next)):PS X (.AugAssign (.Subscript o i ba) op value pos) (sDAug td ty tv rd):=by
 intro aa s σ H D I h
 refine wpAny_AugAssign_SubscriptAny (thn (ho aa s σ H _ I h) fun u s1 ⟨x,H1,I1,rx,q1⟩=>thn (hi aa s1 σ H1 _ I1 q1) fun iv s2 ⟨y,H2,I2,ry,a,v,ex,g,q2⟩=>?_) ha
 subst ex;obtain rfl:u=Value.ref a:=rx
 refine aAv hu I2 g ry fun w' s3 I3 gr=>thn (hv aa s3 σ H2 _ I3 q2) fun w2 s4 ⟨y2,H3,I4,ry2,q3⟩=>thn (xx aa s4 σ H3 v y2 w' w2 _ I4 gr ry2 q3) fun w3 s5 zz=>?_
 obtain⟨z,H4,I5,rz,H5,g5,q4⟩:=zz
 exact aAg hu I5 g5 ry rz fun s6 I6=>⟨σ,H5,I6,q4⟩
end
variable{P:Program}{w:World}
theorem aCc{H:Hp}(h:Heap)(hb:sysModules<h.objs.size):jQ P w H (h.push {cls:=.type "dict",data:=.dict #[]}) h.objs.size (.dK []):=
 ⟨cV _,beq_eq_false_iff_ne.mpr (Ne.symm (bU hb)),[],.nil,Heap.DictOf.new h⟩
theorem aIi{H:Hp}(h:Heap)(hb:sysModules<h.objs.size):jQ P w H (h.push {cls:=.type "dict",data:=.dict #[]}) h.objs.size (.dT []):=
 ⟨cV _,beq_eq_false_iff_ne.mpr (Ne.symm (bU hb)),[],.nil,_,#[],0,Heap.get?_push_size _ rfl,⟨rfl,rfl,rfl⟩,rfl,rfl,aPJ⟩
def tDNewK:TE:=fun _ H Q=>∀p,H p=none->Q (.ref p) (upd H p (.dK []))
def tDNewT:TE:=fun _ H Q=>∀p,H p=none->Q (.ref p) (upd H p (.dT []))
section
variable {X:Cx}{pos:Pos}
theorem aHd:PE X (.Dict [] [] pos) tDNewK:=fun aa s σ H Q I h=>
 wpAny_Dict_empty ⟨.ref s.heap.objs.size,_,I.laid (a:=s.heap.objs.size) (o:=.dK []) (t':=s.toks) (fun _ _ q=>Heap.get?_push_of_some _ q) (bD _) (aCc s.heap I.big),rfl,h _ (I.hok.fresh (bD _))⟩
theorem aGI:PE X (.Dict [] [] pos) tDNewT:=fun aa s σ H Q I h=>
 wpAny_Dict_empty ⟨.ref s.heap.objs.size,_,I.laid (a:=s.heap.objs.size) (o:=.dT []) (t':=s.toks) (fun _ _ q=>Heap.get?_push_of_some _ q) (bD _) (aIi s.heap I.big),rfl,h _ (I.hok.fresh (bD _))⟩
end
variable{X:Cx}{pos:Pos}{jz:List (TE×TE)}
def aDb:List (TE×TE)->St->Hp->(List (V×V)->Hp->Prop)->Prop
 | [],_,H,Q=>Q [] H
 | (tk,tv)::r,σ,H,Q=>tk σ H fun x H1=>tv σ H1 fun y H2=>aDb r σ H2 fun ps H3=>Q ((x,y)::ps) H3
abbrev VV:List (V×V)->List (Value×Value)->Prop:=Paired fun p q=>RelV p.1 q.1/\RelV p.2 q.2
def PPs(X:Cx)(pos:Pos)(keys:List (Option Expr))(values:List Expr)(jz:List (TE×TE)):Prop:=
 ∀(aa:List (Addr×Obj))(s:Shared)(σ:St)(H:Hp)(Q:List (V×V)->Hp->Prop),Inv X aa σ H s->aDb jz σ H Q->
  wpAny (model X.prog X.w) X.A (evalPairs (pairTrees keys values X.env pos)) (fun vs s'=>∃ps H',Inv X aa σ H' s'/\VV ps vs/\Q ps H') X.xe s
theorem aJz:PPs X pos [] [] []:=fun aa s σ H Q I h=>pairTrees_nil_walk ⟨[],H,I,.nil,h⟩
theorem aIo{k v:Expr}{ks:List (Option Expr)}{vs:List Expr}{tk tv:TE}(hk:PE X k tk)(hv:PE X v tv)(hr:PPs X pos ks vs jz):
 PPs X pos (some k::ks) (v::vs) ((tk,tv)::jz):=fun aa s σ H Q I h=>
 pairTrees_cons_walk (thn (hk aa s σ H _ I h) fun u s1 ⟨x,H1,I1,rx,q1⟩=>thn (hv aa s1 σ H1 _ I1 q1) fun w2 s2 ⟨y,H2,I2,ry,q2⟩=>
  thn (hr aa s2 σ H2 _ I2 q2) fun ws s3 ⟨ps,H3,I3,rel,q3⟩=>⟨(x,y)::ps,H3,I3,.cons ⟨rx,ry⟩ rel,q3⟩)
def qB(kvs more:List (Key×V)):List (Key×V):=more.foldl (fun acc kv=>putK acc kv.1 kv.2) kvs
theorem KV.merge:∀{more:List (Key×V)}{rs:List (Key×Value)}{kvs:List (Key×V)}{vs:List (Key×Value)},KV more rs->KV kvs vs->KV (qB kvs more) (merged vs rs):=by
 intro more rs kvs vs r;unfold KV at r;induction r generalizing kvs vs with
 |nil=>intro q;exact q
 | @cons p q ps qs h t ih=>
   intro r0;have e:KV (putK kvs p.1 p.2) (stored vs q.1 q.2):=by
    have:=r0.put p.1 h.2;rw[<-h.1];exact this
   exact ih e
theorem oP:∀(more kvs:List (Key×V)),(qB kvs more).length<=kvs.length+more.length
 | [],kvs=>by show kvs.length<=kvs.length+0;lia
 |p::r,kvs=>by
  have h1:=oP r (putK kvs p.1 p.2);have h2:=p9 kvs p.1 p.2;show(qB (putK kvs p.1 p.2) r).length<=_;rw[aN];lia
theorem yM{P:Program}{w:World}:∀{kvs:List (Key×V)}{ws:List (Value×Value)},VV (kvs.map fun kv=>(kV kv.1,kv.2)) ws->∃rs,Carries (i6 P w) ws rs/\KV kvs rs
 | [],_,r=>by rw[bC]at r;cases r;exact⟨[],True.intro,.nil⟩
 |p::kvs,_,r=>by
  rw[aM]at r;cases r with
  | @cons a b as bs h t=>
    obtain⟨rs,c,q⟩:=yM (P:=P) (w:=w) t;obtain⟨b1,b2⟩:=b
    exact⟨(p.1,b2)::rs,⟨xJ h.1,rfl,c⟩,.cons ⟨rfl,h.2⟩ q⟩
def tDisp(jz:List (TE×TE)):TE:=fun σ H Q=>∀p,H p=none->aDb jz σ (upd H p (.dK [])) fun ps H2=>H2 p=some (.dK [])/\∃kvs:List (Key×V),ps=kvs.map (fun kv=>(kV kv.1,kv.2))/\kvs.length<=15/\Q (.ref p) (upd H2 p (.dK (qB [] kvs)))
theorem aKv{keys:List (Option Expr)}{values:List Expr}(h:PPs X pos keys values jz)(i':keys.all (·.isSome)=true)(hl:keys.length=values.length)(h0:keys≠[])
 (h15:keys.length<=15):PE X (.Dict keys values pos) (tDisp jz):=by
 intro aa s σ H Q I q;have hn:=I.hok.fresh (bD s.heap.objs.size);have I1:=I.laid (a:=s.heap.objs.size) (o:=.dK []) (h':=s.heap.push {cls:=.type "dict",data:=.dict #[]}) (t':=s.toks) (fun _ _ q=>Heap.get?_push_of_some _ q) (bD _) (aCc s.heap I.big)
 refine wpAny_Dict_walk (knd:=i6 X.prog X.w) i' hl h0 h15 (thn (h aa _ σ _ _ I1 (q _ hn)) fun ws s2 zz=>?_)
 obtain⟨ps,H2,I2,rel,e,kvs,ep,lk,q2⟩:=zz;subst ep;obtain⟨rs,c,rk⟩:=yM (P:=X.prog) (w:=X.w) rel;obtain⟨z,hd,vs0,r0,dd⟩:=aEn I2.hok e;cases r0
 refine⟨rs,c,dd,fun h' jk hs=>⟨.ref s.heap.objs.size,_,?_,rfl,q2⟩⟩
 have hz:(qB [] kvs).length<=sizeLine:=by
  have h1:=oP kvs [];rw[aP]at h1;rw[sizeLine_eq];lia
 have he:∃q,h'.get? s.heap.objs.size=some q:=let ⟨q,_,_,hq,_⟩:=jk;⟨q,hq⟩
 exact v9 I2 (by rw[e];exact True.intro) hs he (aDR hz hd (rk.merge .nil) jk)
structure M1(X:Cx)(o:Expr)(m:Str)(al:Pos)(e:Expr)(ak:Pos):Prop where
 base:attributeBase o m X.env (eval o X.env)=eval o X.env
 few:((backTo ak (starEach [e] X.env)).all (fun x=> !x.1)&&(backToKw ak (keywordEach [] X.env)).all (fun x=>x.1.isSome)
  &&decide (([e]:List Expr).length+([]:List Keyword).length+(if([]:List Keyword).isEmpty then 0 else 1)<30))=true
 line:(al.endLine==ak.line)=true
 trees:backTo ak (starEach [e] X.env)=[(false,eval e X.env)]
structure M2(X:Cx)(o:Expr)(m:Str)(al:Pos)(e f:Expr)(ak:Pos):Prop where
 base:attributeBase o m X.env (eval o X.env)=eval o X.env
 few:((backTo ak (starEach [e,f] X.env)).all (fun x=> !x.1)&&(backToKw ak (keywordEach [] X.env)).all (fun x=>x.1.isSome)
  &&decide (([e,f]:List Expr).length+([]:List Keyword).length+(if([]:List Keyword).isEmpty then 0 else 1)<30))=true
 line:(al.endLine==ak.line)=true
 trees:backTo ak (starEach [e,f] X.env)=[(false,eval e X.env),(false,eval f X.env)]
def IsD(H:Hp)(a:Addr):Prop:=(∃kvs,Rd H a (.dK kvs))\/∃kvs,Rd H a (.dT kvs)
theorem aGH{aa:List (Addr×Obj)}{σ:St}{H:Hp}{s:Shared}{a:Addr}(I:Inv X aa σ H s)(d:IsD H a):
 s.TypeIs (.ref a) "dict"/\(∀b,Value.ref a=.ref b->∃ob,s.heap.get? b=some ob/\ob.dict=none)/\(a==sysModules)=false:=by
 rcases d with⟨kvs,e⟩| ⟨kvs,e⟩
 ·obtain⟨_,hd,vs,_,dd⟩:=xN I.hok e
  refine⟨dd.typeIs,fun b q=>?_,hd⟩
  cases q;obtain⟨ob,_,_,h1,h2,_⟩:=dd
  exact⟨ob,h1,h2.2.1⟩
 ·obtain⟨_,hd,xs,_,dd⟩:=yH I.hok e
  refine⟨dd.typeIs,fun b q=>?_,hd⟩
  cases q;obtain⟨ob,_,_,h1,h2,_⟩:=dd
  exact⟨ob,h1,h2.2.1⟩
section
variable {X:Cx}{aa:List (Addr×Obj)}{σ:St}{H:Hp}{s:Shared}{a:Addr}{y d:V}{u r:Value}{o:Option V}{A:Around}{E:Value->Shared->Prop}
theorem aMk{Q:Value->Shared->Prop}(hu:A.units+1<cLine)(I:Inv X aa σ H s)(g:rY H a y o)(ry:RelV y u)(rd:RelV d r)(h:∀w' s',Inv X aa σ H s'->RelV (o.getD d) w'->Q w' s'):
 wpAny (model X.prog X.w) A (call (.builtin "dict.get") [.ref a,u,r]) Q E s:=by
 rcases g with⟨kvs,k,e,ey,l⟩| ⟨kvs,k,b,e,ey,eb,l⟩
 ·subst ey;obtain⟨z,hd,vs,rel,dd⟩:=xN I.hok e
  refine call_meetsIn PySem.F.slot_dict_get dd.typeIs PySem.F.entry_dict_get (PySem.F.args_dict_get_3 _ _ _) (meets_dict_get_default (i6 X.prog X.w) a (xJ ry) hd r) ⟨_,dd.mapOf,h _ _ (I.tok _) ?_⟩
  rw[l]
  exact(rel.val k).getD rd
 ·subst ey;cases (show u=Value.ref b from ry);obtain⟨z,hd,xs,rel,dd⟩:=yH I.hok e
  refine call_meetsIn PySem.F.slot_dict_get dd.typeIs PySem.F.entry_dict_get (PySem.F.args_dict_get_3 _ _ _) (meetsH_dict_get_default (tupleKind (i6 X.prog X.w)) a b hd r) ⟨tupleKind_room_in1 hu,k,xs,uO I.hok eb,dd,h _ _ (I.tok _) ?_⟩
  rw[l]
  exact(rel.val k).getD rd
end
noncomputable def tDGet2(td ty tx:TE):TE:=fun σ H Q=>td σ H fun x H1=>∃a,x=.ref a/\IsD H1 a/\ty σ H1 fun y H2=>tx σ H2 fun z H3=>∃o,rY H3 a y o/\Q (o.getD z) H3
section
variable {X:Cx}{o e f:Expr}{al ak:Pos}{td ty tx:TE}
theorem aIE(hu:X.A.units+1<cLine)(ho:PE X o td)(he:PE X e ty)(hf:PE X f tx)(m:M2 X o "get" al e f ak):PE X (.Call (.Attribute o "get" al) [e,f] [] ak) (tDGet2 td ty tx):=by
 intro aa s σ H Q I h
 refine wpAny_Call_method m.base m.few m.line PySem.F.plainAttrs_dict PySem.F.slot_dict_get PySem.F.type_dict_get (thn (ho aa s σ H _ I h) fun u s1 zz=>?_)
 obtain⟨x,H1,I1,rx,a,ex,d,q1⟩:=zz;subst ex;obtain rfl:u=Value.ref a:=rx;obtain⟨t1,t2,_⟩:=aGH I1 d
 refine⟨t1,t2,?_⟩
 rw[m.trees]
 refine Calls.callWith_builtin rfl (Calls.evalArgs_plain (Calls.spliced_cons (thn (he aa s1 σ H1 _ I1 q1) fun iv s2 ⟨y,H2,I2,ry,q2⟩=>
  Calls.spliced_cons (thn (hf aa s2 σ H2 _ I2 q2) fun fv s3 ⟨z,H3,I3,rz,ov,g,q3⟩=>Calls.spliced_nil ?_))))
 exact aMk hu I3 g ry rz fun w' s4 I4 gr=>⟨_,H3,I4,gr,q3⟩
end
section
variable {X:Cx}{aa:List (Addr×Obj)}{σ:St}{H:Hp}{s:Shared}{a:Addr}{kvs:List (Key×V)}{A:Around}{E:Value->Shared->Prop}
end
section
variable {X:Cx}{aa:List (Addr×Obj)}{σ:St}{H:Hp}{s:Shared}{a:Addr}{y:V}{u:Value}{A:Around}{E:Value->Shared->Prop}
end
end L2
namespace TL
open PySem L2
section
variable {κ:Type}[DecidableEq κ]{α:Type}
variable{ks:List κ}
noncomputable def vl(l:List (κ×α))(k:κ):Option α:=(l.find? fun kv=>decide (kv.1=k)).map (·.2)
noncomputable def pkK(k:κ)(ks:List κ):List κ:=if k∈ks then ks else ks++[k]
noncomputable def pvK(k:κ)(v:α)(ks:List κ)(vs:List α):List α:=if k∈ks then(ks.zip vs).map fun kv=>if kv.1=k then v else kv.2 else vs++[v]
theorem aEg{k:κ}:∀{ks:List κ}{vs:List α},ks.length=vs.length->((ks.zip vs).any fun kv=>decide (kv.1=k))=decide (k∈ks)
 | [],_,_=>rfl
 |_::_,[],h=>by cases h
 |x::ks,v::vs,h=>by
  rw[cC,aOw,aEg (by simpa using h)];by_cases e:x=k
  ·simp[e]
  ·simp[e,Ne.symm e]
theorem u4{k:κ}{v:α}:∀{ks:List κ}{vs:List α},ks.length=vs.length->(ks.zip vs).map (fun kv=>if kv.1=k then(kv.1,v)else kv)=ks.zip ((ks.zip vs).map fun kv=>if kv.1=k then v else kv.2)
 | [],_,_=>rfl
 |_::_,[],h=>by cases h
 |x::ks,w::vs,h=>by
  rw[cC,aM,aM,cC,u4 (by simpa using h)];dsimp only;split<;>rfl
theorem wY{k:κ}{v:V}{vs:List V}(h:ks.length=vs.length):putK (ks.zip vs) k v=(pkK k ks).zip (pvK k v ks vs):=by
 unfold putK pkK pvK;rw[aEg h];by_cases e:k∈ks
 ·rw[if_pos (decide_eq_true e),if_pos e,if_pos e,u4 h]
 ·rw[if_neg (by simpa using e),if_neg e,if_neg e,List.zip_append h];rfl
theorem aD1{k:κ}{v:α}{vs:List α}(h:ks.length=vs.length):(pkK k ks).length=(pvK k v ks vs).length:=by
 unfold pkK pvK;split
 ·rw[aS,dF,<-h,Nat.min_self]
 ·simp[h]
end
section
variable {K:aO}{M:Hp}{ρ:Rho}{κ:Type}[DecidableEq κ]
theorem RTs.vl{k:κ}:∀{ks:List κ}{ts:List T}{vs:List V},RTs K M ρ ts vs->∀{t:T},TL.vl (ks.zip ts) k=some t->∃v,uE (ks.zip vs) k=some v/\RT K M ρ t v
 | [],_,_,_,_,e=>by cases e
 |_::_,[],_,_,_,e=>by cases e
 |x::ks,u::ts,vs,h,t,e=>by
  obtain⟨v,r,rfl,h1,h2⟩:=h.cons_inv;rw[cC];rw[cC]at e;unfold TL.vl at e;rw[c9]at e;by_cases q:x=k
  ·rw[show decide ((x,u).1=k)=true from decide_eq_true q]at e;cases e
   exact⟨v,tV q,h1⟩
  ·rw[show decide ((x,u).1=k)=false from decide_eq_false q]at e;rw[qA (p:=(x,v)) q]
   exact RTs.vl h2 e
theorem RTs.vlN{k:κ}:∀{ks:List κ}{ts:List T}{vs:List V},RTs K M ρ ts vs->TL.vl (ks.zip ts) k=none->uE (ks.zip vs) k=none
 | [],_,_,_,_=>rfl
 |_::_,[],vs,h,_=>by rw[h.nil_inv];rfl
 |x::ks,u::ts,vs,h,e=>by
  obtain⟨v,r,rfl,h1,h2⟩:=h.cons_inv;rw[cC]at e|-;unfold TL.vl at e;rw[c9]at e;by_cases q:x=k
  ·rw[show decide ((x,u).1=k)=true from decide_eq_true q]at e;cases e
  ·rw[show decide ((x,u).1=k)=false from decide_eq_false q]at e;rw[qA (p:=(x,v)) q]
   exact RTs.vlN h2 e
theorem RTs.pvK{k:κ}{t:T}{v:V}(h0:RT K M ρ t v){ks:List κ}{ts:List T}{vs:List V}(h:RTs K M ρ ts vs):RTs K M ρ (TL.pvK k t ks ts) (TL.pvK k v ks vs):=by
 unfold TL.pvK;split
 ·have:∀{ks:List κ}{ts:List T}{vs:List V},RTs K M ρ ts vs->RTs K M ρ ((ks.zip ts).map fun kv=>if kv.1=k then t else kv.2) ((ks.zip vs).map fun kv=>if kv.1=k then v else kv.2):=by
   intro ks;induction ks with
   |nil=>intro ts vs _;exact .nil
   |cons x ks ih=>
    intro ts vs h;cases ts with
    |nil=>rw[h.nil_inv];exact .nil
    |cons u ts=>
     obtain⟨w,r,rfl,h1,h2⟩:=h.cons_inv;rw[cC,cC,aM,aM]
     refine .cons ?_ (ih h2)
     dsimp only;split
     ·exact h0
     ·exact h1
  exact this h
 ·exact h.append (.cons h0 .nil)
end
variable{c:Nat}{ks:List (List Key)}
noncomputable def kyT:T->Option Key
 | .int i=>some (.inl i)
 |_=>none
def aI7:List T->Option (List Key)
 | []=>some []
 |t::ts=>(kyT t).bind fun k=>(aI7 ts).map fun ks=>k::ks
def ktT:T->Option (List Key)
 | .tup ts=>aI7 ts
 |_=>none
noncomputable def dkc(C:Sto):T->Option (Nat×List Key×List T)
 | .cell c=>(C[c]?).bind fun x=>match x.1 with
   | .dk ks=>some (c,ks,x.2)
   |_=>none
 |_=>none
noncomputable def dtc(C:Sto):T->Option (Nat×List (List Key)×List T)
 | .cell c=>(C[c]?).bind fun x=>match x.1 with
   | .dt ks=>some (c,ks,x.2)
   |_=>none
 |_=>none
noncomputable def dzc(C:Sto):T->Option (Nat×List (List Key)×List T)
 | .cell c=>(C[c]?).bind fun x=>match x.1 with
   | .dt ks=>some (c,ks,x.2)
   | .dz ks=>some (c,ks,x.2)
   |_=>none
 |_=>none
theorem aCE{C:Sto}{t:T}{ks:List Key}{ts:List T}(h:dkc C t=some (c,ks,ts)):t=.cell c/\C[c]?=some (.dk ks,ts):=by
 unfold dkc at h;split at h
 ·obtain⟨⟨k,us⟩,e,h⟩:=aK.mp h;dsimp only at h;split at h
  ·cases h;exact⟨rfl,e⟩
  ·cases h
 ·cases h
theorem aIH{C:Sto}{t:T}{ts:List T}(h:dtc C t=some (c,ks,ts)):t=.cell c/\C[c]?=some (.dt ks,ts):=by
 unfold dtc at h;split at h
 ·obtain⟨⟨k,us⟩,e,h⟩:=aK.mp h;dsimp only at h;split at h
  ·cases h;exact⟨rfl,e⟩
  ·cases h
 ·cases h
theorem aGn{C:Sto}{t:T}{ts:List T}(h:dzc C t=some (c,ks,ts)):t=.cell c/\(C[c]?=some (.dt ks,ts)\/C[c]?=some (.dz ks,ts)):=by
 unfold dzc at h;split at h
 ·obtain⟨⟨k,us⟩,e,h⟩:=aK.mp h;dsimp only at h;split at h
  ·cases h;exact⟨rfl,.inl e⟩
  ·cases h;exact⟨rfl,.inr e⟩
  ·cases h
 ·cases h
section
variable {K:aO}{W:XW}{σ:St}{H:Hp}{Q:VK}{D:Ends}{M:Hp}{ρ:Rho}
variable{fk fv fd:FE}{td tk:T}
theorem aBg{t:T}{v:V}{k:Key}(h:RT K M ρ t v)(e:kyT t=some k):v=kV k:=by
 unfold kyT at e;split at e
 ·cases e;exact h.int_inv
 ·cases e
theorem aEV:∀{ts:List T}{vs:List V}{ks:List Key},RTs K M ρ ts vs->aI7 ts=some ks->vs=ks.map kV
 | [],_,_,h,e=>by cases e;exact h.nil_inv
 |t::ts,vs,ks,h,e=>by
  obtain⟨v,r,rfl,h1,h2⟩:=h.cons_inv;unfold aI7 at e;obtain⟨k,e1,e⟩:=aK.mp e;obtain⟨ks',e2,e⟩:=aL.mp e;cases e;rw[aBg h1 e1,aEV h2 e2];rfl
theorem aGR{Z:Addr->Prop}{t:T}{v:V}{k:List Key}(h:RT K (mask H Z ρ) ρ t v)(e:ktT t=some k):∃b,v=.ref b/\H b=some (.tup (k.map kV)):=by
 unfold ktT at e;split at e
 ·unfold RT at h;obtain⟨a,vs,e1,q,r⟩:=h
  exact⟨a,e1,by rw[(mC.mp q).2.2,aEV r e]⟩
 ·cases e
theorem Rel.dk{H₀:Hp}{Z:Addr->Prop}{τ:TSt}{C:Sto}{t:T}{v:V}{c:Nat}{ks:List Key}{ts:List T}(R:Rel K H₀ Z ρ τ C σ H)(h:RT K (mask H Z ρ) ρ t v)(e:dkc C t=some (c,ks,ts)):
 ∃a vs,v=.ref a/\ρ[c]?=some a/\ks.length=vs.length/\H a=some (.dK (ks.zip vs))/\RTs K (mask H Z ρ) ρ ts vs:=by
 obtain⟨rfl,e0⟩:=aCE e;unfold RT at h;obtain⟨a,ev,q⟩:=h;obtain⟨x,vs,ob,h1,h2,h3,h4⟩:=R.cel c a q;rw[e0]at h1;cases h1;obtain⟨hl,rfl⟩:=h3
 exact⟨a,vs,ev,q,hl,h2,h4⟩
theorem Rel.dt{H₀:Hp}{Z:Addr->Prop}{τ:TSt}{C:Sto}{t:T}{v:V}{c:Nat}{ks:List (List Key)}{ts:List T}(R:Rel K H₀ Z ρ τ C σ H)(h:RT K (mask H Z ρ) ρ t v)(e:dtc C t=some (c,ks,ts)):
 ∃a vs,v=.ref a/\ρ[c]?=some a/\ks.length=vs.length/\H a=some (.dT (ks.zip vs))/\RTs K (mask H Z ρ) ρ ts vs:=by
 obtain⟨rfl,e0⟩:=aIH e;unfold RT at h;obtain⟨a,ev,q⟩:=h;obtain⟨x,vs,ob,h1,h2,h3,h4⟩:=R.cel c a q;rw[e0]at h1;cases h1;obtain⟨hl,rfl⟩:=h3
 exact⟨a,vs,ev,q,hl,h2,h4⟩
theorem Rel.dz{H₀:Hp}{Z:Addr->Prop}{τ:TSt}{C:Sto}{t:T}{v:V}{c:Nat}{ks:List (List Key)}{ts:List T}(R:Rel K H₀ Z ρ τ C σ H)(h:RT K (mask H Z ρ) ρ t v)(e:dzc C t=some (c,ks,ts)):
 ∃a vs,v=.ref a/\ρ[c]?=some a/\ks.length=vs.length/\Rd H a (.dT (ks.zip vs))/\RTs K (mask H Z ρ) ρ ts vs:=by
 obtain⟨rfl,e0⟩:=aGn e;unfold RT at h;obtain⟨a,ev,q⟩:=h;obtain⟨x,vs,ob,h1,h2,h3,h4⟩:=R.cel c a q;rcases e0 with e0|e0
 ·rw[e0]at h1;cases h1;obtain⟨hl,rfl⟩:=h3
  exact⟨a,vs,ev,q,hl,.inl h2,h4⟩
 ·rw[e0]at h1;cases h1;obtain⟨hl,o,rfl⟩:=h3
  exact⟨a,vs,ev,q,hl,.inr ⟨o,h2⟩,h4⟩
noncomputable def uW(kd:Kd):FE:=fun _ C=>some (.cell C.length,C++[(kd,[])])
theorem aJc(h:trE K (uW (.dk [])) σ H Q):tDNewK σ H Q:=by
 obtain⟨H₀,Z,ρ,τ,C,t,C',R,e,k⟩:=h;cases e;intro p hp;obtain⟨R1,s1,r1⟩:=R.alloc_cl (kd:=.dk []) (ts:=[]) (vs:=[]) (ob:=.dK []) hp ⟨rfl,rfl⟩ .nil
 exact k _ _ _ R1 r1 s1
theorem aJV(h:trE K (uW (.dt [])) σ H Q):tDNewT σ H Q:=by
 obtain⟨H₀,Z,ρ,τ,C,t,C',R,e,k⟩:=h;cases e;intro p hp;obtain⟨R1,s1,r1⟩:=R.alloc_cl (kd:=.dt []) (ts:=[]) (vs:=[]) (ob:=.dT []) hp ⟨rfl,rfl⟩ .nil
 exact k _ _ _ R1 r1 s1
def uB(fk fv:FE):FE:=fun τ C=>(fk τ (C++[(.dk [],[])])).bind fun p=>(fv τ p.2).bind fun q=>(kyT p.1).bind fun k=>match dkc q.2 (.cell C.length)with
 |some (_,[],[])=>some (.cell C.length,q.2.set C.length (.dk [k],[q.1]))
 |_=>none
theorem aKa(h:trE K (uB fk fv) σ H Q):tDisp [(trE K fk,trE K fv)] σ H Q:=by
 obtain⟨H₀,Z,ρ,τ,C,t,C',R,e,k⟩:=h;intro p hp;unfold uB at e;obtain⟨⟨t1,C1⟩,e1,e⟩:=aK.mp e;obtain⟨⟨t2,C2⟩,e2,e⟩:=aK.mp e;obtain⟨ky,e3,e⟩:=aK.mp e;dsimp only at e2 e;split at e
 ·rename_i e4;cases e;obtain⟨R1,s1,r1⟩:=R.alloc_cl (kd:=.dk []) (ts:=[]) (vs:=[]) (ob:=.dK []) hp ⟨rfl,rfl⟩ .nil
  refine⟨H₀,Z,_,τ,_,t1,C1,R1,e1,fun x H1 af ul h1 s2=>?_⟩
  refine⟨H₀,Z,af,τ,C1,t2,C2,ul,e2,fun y H2 ar R2 h2 s3=>?_⟩
  have r3:=(r1.step s2).step s3;obtain⟨a,vs,ev,q,hl,hH,hr⟩:=R2.dk r3 e4;have ec:=(aCE e4).1;cases ec;cases ev;rw[hr.nil_inv]at hH
  refine⟨hH,[(ky,y)],by rw[aBg h1 e3];rfl,by simp,?_⟩
  obtain⟨w1,w2⟩:=R2.put (kd:=.dk [ky]) (ts:=[t2]) (vs:=[y]) (ob:=.dK [(ky,y)]) q (by rw[hH];trivial) ⟨rfl,rfl⟩ (.cons h2 .nil)
  exact k _ _ ar w1 (r3.step w2) (((s1.trans s2).trans s3).trans w2)
 ·cases e
def dval(C:Sto)(td tk:T):Option (Option T):=match dkc C td with
 |some x=>(kyT tk).map fun k=>vl (x.2.1.zip x.2.2) k
 |none=>(dzc C td).bind fun x=>(ktT tk).map fun k=>vl (x.2.1.zip x.2.2) k
theorem Rel.dval{H₀:Hp}{Z:Addr->Prop}{τ:TSt}{C:Sto}{x y:V}{o:Option T}(R:Rel K H₀ Z ρ τ C σ H)(h1:RT K (mask H Z ρ) ρ td x)(h2:RT K (mask H Z ρ) ρ tk y)(e:TL.dval C td tk=some o):
 ∃a w,x=.ref a/\IsD H a/\rY H a y w/\match o with
  |some t=>∃v,w=some v/\RT K (mask H Z ρ) ρ t v
  |none=>w=none:=by
 unfold TL.dval at e;split at e
 ·rename_i z hz;obtain⟨c,ks,ts⟩:=z;obtain⟨k,e1,e⟩:=aL.mp e;obtain⟨a,vs,ev,q,hl,hH,hr⟩:=R.dk h1 hz
  refine⟨a,_,ev,.inl ⟨_,.inl hH⟩,by rw[aBg h2 e1];exact rY.k hH,?_⟩
  cases o with
  |some t=>exact hr.vl e
  |none=>exact hr.vlN e
 ·obtain⟨⟨c,ks,ts⟩,hz,e⟩:=aK.mp e;obtain⟨k,e1,e⟩:=aL.mp e;obtain⟨a,vs,ev,q,hl,hH,hr⟩:=R.dz h1 hz;obtain⟨b,eb,hb⟩:=aGR h2 e1
  refine⟨a,_,ev,.inr ⟨_,hH⟩,.inr ⟨_,k,b,hH,eb,hb,rfl⟩,?_⟩
  cases o with
  |some t=>exact hr.vl e
  |none=>exact hr.vlN e
def aEC(td tk:T)(C:Sto):Option (T×Sto):=match dval C td tk with
 |some (some t)=>some (t,C)
 |_=>none
abbrev aAj(fd fk:FE):FE:=jA fd fk aEC
theorem aLQ(h:trE K (aAj fd fk) σ H Q):tDGet (trE K fd) (trE K fk) σ H Q:=by
 refine iP (aEK h) fun x H1 q=>iP q fun y H2 q=>?_
 obtain⟨t1,t2,H₀,Z,ρ,τ,C,t,C',R,r,e,k⟩:=q;obtain⟨_,_,z,r1,r⟩:=r.cons_inv;cases z;obtain⟨_,_,z,r2,r⟩:=r.cons_inv;cases z;unfold aEC at e;split at e
 ·rename_i u hu;cases e;obtain⟨a,w,ex,_,g,v,ew,rv⟩:=R.dval r1 r2 hu;subst ew
  exact⟨a,v,ex,g,k v H2 ρ R rv .refl⟩
 ·cases e
def xD(b:Bool)(tk td:T)(C:Sto):Option (T×Sto):=(dval C td tk).map fun o=>(.bl (o.isSome==b),C)
theorem aK2{x y:V}{H2:Hp}(b:Bool)(q:∃t1 t2,trV K σ [t1,t2] [y,x] (xD b t1 t2) H2 Q):∃a o,x=.ref a/\rY H2 a y o/\Q (.bl (o.isSome==b)) H2:=by
 obtain⟨t1,t2,H₀,Z,ρ,τ,C,t,C',R,r,e,k⟩:=q;obtain⟨_,_,z,r1,r⟩:=r.cons_inv;cases z;obtain⟨_,_,z,r2,r⟩:=r.cons_inv;cases z;unfold xD at e;obtain⟨o,e1,e⟩:=aL.mp e;cases e;obtain⟨a,w,ex,_,g,hw⟩:=R.dval r2 r1 e1
 refine⟨a,w,ex,g,?_⟩
 cases o with
 |some t=>obtain⟨v,ew,rv⟩:=hw;subst ew;exact k _ H2 ρ R .bl .refl
 |none=>subst hw;exact k _ H2 ρ R .bl .refl
theorem aNw(h:trE K (jA fk fd (xD true)) σ H Q):tDIn (trE K fk) (trE K fd) σ H Q:=by
 refine iP (aEK h) fun x H1 q=>iP q fun y H2 q=>?_
 obtain⟨a,o,ex,g,q⟩:=aK2 true q
 exact⟨a,o,ex,g,by cases o<;>exact q⟩
theorem aMt(h:trE K (jA fk fd (xD false)) σ H Q):tDNotIn (trE K fk) (trE K fd) σ H Q:=by
 refine iP (aEK h) fun x H1 q=>iP q fun y H2 q=>?_
 obtain⟨a,o,ex,g,q⟩:=aK2 false q
 exact⟨a,o,ex,g,by cases o<;>exact q⟩
def isDc(C:Sto)(t:T):Bool:=(dkc C t).isSome||(dzc C t).isSome
theorem Rel.isDc{H₀:Hp}{Z:Addr->Prop}{τ:TSt}{C:Sto}{t:T}{v:V}(R:Rel K H₀ Z ρ τ C σ H)(h:RT K (mask H Z ρ) ρ t v)(e:TL.isDc C t=true):∃a,v=.ref a/\IsD H a:=by
 unfold TL.isDc at e;rcases Bool.or_eq_true_iff.mp e with e|e
 ·obtain⟨⟨c,ks,ts⟩,e⟩:=cP.mp e;obtain⟨a,vs,ev,q,hl,hH,hr⟩:=R.dk h e
  exact⟨a,ev,.inl ⟨_,.inl hH⟩⟩
 ·obtain⟨⟨c,ks,ts⟩,e⟩:=cP.mp e;obtain⟨a,vs,ev,q,hl,hH,hr⟩:=R.dz h e
  exact⟨a,ev,.inr ⟨_,hH⟩⟩
def uP(fd fk fx:FE):FE:=fun τ C=>(fd τ C).bind fun p=>if isDc p.2 p.1=true then(fk τ p.2).bind fun q=>(fx τ q.2).bind fun r=>(dval r.2 p.1 q.1).map fun o=>(o.getD r.1,r.2)else none
theorem aJj{fx:FE}(h:trE K (uP fd fk fx) σ H Q):tDGet2 (trE K fd) (trE K fk) (trE K fx) σ H Q:=by
 obtain⟨H₀,Z,ρ,τ,C,t,C',R,e,k⟩:=h;unfold uP at e;obtain⟨⟨t1,C1⟩,e1,e⟩:=aK.mp e;dsimp only at e;split at e
 ·rename_i hd;obtain⟨⟨t2,C2⟩,e2,e⟩:=aK.mp e;obtain⟨⟨t3,C3⟩,e3,e⟩:=aK.mp e;obtain⟨o,e4,e⟩:=aL.mp e;cases e;dsimp only at e3 e4
  refine⟨H₀,Z,ρ,τ,C,t1,C1,R,e1,fun x H1 af R1 h1 s1=>?_⟩
  obtain⟨a,ea,hD⟩:=R1.isDc h1 hd
  refine⟨a,ea,hD,?_⟩
  refine⟨H₀,Z,af,τ,C1,t2,C2,R1,e2,fun y H2 ar R2 h2 s2=>?_⟩
  refine⟨H₀,Z,ar,τ,C2,t3,C3,R2,e3,fun z H3 bb R3 h3 s3=>?_⟩
  obtain⟨a',w,ex,_,g,hw⟩:=R3.dval ((h1.step s2).step s3) (h2.step s3) e4;rw[ea]at ex;cases ex
  refine⟨w,g,?_⟩
  cases o with
  |some u=>obtain⟨v,ew,rv⟩:=hw;subst ew;exact k _ H3 bb R3 rv ((s1.trans s2).trans s3)
  |none=>subst hw;exact k _ H3 bb R3 h3 ((s1.trans s2).trans s3)
 ·cases e
def dput(C:Sto)(td tk tv:T):Option Sto:=match dkc C td with
 |some x=>(kyT tk).bind fun k=>if x.2.1.length<lim then some (C.set x.1 (.dk (pkK k x.2.1),pvK k tv x.2.1 x.2.2))else none
 |none=>(dtc C td).bind fun x=>(ktT tk).bind fun k=>if x.2.1.length<lim then some (C.set x.1 (.dt (pkK k x.2.1),pvK k tv x.2.1 x.2.2))else none
theorem Rel.dput(hz:lim<=sizeLine){H₀:Hp}{Z:Addr->Prop}{τ:TSt}{C C':Sto}{tv:T}{x y v:V}(R:Rel K H₀ Z ρ τ C σ H)(h1:RT K (mask H Z ρ) ρ td x)(h2:RT K (mask H Z ρ) ρ tk y)(h3:RT K (mask H Z ρ) ρ tv v)(e:TL.dput C td tk tv=some C'):
 ∃a H',x=.ref a/\zO H a y v H'/\Rel K H₀ Z ρ τ C' σ H'/\Step H H' ρ ρ:=by
 unfold TL.dput at e;split at e
 ·rename_i z xc;obtain⟨c,ks,ts⟩:=z;obtain⟨k,e1,e⟩:=aK.mp e;dsimp only at e;split at e
  ·rename_i fu;cases e;obtain⟨a,vs,ev,q,hl,hH,hr⟩:=R.dk h1 xc;obtain⟨w1,w2⟩:=R.put (kd:=.dk (pkK k ks)) (ob:=.dK ((pkK k ks).zip (pvK k v ks vs))) q (by rw[hH];trivial) ⟨aD1 hl,rfl⟩ (hr.pvK (k:=k) (ks:=ks) h3)
   refine⟨a,_,ev,?_,w1,w2⟩
   rw[aBg h2 e1,<-wY hl]
   exact zO.k hH (by rw[dF];lia)
  ·cases e
 ·obtain⟨⟨c,ks,ts⟩,xc,e⟩:=aK.mp e;obtain⟨k,e1,e⟩:=aK.mp e;dsimp only at e;split at e
  ·rename_i fu;cases e;obtain⟨a,vs,ev,q,hl,hH,hr⟩:=R.dt h1 xc;obtain⟨w1,w2⟩:=R.put (kd:=.dt (pkK k ks)) (ob:=.dT ((pkK k ks).zip (pvK k v ks vs))) q (by rw[hH];trivial) ⟨aD1 hl,rfl⟩ (hr.pvK (k:=k) (ks:=ks) h3);obtain⟨b,eb,hb⟩:=aGR h2 e1
   refine⟨a,_,ev,?_,w1,w2⟩
   rw[eb,<-wY hl]
   exact zO.t hH hb (by rw[dF];lia)
  ·cases e
def zH(fd fk fv:FE):FS:=fun τ C=>(fv τ C).bind fun p=>(fd τ p.2).bind fun q=>(fk τ q.2).bind fun r=>(dput r.2 q.1 r.1 p.1).map fun C'=>(.nx,τ,C')
theorem aLx(hz:lim<=sizeLine)(h:trS K W (zH fd fk fv) D σ H):sDPut (trE K fd) (trE K fk) (trE K fv) D σ H:=by
 obtain⟨H₀,Z,ρ,τ,C,fl,ag,C',R,e,k⟩:=h;unfold zH at e;obtain⟨⟨t1,C1⟩,e1,e⟩:=aK.mp e;obtain⟨⟨t2,C2⟩,e2,e⟩:=aK.mp e;obtain⟨⟨t3,C3⟩,e3,e⟩:=aK.mp e;obtain⟨C4,e4,e⟩:=aL.mp e;cases e;dsimp only at e2 e3 e4
 refine⟨H₀,Z,ρ,τ,C,t1,C1,R,e1,fun v H1 af R1 h1 s1=>?_⟩
 refine⟨H₀,Z,af,τ,C1,t2,C2,R1,e2,fun x H2 ar R2 h2 s2=>?_⟩
 refine⟨H₀,Z,ar,τ,C2,t3,C3,R2,e3,fun y H3 bb R3 h3 s3=>?_⟩
 obtain⟨a,H4,ex,g,R4,s4⟩:=R3.dput hz (h2.step s3) h3 ((h1.step s2).step s3) e4
 exact⟨a,H4,ex,g,k σ H4 bb R4 (((s1.trans s2).trans s3).trans s4)⟩
def aAL(g:Int->Int->Int)(fd fk fv:FE):FS:=fun τ C=>(fd τ C).bind fun p=>(fk τ p.2).bind fun q=>match dval q.2 p.1 q.1 with
 |some (some (.int i))=>(fv τ q.2).bind fun r=>match r.1 with
  | .int j=>(dput r.2 p.1 q.1 (.int (g i j))).map fun C'=>(.nx,τ,C')
  |_=>none
 |_=>none
theorem aLi(hz:lim<=sizeLine){g:Int->Int->Int}{rd:V->V->Hp->VK->Prop}(rn:∀i j H Q,Q (.int (g i j)) H->rd (.int i) (.int j) H Q)(h:trS K W (aAL g fd fk fv) D σ H):sDAug (trE K fd) (trE K fk) (trE K fv) rd D σ H:=by
 obtain⟨H₀,Z,ρ,τ,C,fl,ag,C',R,e,k⟩:=h;unfold aAL at e;obtain⟨⟨t1,C1⟩,e1,e⟩:=aK.mp e;obtain⟨⟨t2,C2⟩,e2,e⟩:=aK.mp e;dsimp only at e2 e;split at e
 ·rename_i i hv;obtain⟨⟨t3,C3⟩,e3,e⟩:=aK.mp e;dsimp only at e;split at e
  ·rename_i j;obtain⟨C4,e4,e⟩:=aL.mp e;cases e
   refine⟨H₀,Z,ρ,τ,C,t1,C1,R,e1,fun x H1 af R1 h1 s1=>?_⟩
   refine⟨H₀,Z,af,τ,C1,t2,C2,R1,e2,fun y H2 ar R2 h2 s2=>?_⟩
   obtain⟨a,w,ex,_,gg,v,ew,rv⟩:=R2.dval (h1.step s2) h2 hv;subst ew
   refine⟨a,v,ex,gg,?_⟩
   refine⟨H₀,Z,ar,τ,C2,_,C3,R2,e3,fun z H3 bb R3 h3 s3=>?_⟩
   rw[rv.int_inv,h3.int_inv]
   refine rn i j H3 _ ?_
   obtain⟨a',H4,ze,g4,R4,s4⟩:=R3.dput hz ((h1.step s2).step s3) (h2.step s3) (v:=.int (g i j)) (.int) e4;rw[ex]at ze;cases ze
   exact⟨H4,g4,k σ H4 bb R4 (((s1.trans s2).trans s3).trans s4)⟩
  ·cases e
 ·cases e
end
noncomputable def od{α:Type}:List α->List α
 |_::y::r=>y::od r
 |_=>[]
def aEX(f:FE):FN:=fun τ C=>(f τ C).bind fun p=>(liT p.2 p.1).map fun ts=>(od ts,p.2)
section
variable {K:aO}{W:XW}{σ:St}{H:Hp}{Q:VK}{D:Ends}{M:Hp}{ρ:Rho}
variable{H1:Hp}{af:Rho}
theorem RTs.od:∀{ts:List T}{vs:List V},RTs K M ρ ts vs->RTs K M ρ (TL.od ts) (TL.od vs)
 | [],_,h=>by rw[h.nil_inv];exact .nil
 | [t],vs,h=>by
   obtain⟨v,r,rfl,_,h2⟩:=h.cons_inv;rw[h2.nil_inv];exact .nil
 |t::u::ts,vs,h=>by
  obtain⟨v,r,rfl,_,h2⟩:=h.cons_inv;obtain⟨w,r,rfl,h3,h4⟩:=h2.cons_inv;unfold TL.od
  exact .cons h3 (RTs.od h4)
theorem aNh{f:FE}(h:trN K (aEX f) σ H Q):trE K f σ H fun x H1=>∃a xs,x=.ref a/\SqL K H1 a xs/\∀p,H1 p=none->Q (.ref p) (upd H1 p (.lst (od xs))):=by
 obtain⟨H₀,Z,ρ,τ,C,ys,C',R,e,q⟩:=h;unfold aEX at e;obtain⟨⟨t,C1⟩,e1,e⟩:=aK.mp e;obtain⟨ts,e2,e⟩:=aL.mp e;cases e
 refine⟨H₀,Z,ρ,τ,C,t,_,R,e1,fun v H1 af R1 h1 s1=>?_⟩
 obtain⟨a,vs,ev,qa,r⟩:=R1.li h1 e2
 exact⟨a,vs,ev,qa,fun p hp=>q p H1 af _ R1 hp r.od s1⟩
def Ite(K:aO)(l:Addr):It:=
 ⟨fun i H=>∃xs x,SqL K H l xs/\xs[i]?=some x,fun i H v H'=>∃p x,H p=none/\v=.ref p/\H'=upd H p (.tup [.int i,x])/\∀xs,SqL K H l xs->xs[i]?=some x,fun i H=>∃xs,SqL K H l xs/\xs.length<=i⟩
def iEnum(K:aO)(t:TA):TI:=fun σ H R=>t σ H fun vs H1=>∃l,vs=[.ref l]/\(∃xs,SqL K H1 l xs)/\R (Ite K l) H1
noncomputable def aBx(ts:List T):List T:=ts.zipIdx.map fun p=>.tup [.int p.2,p.1]
theorem aIw{ts:List T}{i:Nat}:(aBx ts)[i]?=(ts[i]?).map fun t=>.tup [.int i,t]:=by
 unfold aBx;rw[bH,aOy];cases ts[i]?<;>simp
theorem aIm{ts:List T}:(aBx ts).length=ts.length:=by simp[aBx]
theorem aHg{Z:Addr->Prop}{H₀:Hp}{τ:TSt}{C:Sto}{σ:L2.St}{t:T}{ts:List T}{a:Addr}(R1:Rel K H₀ Z af τ C σ H1)(h1:RT K (mask H1 Z af) af t (.ref a))(e1:liT C t=some ts):
 Wlk K (Ite K a) Z H1 af (aBx ts) (stays t ts):=by
 refine⟨fun i t' H₀ Z' ae ag C' σ H ht R' sm ix aw _=>?_,fun H₀ Z' ae ag C' σ H R' sm ix aw _=>?_⟩
 ·obtain⟨ws,q1,r1⟩:=mG R1 h1 e1 R' sm ix aw;rw[aIw]at ht;obtain⟨u,z1,rfl⟩:=aL.mp ht;obtain⟨v1,lm,vy⟩:=r1.get z1
  refine⟨⟨ws,v1,q1,lm⟩,fun x H' hy=>?_⟩
  obtain⟨p,y,hp,rfl,rfl,k1⟩:=hy;have w1:=k1 ws q1;rw[lm]at w1;cases w1
  exact⟨fun b u h=>by rw[fO (fun z=>by rw[z,hp]at h;cases h)];exact h,R'.alloc_tup hp (.cons .int (.cons vy .nil))⟩
 ·obtain⟨ws,q1,r1⟩:=mG R1 h1 e1 R' sm ix aw
  exact⟨ws,q1,by rw[r1.length,aIm];exact bD _⟩
def wR(f:FE)(g:FG)(F:FS):FS:=fun τ C=>(f τ C).bind fun p=>(liT p.2 p.1).bind fun ts=>kR (stays p.1 ts) g F (aBx ts) τ p.2
theorem aM6{f:FE}{g:FG}{F:FS}(h:trS K W (wR f g F) D σ H):aH3 (iEnum K (trA K (e7 f fG))) (trG K g) (trS K W F) D σ H:=by
 obtain⟨H₀,Z,ρ,τ,C,fl,ag,C',R,e,k⟩:=h;unfold wR at e;obtain⟨⟨t,C1⟩,e1,e⟩:=aK.mp e;obtain⟨ts,e2,e⟩:=aK.mp e
 refine⟨H₀,Z,ρ,τ,C,[t],C1,R,by simp[e7,fG,e1],fun vs H1 af R1 h1 s1=>?_⟩
 obtain⟨v,r,rfl,q1,q2⟩:=h1.cons_inv;rw[q2.nil_inv];obtain⟨a,vs,ea,qa,ra⟩:=R1.li q1 e2;subst ea
 exact⟨a,rfl,⟨vs,qa⟩,wG R1 (qM e2) e (aHg R1 q1 e2) fun ah H' ae R' s'=>k ah H' ae R' (s1.trans s')⟩
def mrgK{α:Type}:List Key->List α->List Key×List α->List Key×List α
 |k::ks,v::vs,x=>mrgK ks vs (pkK k x.1,pvK k v x.1 x.2)
 |_,_,x=>x
theorem aD7:∀{ks':List Key}{vs':List V}{ks:List Key}{vs:List V},ks.length=vs.length->ks'.length=vs'.length->
 qB (ks.zip vs) (ks'.zip vs')=(mrgK ks' vs' (ks,vs)).1.zip (mrgK ks' vs' (ks,vs)).2/\(mrgK ks' vs' (ks,vs)).1.length=(mrgK ks' vs' (ks,vs)).2.length
 | [],_,ks,vs,h,_=>by unfold mrgK;exact⟨rfl,h⟩
 |_::_,[],ks,vs,h,h'=>by cases h'
 |k::ks',v::vs',ks,vs,h,h'=>by
  rw[cC];show qB (putK (ks.zip vs) k v) (ks'.zip vs')=_/\_;rw[wY h];unfold mrgK
  exact aD7 (aD1 h) (by simpa using h')
theorem RTs.mrgK:∀{ks':List Key}{ci:List T}{vs':List V}{ks:List Key}{ts:List T}{vs:List V},RTs K M ρ ci vs'->RTs K M ρ ts vs->(TL.mrgK ks' ci (ks,ts)).1=(TL.mrgK ks' vs' (ks,vs)).1/\RTs K M ρ (TL.mrgK ks' ci (ks,ts)).2 (TL.mrgK ks' vs' (ks,vs)).2
 | [],_,_,ks,ts,vs,_,h=>by unfold TL.mrgK;exact⟨rfl,h⟩
 |_::_,[],vs',ks,ts,vs,h',h=>by rw[h'.nil_inv];unfold TL.mrgK;exact⟨rfl,h⟩
 |k::ks',t::ci,vs',ks,ts,vs,h',h=>by
  obtain⟨v,r,rfl,h1,h2⟩:=h'.cons_inv;unfold TL.mrgK
  exact RTs.mrgK h2 (h.pvK (k:=k) (ks:=ks) h1)
def tDUpd(td te:TE):TE:=fun σ H Q=>td σ H fun x H1=>∃a,x=.ref a/\IsD H1 a/\te σ H1 fun y H2=>∃b kvs more,y=.ref b/\a≠b/\H2 a=some (.dK kvs)/\H2 b=some (.dK more)/\kvs.length+more.length<=sizeLine/\Q .non (upd H2 a (.dK (qB kvs more)))
def wO(fd fe:FE):FE:=fun τ C=>(fd τ C).bind fun p=>if isDc p.2 p.1=true then(fe τ p.2).bind fun q=>(dkc q.2 p.1).bind fun x=>(dkc q.2 q.1).bind fun y=>if x.1≠y.1/\x.2.1.length+y.2.1.length<=lim then
 some (.non,q.2.set x.1 (.dk (mrgK y.2.1 y.2.2 (x.2.1,x.2.2)).1,(mrgK y.2.1 y.2.2 (x.2.1,x.2.2)).2))else none else none
theorem aMh(hz:lim<=sizeLine){fd fe:FE}(h:trE K (wO fd fe) σ H Q):tDUpd (trE K fd) (trE K fe) σ H Q:=by
 obtain⟨H₀,Z,ρ,τ,C,t,C',R,e,k⟩:=h;unfold wO at e;obtain⟨⟨t1,C1⟩,e1,e⟩:=aK.mp e;dsimp only at e;split at e
 ·rename_i hd;obtain⟨⟨t2,C2⟩,e2,e⟩:=aK.mp e;obtain⟨⟨c,ks,ts⟩,e3,e⟩:=aK.mp e;obtain⟨⟨c',ks',ci⟩,e4,e⟩:=aK.mp e;dsimp only at e3 e4 e;split at e
  ·rename_i hl;cases e
   refine⟨H₀,Z,ρ,τ,C,t1,C1,R,e1,fun x H1 af R1 h1 s1=>?_⟩
   obtain⟨a,ea,hD⟩:=R1.isDc h1 hd
   refine⟨a,ea,hD,?_⟩
   refine⟨H₀,Z,af,τ,C1,t2,C2,R1,e2,fun y H2 ar R2 h2 s2=>?_⟩
   obtain⟨a',vs,ev,q,kl,hH,hr⟩:=R2.dk (h1.step s2) e3;rw[ea]at ev;cases ev;obtain⟨b,vs',ik,q',lz,vd,xu⟩:=R2.dk h2 e4;have mm:a≠b:=fun z=>by
    subst z;obtain⟨i1,j1⟩:=aR.mp q;obtain⟨i2,j2⟩:=aR.mp q'
    exact hl.1 ((aOX R2.nd).mp (j1.trans j2.symm))
   refine⟨b,_,_,ik,mm,hH,vd,by rw[dF,dF];lia,?_⟩
   obtain⟨z1,z2⟩:=aD7 (ks':=ks') (vs':=vs') kl lz;obtain⟨z3,z4⟩:=RTs.mrgK (ks':=ks') (ks:=ks) xu hr;rw[z1];obtain⟨w1,w2⟩:=R2.put (kd:=.dk (mrgK ks' ci (ks,ts)).1) (ob:=.dK ((mrgK ks' vs' (ks,vs)).1.zip (mrgK ks' vs' (ks,vs)).2)) q (by rw[hH];trivial) ⟨by rw[z3];exact z2,by rw[z3]⟩ z4
   exact k _ _ ar w1 .non ((s1.trans s2).trans w2)
  ·cases e
 ·cases e
def Itd(a:Addr)(ob:Obj)(kvs:List (List Key×V)):It:=
 ⟨fun i H=>H a=some (.frz ob (.dT kvs))/\i<kvs.length,fun i H x H'=>H'=H/\∃b k v,x=.ref b/\kvs[i]?=some (k,v)/\H b=some (.tup (k.map kV)),fun i H=>H a=some (.frz ob (.dT kvs))/\kvs.length<=i⟩
def iDict(B:Addr->Prop)(t:TE):TI:=fun σ H R=>t σ H fun x H1=>∃a kvs,x=.ref a/\H1 a=some (.dT kvs)/\(B a->∀ob,R (Itd a ob kvs) (upd H1 a (.frz ob (.dT kvs))))
def thaw(B:Addr->Prop)(t:(VK->Prop))(Q:VK):Prop:=t fun v H=>∃a ob u,B a/\H a=some (.frz ob u)/\Q v (upd H a u)
noncomputable def kT:Key->T
 | .inl i=>.int i
 | .inr x=>.str x
def aHw(k:List Key):T:=.tup (k.map kT)
theorem aNI{k:Key}:RT K M ρ (kT k) (kV k):=by cases k<;>(unfold kT RT;rfl)
theorem aG7:∀{k:List Key},RTs K M ρ (k.map kT) (k.map kV)
 | []=>.nil
 |k::ks=>.cons aNI aG7
theorem aIt{Z:Addr->Prop}{a:Addr}{ob:Obj}{ks:List (List Key)}{vs:List V}(hl:ks.length=vs.length)(h1:H1 a=some (.frz ob (.dT (ks.zip vs)))):Wlk K (Itd a ob (ks.zip vs)) Z H1 af (ks.map aHw) (fun _=>True):=by
 have hz:(ks.zip vs).length=ks.length:=by rw[dF];lia
 refine⟨fun i t' H₀ Z' ae ag C' σ H ht R' sm ix aw fz=>?_,fun H₀ Z' ae ag C' σ H R' sm ix aw fz=>?_⟩
 ·rw[bH]at ht;obtain⟨k,hk,rfl⟩:=aL.mp ht
  refine⟨⟨fz _ _ _ h1,by rw[hz];exact(aR.mp hk).1⟩,fun x H' hy=>?_⟩
  obtain⟨rfl,b,k',v,rfl,hk',hb⟩:=hy;obtain⟨z1,_⟩:=dX.mp hk';rw[hk]at z1;cases z1
  refine⟨.refl _,?_⟩
  unfold aHw RT
  refine⟨b,_,rfl,nJ (fun z=>?_) (fun z=>?_) hb,aG7⟩
  ·have:=R'.zd b z;rw[hb]at this;exact this
  ·have:=R'.cel_some z;rw[hb]at this;exact this
 ·exact⟨fz _ _ _ h1,by rw[aS,hz];exact bD _⟩
def uU(f:FE)(k:Nat)(is:List Nat)(g:FG)(tc:FB)(fe:FE):FN:=fun τ C=>(f τ C).bind fun p=>(dtc p.2 p.1).bind fun x=>if x.2.1.length<lim/\x.2.1.length=x.2.2.length then
 (j3 g tc fe (scT k is τ) (x.2.1.map aHw) (p.2.set x.1 (.dz x.2.1,x.2.2))).bind fun r=>match r.2[x.1]?with
  |some (.dz ks,ts)=>some (r.1,r.2.set x.1 (.dt ks,ts))
  |_=>none else none
theorem aJH{f:FE}{k:Nat}{is:List Nat}{g:FG}{tc:FB}{fe:FE}{B:Addr->Prop}(hg:Own k g)(h:trN K (uU f k is g tc fe) σ H Q):thaw B (aAE (iDict B (trE K f)) (scV k is) (trG K g) (trT K tc) (trE K fe) σ H) Q:=by
 obtain⟨H₀,Z,ρ,τ,C,ys,C',R,e,q⟩:=h;unfold uU at e;obtain⟨⟨t,C1⟩,e1,e⟩:=aK.mp e;obtain⟨⟨c,ks,ts⟩,e2,e⟩:=aK.mp e;dsimp only at e2 e;split at e
 ·rename_i hl;obtain⟨⟨zs,C2⟩,e3,e⟩:=aK.mp e;dsimp only at e;split at e
  ·rename_i ks' ci e4;cases e
   refine⟨H₀,Z,ρ,τ,C,t,C1,R,e1,fun v H1 af R1 h1 s1=>?_⟩
   obtain⟨a,vs,ev,qa,hlv,hH,hr⟩:=R1.dt h1 e2;subst ev
   refine⟨a,_,rfl,hH,fun hB ob D hD=>?_⟩
   obtain⟨Rf,sf⟩:=R1.put (kd:=.dz ks) (ob:=.frz ob (.dT (ks.zip vs))) qa (by rw[hH];trivial) ⟨hlv,ob,rfl⟩ hr
   refine sW (Q:=fun v H=>∃a ob u,B a/\H a=some (.frz ob u)/\Q v (upd H a u)) (P:=fun _=>True) Rf hg (aIt hlv i9) trivial (fun _ _ _ _=>trivial) (by simpa using hl.1) e3 hD fun p H' ae ws R' hp rv s'=>?_
   have vz:=s'.idx _ _ qa;have hf:=s'.fz a ob _ i9;obtain⟨x,us,o2,c1,c2,c4,c3⟩:=R'.cel c a vz;rw[e4]at c1;cases c1;rw[hf]at c2;cases c2;obtain⟨lz,ob2,z⟩:=c4;have z2:ks.zip vs=ks'.zip us:=by
    injection z with _ z
    injection z
   have wl:a≠p:=fun z=>by rw[z,hp]at hf;cases hf
   refine⟨a,ob,.dT (ks.zip vs),hB,by rw[fO wl];exact hf,?_⟩
   obtain⟨Rt,em⟩:=R'.put0 (kd:=.dt ks') (ob:=.dT (ks.zip vs)) vz ⟨lz,by rw[z2]⟩ c3;have ua:upd (upd H' p (.lst ws)) a (.dT (ks.zip vs))=upd (upd H' a (.dT (ks.zip vs))) p (.lst ws):=by
    funext b;unfold upd;by_cases h1:b=a
    ·subst h1;rw[if_pos rfl,if_neg wl,if_pos rfl]
    ·by_cases h2:b=p
     ·rw[if_neg h1,if_pos h2,if_pos h2]
     ·rw[if_neg h1,if_neg h2,if_neg h2,if_neg h1]
   rw[ua];have am:a∈af:=bF qa;have am':a∈ae:=bF vz
   refine q p _ ae ws Rt (by rw[fO (Ne.symm wl)];exact hp) (by rw[em];exact rv) (s1.trans ⟨fun b o z n=>?_,s'.pre,fun b o u z=>?_⟩)
   ·have ne:b≠a:=fun z=>n (by rw[z];exact am)
    have:=s'.kept b o (by rw[fO ne];exact z) n
    exact⟨this.1,by rw[fO ne];exact this.2⟩
   ·have ne:b≠a:=fun y=>by rw[y,hH]at z;cases z
    rw[fO ne]
    exact s'.fz b o u (by rw[fO ne];exact z)
  ·cases e
 ·cases e
end
end TL
namespace TL
open PySem PySem.Spec PyProof.Rows L2
structure sU(P:Program)(w:World)(K:aO)(mg:Str->Option Value)(base:Heap)(k:Nat)(x:Str)(n:Nat)(G:List T->Sto->Option (T×Sto)):Prop where
 ex:∃f fd ps,nY P w K mg base CX0 k f fd ps (spS K n G)/\mg x=some (.ref f)/\cH K (.ref f)=true/\Binds K fd ps []
structure m9(P:Program)(w:World)(K:aO)(mg:Str->Option Value)(base:Heap)(k:Nat)(cls:String)(m:Str)(n:Nat)(G:List T->Sto->Option (T×Sto)):Prop where
 ex:∃C f fd ps,bV K mainGlobals (Str.ofString cls)=some (some (.ref C))/\Cls K C/\Meth K C m f/\nY P w K mg base CX0 k f fd ps (spS K n G)/\Binds K fd ps []
structure aDN(P:Program)(w:World)(K:aO)(mg:Str->Option Value)(base:Heap)(k:Nat)(cls:String)(n:Nat)(G:List T->Sto->Option (T×Sto))(gp:List T)(bn:List V):Prop where
 ex:∃C f fd ps ds,bV K mainGlobals (Str.ofString cls)=some (some (.ref C))/\mg (Str.ofString cls)=some (.ref C)/\Mk K C f/\nY P w K mg base CX0 k f fd ps (spS K n G)/\Binds K fd ps ds/\Vals bn ds
 rt:∀M ρ,RTs K M ρ gp bn
section
variable {X:Cx}{e o:Expr}{es:List Expr}{fo fa:FE}{fr:FN}{p pos ao al:Pos}
variable{G:List T->Sto->Option (T×Sto)}{cls:String}{pl:Sem Bool}
theorem kF{k n:Nat}{x:Str}(D:sU X.prog X.w X.K X.mg X.base k x n G)(hr:Room k X.A)(ha:QA X (e::es) fr)(hg:Gl X x:=by rfl)(cr:(x==("__debug__":Str))=false:=by decide)
 (he:starEach (e::es) X.env=(false,eval e X.env)::starEach es X.env:=by rfl)(av:(backTo pos (starEach es X.env)).any (·.1)=false:=by rfl):QE X (.Call (.Name x p) (e::es) [] pos) (kU n G fr):=by
 obtain⟨f,fd,ps,F,hm,hk,hb⟩:=D.ex
 exact(wH (E:=fun _ _ _=>False) F hr hg hm hk hb .nil (fun _ _ _ _ _ _ _ h=>h.elim) ha cr he av).imp fun _ _ _=>aJ2
theorem yZ{k n:Nat}{m:Str}(D:m9 X.prog X.w X.K X.mg X.base k cls m n G)(hr:Room k X.A)(ho:QE X o fo)(ha:QA X (e::es) fr)
 (bg:starEach (e::es) X.env=(false,eval e X.env)::starEach es X.env:=by rfl)(av:(backTo pos (starEach es X.env)).any (·.1)=false:=by rfl)
 (ht:eval (.Call (.Attribute o m al) (e::es) [] pos) X.env=(do
  let ov<-eval o X.env
  standAt al.atName
  let (f,first)<-holding [ov] (getMethod ov m pl)
  callWith pos f first (backTo pos (starEach (e::es) X.env)) (backToKw pos (keywordEach [] X.env))):=by rfl):QE X (.Call (.Attribute o m al) (e::es) [] pos) (jW cls m n G fo fr):=by
 obtain⟨C,f,fd,ps,hc,c,hm,F,hb⟩:=D.ex
 exact(aKc (E:=fun _ _ _=>False) (pl:=pl) ho c hm F hr hb .nil (fun _ _ _ _ _ _ _ h=>h.elim) ha bg av ht).imp fun _ _ _=>aHu hc
theorem vB{k n:Nat}{m:Str}(D:m9 X.prog X.w X.K X.mg X.base k cls m n G)(hr:Room k X.A)(ho:QE X o fo)
 (ht:eval (.Call (.Attribute o m al) [] [] pos) X.env=(do
  let ov<-eval o X.env
  standAt al.atName
  let (f,first)<-holding [ov] (getMethod ov m pl)
  callWith pos f first (backTo pos (starEach [] X.env)) (backToKw pos (keywordEach [] X.env))):=by rfl):QE X (.Call (.Attribute o m al) [] [] pos) (jW cls m n G fo fG):=by
 obtain⟨C,f,fd,ps,hc,c,hm,F,hb⟩:=D.ex
 refine(aH5 (E:=fun _ _ _=>False) (pl:=pl) ho c hm F hr hb .nil (fun _ _ _ _ _ _ _ h=>h.elim) ht).imp fun _ _ _ h=>?_
 exact iP (aHu hc h) fun x H1 ⟨a,dx,fs,q1,q2,q3,q4⟩=>⟨a,dx,fs,q1,q2,q3,aLc q4⟩
theorem aA9{k n:Nat}{gp:List T}{bn:List V}(D:aDN X.prog X.w X.K X.mg X.base k cls n G gp bn)(hr:Room (k+1) X.A)(ha:QA X (e::es) fr)(hg:Gl X (Str.ofString cls):=by rfl)
 (cr:(Str.ofString cls==("__debug__":Str))=false:=by decide)(he:starEach (e::es) X.env=(false,eval e X.env)::starEach es X.env:=by rfl)(av:(backTo pos (starEach es X.env)).any (·.1)=false:=by rfl):
 QE X (.Call (.Name (Str.ofString cls) p) (e::es) [] pos) (sS cls n G gp fr):=by
 obtain⟨C,f,fd,ps,ds,hc,hm,M,F,hb,hd⟩:=D.ex
 exact(aKG (E:=fun _ _ _=>False) M F hr hg hm hb hd (fun _ _ _ _ _ _ _ h=>h.elim) ha cr he av).imp fun _ _ _=>aLW hc D.rt
end
section
variable {X:Cx}{o i e f value k v:Expr}{fo fi fe fx:FE}{p pos ao ba al ak:Pos}
theorem aIX:QE X (.Dict [] [] pos) (uW (.dk [])):=aHd.imp fun _ _ _=>aJc
theorem aJZ:QE X (.Dict [] [] pos) (uW (.dt [])):=aGI.imp fun _ _ _=>aJV
theorem aI0(hk:QE X k fi)(hv:QE X v fe):QE X (.Dict [some k] [v] pos) (uB fi fe):=(aKv (aIo hk hv aJz) rfl rfl (by simp) (by simp)).imp fun _ _ _=>aKa
theorem aA3(hu:X.A.units+20<cLine)(ho:QE X o fo)(hi:QE X i fi)(hs:aLr i:=by exact fun _ _=>rfl):QE X (.Subscript o i pos) (aAj fo fi):=(aKh (by lia) ho hi hs).imp fun _ _ _=>aLQ
theorem aJE(hu:X.A.units+20<cLine)(ho:QE X o fo)(he:QE X e fe)(hf:QE X f fx)(m:M2 X o "get" al e f ak:=by exact⟨rfl,rfl,rfl,rfl⟩):QE X (.Call (.Attribute o "get" al) [e,f] [] ak) (uP fo fe fx):=
 (aIE (by lia) ho he hf m).imp fun _ _ _=>aJj
theorem aEI(hu:X.A.units+20<cLine)(ho:QE X o fo)(hi:QE X i fi)(hv:QE X value fe)(hs:swapsWith value (some (.Subscript o i ao)) pos.line X.env=pure false:=by rfl):QS X (.Assign [.Subscript o i ao] value pos) (zH fo fi fe):=(aI3 (by lia) ho hi hv hs).imp fun _ _ _=>aLx lY
theorem aDr(hu:X.A.units+20<cLine)(ho:QE X o fo)(hi:QE X i fi)(hv:QE X value fe)(ha:∀ov iv new,augStore i ov iv new=(do holding [new,ov,iv] (setItem ov iv new);release [new,ov,iv] [];pure .next):=by intro _ _ _;rfl):
 QS X (.AugAssign (.Subscript o i ba) .Sub value pos) (aAL (fun i j=>i - j) fo fi fe):=(aKr (by lia) ho hi hv aHp ha).imp fun _ _ _=>aLi lY fun i j H Q q=>⟨i,j,rfl,rfl,q⟩
theorem aNZ(hu:X.A.units+20<cLine)(hi:QE X i fi)(ho:QE X o fo)(hm:behindInMarks .In o=false:=by rfl):QT X (.Compare i [.In] [o] pos) (hZ (jA fi fo (xD true))):=(aH9 (aLD (by lia) hi ho) hm).imp fun _ _ _=>aGf fun _ _ _=>aNw
theorem aHt(hu:X.A.units+20<cLine)(hi:QE X i fi)(ho:QE X o fo)(hm:behindInMarks .NotIn o=false:=by rfl):QT X (.Compare i [.NotIn] [o] pos) (hZ (jA fi fo (xD false))):=(aH9 (aFR (by lia) hi ho) hm).imp fun _ _ _=>aGf fun _ _ _=>aMt
end
theorem aEZ{P:Program}{w:World}{K:aO}{ts:List Expr}{k:Nat}{pos:Pos}(e it l:Addr)(D:e≠it):
 Turn P w K (.Tuple ts k pos) (Ite K l) [e,it] e (fun i h=>(∃old,IsEnum h e it i old)/\h.IsListIter it l i) where
 mem:=by simp
 obj:=fun i h st b hb=>by
  obtain⟨⟨old,he⟩,⟨o1,e1,c1,d1⟩⟩:=st;simp only[bE,cB,or_false]at hb;rcases hb with rfl|rfl
  ·exact⟨_,he,fun v z=>by simp at z⟩
  ·exact⟨o1,e1,fun v z=>by rw[d1]at z;cases z⟩
 keep:=fun i h h' st kk=>by
  obtain⟨⟨old,he⟩,h1⟩:=st
  exact⟨⟨old,kk e (by simp) _ he⟩,h1.at fun o e'=>kk it (by simp) o e'⟩
 item:=by
  intro X hP hw hK hc i aa s σ H E I hf st hg;subst hP hw hK;obtain⟨⟨old,he⟩,h1⟩:=st;obtain⟨xs,x,q1,g1⟩:=hg;obtain⟨its,rv,p1,z1⟩:=I.list q1;obtain⟨u,hu,ru⟩:=rv.get g1
  refine wpAny_pyNext_enum_item he h1 p1.isList (x:=u) (by simpa using hu) D fun h' a1 a2 a3 a4 hk=>?_
  refine⟨_,rfl,wpAny_letOwnedTupleGo_enum (s:={s with heap:=h',toks:=s.toks+1}) a1 fun jv yp cb=>?_⟩
  have bf:e≠s.heap.objs.size:=bU (Heap.lt_size he);have kk:∀b ob,b∉[e,it]->s.heap.get? b=some ob->jv.get? b=some ob:=fun b ob hb q=>by
   simp only[bE,cB,or_false,not_or]at hb
   exact(cb.2 b hb.1).trans (hk b ob hb.1 hb.2 q)
  have hT:jv.get? s.heap.objs.size=some {cls:=.type "tuple",data:=.seq #[.int i s.toks,u]}:=(cb.2 _ (Ne.symm bf)).trans a3;have I1:Inv X aa σ (upd H s.heap.objs.size (.tup [.int i,x])) {s with heap:=jv,toks:=s.toks+1}:=aCY I hf kk (bD _)
   (show jQ X.prog X.w _ jv _ (.tup [.int i,x])from⟨by show 2<=sizeLine;decide,[.int i s.toks,u],.cons ⟨_,rfl⟩ (.cons ru .nil),⟨_,hT,rfl,_,rfl⟩⟩)
  refine⟨.ref s.heap.objs.size,_,I1,rfl,⟨_,x,I.fresh,rfl,rfl,fun zs hz=>by rw[I.list_inj hz q1];exact g1⟩,?_,fun b hb=>?_⟩
  ·exact⟨⟨u,by exact_mod_cast yp⟩,a2.at fun o q=>(cb.2 _ (Ne.symm D)).trans q⟩
  ·have ud:=(hf b hb).1;rw[fO]
   ·exact ud
   ·rintro rfl;have:∃o,s.heap.get? s.heap.objs.size=some o:=by
     simp only[bE,cB,or_false]at hb;obtain⟨o1,e1,_⟩:=h1;rcases hb with h|h
     ·rw[h];exact⟨_,he⟩
     ·rw[h];exact⟨_,e1⟩
    obtain⟨o,q⟩:=this
    exact absurd (Heap.lt_size q) (cQ _)
 done:=by
  intro X hP hw hK hc i aa s σ H E I hf st hg;subst hP hw hK;obtain⟨⟨old,he⟩,h1⟩:=st;obtain⟨xs,q1,tz⟩:=hg;obtain⟨its,rv,p1,z1⟩:=I.list q1;have l1:=rv.length
  refine wpAny_pyNext_enum_end (I.ok.hd hc) he h1 p1.isList (by simp;lia) fun h' hk=>⟨rfl,aAf (t':=s.toks) I hf fun b ob hb q=>?_⟩
  simp only[bE,cB,or_false,not_or]at hb
  exact hk b ob hb.2 q
 self:=fun _ _ _ _ _ st h=>wpAny_pyIter_enum st.1.choose_spec h
section
variable {X:Cx}{a b e:Expr}{es:List Expr}{fa fb:FE}{fr:FN}{pos p p2:Pos}
variable{ba:Pos}
theorem aIY{ts:List Expr}{k:Nat}{ta:TA}(hg:Gl X "enumerate")(hm:X.mg "enumerate"=none)(ha:PA X [a] ta)(hs:starEach [a] X.env=[(false,eval a X.env)]:=by rfl):
 PI X (.Tuple ts k ba) (.Call (.Name "enumerate" p) [a] [] pos) (iEnum X.K ta):=by
 intro aa s σ H R I h
 refine Call_ (qY I hg hm boot_enumerate (dC (thn (ha pos aa s σ H _ I h) fun us s1 ⟨vs,H1,I1,r1,q1⟩=>?_) (by rw[hs];rfl) rfl))
 obtain⟨l,ev,⟨xs,qx⟩,q⟩:=q1;subst ev;obtain⟨u,rfl,ru⟩:=r1.one;cases ru;obtain⟨its,rv,p1,z1⟩:=I1.list qx
 refine call_enumerate_list p1.isList fun h' he hit hsz hk=>wpAny_pyIter_enum he ?_
 have I2:Inv X aa σ H1 {s1 with heap:=h'}:=I1.kept (t':=s1.toks) hk
 refine⟨s1.heap.objs.size+1,[s1.heap.objs.size+1,s1.heap.objs.size],_,_,H1,rfl,I2,aEZ _ _ l (Nat.succ_ne_self _),⟨⟨_,he⟩,hit⟩,fun b hb=>?_,q⟩
 have hle:s1.heap.objs.size<=b:=by
  simp only[bE,cB,or_false]at hb;rcases hb with rfl|rfl
  ·exact aOg _ _
  ·exact bD _
 exact I1.fpOk hle (I1.hok.fresh hle)
theorem aES{ts:List Expr}{k:Nat}{db:List Stmt}{g:FG}{F:FS}(hm:X.mg "enumerate"=none)(hc:X.calm=true)(hi:QE X a fa)(hg:QG X (.Tuple ts k ba) g)(hb:QSs X db F)(ir:Gl X "enumerate":=by rfl)
 (bg:starEach [a] X.env=[(false,eval a X.env)]:=by rfl)(hp:PassesOwn (model X.prog X.w) X.A X.env X.xe:=by first|exact PassesOwn.never|exact PassesOwn.leaving|exact PassesOwn.looking)
 (hs:∀x,foldedSetIterable (.Call (.Name "enumerate" p) [a] [] p2) X.env x=pure x:=by intro _;rfl):QS X (.For (.Tuple ts k ba) (.Call (.Name "enumerate" p) [a] [] p2) db [] pos) (wR fa g F):=
 (aBF hp hc (aIY ir hm (eZ hi fD (by rw[bg];rfl)) bg) hg hb hs).imp fun _ _ _=>aM6
section
variable {own frs:List Str}{is:List Nat}{scope:Scope}{cl:List (Str×Addr)}{ts:List Expr}{tk:Nat}{ba:Pos}{bf:Expr}{ifs:List Expr}{fe:FE}{g:FG}{gt:FB}
end
end
section
variable {X:Cx}{o e:Expr}{al ak:Pos}{td te:TE}{fo fe:FE}
theorem aI5(ho:PE X o td)(he:PE X e te)(m:M1 X o "update" al e ak):PE X (.Call (.Attribute o "update" al) [e] [] ak) (tDUpd td te):=by
 intro aa s σ H Q I h
 refine wpAny_Call_method m.base m.few m.line PySem.F.plainAttrs_dict PySem.F.slot_dict_update PySem.F.type_dict_update (thn (ho aa s σ H _ I h) fun u s1 zz=>?_)
 obtain⟨x,H1,I1,rx,a,ex,d,q1⟩:=zz;subst ex;obtain rfl:u=Value.ref a:=rx;obtain⟨t1,t2,_⟩:=aGH I1 d
 refine⟨t1,t2,?_⟩
 rw[m.trees]
 refine Calls.callWith_builtin rfl (Calls.evalArgs_plain (Calls.spliced_cons (thn (he aa s1 σ H1 _ I1 q1) fun iv s2 ⟨y,H2,I2,ry,b,kvs,more,ey,mm,ha,hb,hl,q2⟩=>Calls.spliced_nil ?_)))
 subst ey;obtain rfl:iv=Value.ref b:=ry;obtain⟨z,hd,vs,rel,dd⟩:=aEn I2.hok ha;obtain⟨z',jg,vs',qo,jk⟩:=aEn I2.hok hb
 refine call_meetsIn PySem.F.slot_dict_update dd.typeIs PySem.F.entry_dict_update (PySem.F.args_dict_update_2 _ _) (meets_dict_update (i6 X.prog X.w) a b mm jg)
  ⟨vs,vs',dd,jk,by rw[<-rel.length,<-qo.length];exact hl,fun h' d1 d2 hs=>⟨.non,_,?_,rfl,q2⟩⟩
 have hq:∃q,h'.get? a=some q:=let ⟨q,_,_,hq,_⟩:=d1;⟨q,hq⟩
 exact v9 (t':=s2.toks) I2 (by rw[ha];exact True.intro) hs hq (aDR (cA (oP _ _) hl) hd (qo.merge rel) d1)
theorem aMg(ho:QE X o fo)(he:QE X e fe)(m:M1 X o "update" al e ak:=by exact⟨rfl,rfl,rfl,rfl⟩):QE X (.Call (.Attribute o "update" al) [e] [] ak) (wO fo fe):=(aI5 ho he m).imp fun _ _ _=>aMh lY
end
theorem aGm{α:Type}:∀(l:List α),(bK (l.length/2)).filterMap (fun k=>l[1+2*k]?)=od l
 | []=>by simp[od]
 | [_]=>by simp[od]
 |a::b::r=>by
  have ih:=aGm r;have e:(a::b::r).length/2=r.length/2+1:=by simp only[aN];lia
  rw[e,aOq,aOk];simp only[Nat.mul_zero,aPT,cU,cM];unfold od;rw[aPo,<-ih];congr 1
theorem aHC{α:Type}:∀(l:List α),(od l).length<=l.length
 | []=>bD _
 | [_]=>cV _
 |a::b::r=>by
  have:=aHC r;unfold od;simp only[aN];lia
theorem aGk(items:Array Value):slicePick items (some 1) none (some 2)=(od items.toList).toArray:=by
 unfold slicePick;have hb:sliceBounds (some 1) none (some 2) items.size=(max 0 (min 1 (items.size:Int)),(items.size:Int),2):=rfl;rw[hb];show((sliceRange (max 0 (min 1 (items.size:Int))) (items.size:Int) 2).filterMap (items[·]?)).toArray=_;congr 1;have hr:sliceRange (max 0 (min 1 (items.size:Int))) (items.size:Int) 2=(bK (items.size/2)).map fun k=>1+2*k:=by
  unfold sliceRange;by_cases h:items.size<2
  ·have h0:items.size/2=0:=by lia
   have h1:¬(max 0 (min 1 (items.size:Int))<(items.size:Int)):=by lia
   simp only[show(2:Int)>0 by decide,if_true,h1,if_false,h0];rfl
  ·have h1:max 0 (min 1 (items.size:Int))=1:=by lia
   rw[h1];have h2:(1:Int)<(items.size:Int):=by lia
   have h3:(((items.size:Int) - 1+2 - 1)/2).toNat=items.size/2:=by lia
   simp only[show(2:Int)>0 by decide,if_true,h2,h3];apply cR;intro k _
   lia
 rw[hr,aPo];have:=aGm items.toList;rw[cF]at this;rw[<-this];congr 1;funext k;simp[d3]
section
variable {X:Cx}{a e:Expr}{te:TE}{fa:FE}{pos p2 p3 p4:Pos}
def aLj(K:aO)(x:V)(H:Hp)(Q:VK):Prop:=∃a xs,x=.ref a/\SqL K H a xs/\∀p,H p=none->Q (.ref p) (upd H p (.lst (od xs)))
theorem Vals.od:∀{xs:List V}{us:List Value},Vals xs us->Vals (TL.od xs) (TL.od us)
 | [],_,h=>by cases h;exact .nil
 | [x],_,h=>by cases h with|cons _ t=>cases t;exact .nil
 |x::y::r,_,h=>by
  cases h with
  |cons h1 t=>
   cases t with
   |cons h2 t=>unfold TL.od;exact .cons h2 (Vals.od t)
theorem aLq{j k}(he:PE X e te):PE X (.Subscript e (.Slice (some (.Constant (.int 1) j p3)) none (some (.Constant (.int 2) k p4)) p2) pos) (fun σ H Q=>te σ H fun x H1=>aLj X.K x H1 Q):=by
 intro aa s σ H Q I h
 refine Subscript_ (thn (he aa s σ H _ I h) fun v s1 zz=>?_)
 obtain⟨x,H1,I1,r1,q1⟩:=zz;have h1:PE X (.Constant (.int 1) j p3) (tC (.int 1)):=aDK;have h2:PE X (.Constant (.int 2) k p4) (tC (.int 2)):=aDK
 refine wpAny_Slice ?_
 refine thn ((aBz h1) aa s1 σ H1 (fun o H2=>o=some 1/\aLj X.K x H2 Q) I1 ⟨1,rfl,rfl,q1⟩) fun vl s2 zz=>?_
 obtain⟨o,H2,I2,pk,eo,q2⟩:=zz;subst eo;rw[evalPart_none]
 refine wpAny_pure ?_
 refine thn ((aBz h2) aa s2 σ H2 (fun o H3=>o=some 2/\aLj X.K x H3 Q) I2 ⟨2,rfl,rfl,q2⟩) fun vk s3 zz=>?_
 obtain⟨o,H3,I3,pk2,eo,q3⟩:=zz;subst eo;obtain⟨l,xs,rfl,hx,q⟩:=q3;cases r1;have I4:Inv X aa σ H3 {s3 with heap:=s3.heap.push {cls:=.type "slice",data:=.fields #[vl,.none,vk]}}:=I3.kept (t':=s3.toks) fun b ob q=>Heap.get?_push_of_some _ q
 obtain⟨its,r,ht,hz⟩:=I4.list hx;have ai:=r.length;have hg:wpAny (model X.prog X.w) X.A (getItem (.ref l) (.ref s3.heap.objs.size)) (EP X aa σ Q) X.xe {s3 with heap:=s3.heap.push {cls:=.type "slice",data:=.fields #[vl,.none,vk]}}:=by
  refine wpAny_getItem_list_slice ht.isList (Heap.IsSliceOf.new ..) pk .none pk2 (by decide) ?_ (by rw[bG]<;>lia)
  rw[aGk]
  refine⟨.ref _,_,I4.laid (t':=s3.toks) (o:=.lst (od xs)) (fun b ob q=>Heap.get?_push_of_some _ q) (bD _) ?_,rfl,q _ (I4.hok.fresh (bD _))⟩
  exact⟨cA (aHC _) hz,_,0,Vals.od r,Heap.get?_push_size _ rfl⟩
 show wpAny (model X.prog X.w) X.A (subscriptTail e _ (.ref l) (.ref s3.heap.objs.size)) (EP X aa σ Q) X.xe _
 exact tail_any (ops:=[.ref l,.ref s3.heap.objs.size]) ht.isList.typeIs slot_list_getitem.lookup hg (by with_unfolding_all rfl)
theorem aND{j k}(ha:QE X a fa):QN X (.Subscript a (.Slice (some (.Constant (.int 1) j p3)) none (some (.Constant (.int 2) k p4)) p2) pos) (aEX fa):=(aLq ha).imp fun _ _ _=>aNh
end
section
variable {X:Cx}{aa:List (Addr×Obj)}{σ:L2.St}{H:Hp}{s:Shared}{a:Addr}{ob:Obj}
theorem aGb{kvs:List (List Key×V)}(I:L2.Inv X aa σ H s)(h:H a=some (.dT kvs))(ho:s.heap.get? a=some ob):L2.Inv X aa σ (upd H a (.frz ob (.dT kvs))) s:=by
 have ne:∀b,H b=none->b≠a:=fun b n z=>by rw[z,h]at n;cases n
 refine⟨I.ok,I.os,I.bare,⟨I.base.keep,I.base.slot,fun b o q n hx=>by have e:=I.base.free b o q n hx;rw[fO (ne b e)];exact e,I.base.there,fun b xs q=>?_,fun b o u q=>?_,fun b ps q=>?_⟩,I.loc,I.cell,by rw[fO (ne _ I.free)];exact I.free,fun x c q=>by rw[fO (ne _ (I.freeC x c q))];exact I.freeC x c q,fun p hp=>?_,fun b o q=>?_,I.len⟩
 ·have e:=I.base.tups b xs q;rw[fO (oF e h (fun z=>nomatch z))];exact e
 ·have e:=I.base.frzs b o u q;rw[fO (oF e h (fun z=>nomatch z))];exact e
 ·obtain⟨m,e⟩:=I.base.tbls b ps q
  exact⟨m,by rw[fO (oF e h (fun z=>nomatch z))];exact e⟩
 ·obtain⟨p1,p2,p3⟩:=I.pin p hp
  exact⟨p1,by rw[fO (ne _ p2)];exact p2,p3⟩
 ·by_cases hb:b=a
  ·subst hb;rw[i9]at q;cases q
   exact⟨ho,(I.hok b _ h).stay (fun c v _ q=>q) (fun c q=>by rw[fO (oF q h (fun z=>nomatch z))];exact q) fun c xs q=>by rw[fO (oF q h (fun z=>nomatch z))];exact q⟩
  ·rw[fO hb]at q
   exact(I.hok b o q).stay (fun c v _ q=>q) (fun c q=>by rw[fO (oF q h (fun z=>nomatch z))];exact q) fun c xs q=>by rw[fO (oF q h (fun z=>nomatch z))];exact q
theorem aGP{u:HO}(I:L2.Inv X aa σ H s)(h:H a=some (.frz ob u))(h0:∀o v,X.H₀ a≠some (.frz o v)):L2.Inv X aa σ (upd H a u) s:=by
 have ne:∀b,H b=none->b≠a:=fun b n z=>by rw[z,h]at n;cases n
 refine⟨I.ok,I.os,I.bare,⟨I.base.keep,I.base.slot,fun b o q n hx=>by have e:=I.base.free b o q n hx;rw[fO (ne b e)];exact e,I.base.there,fun b xs q=>?_,fun b o u q=>?_,fun b ps q=>?_⟩,I.loc,I.cell,by rw[fO (ne _ I.free)];exact I.free,fun x c q=>by rw[fO (ne _ (I.freeC x c q))];exact I.freeC x c q,fun p hp=>?_,fun b o q=>?_,I.len⟩
 ·have e:=I.base.tups b xs q;rw[fO (oF e h (fun z=>nomatch z))];exact e
 ·have e:=I.base.frzs b o u q;rw[fO (by rintro rfl;exact h0 _ _ q)];exact e
 ·obtain⟨m,e⟩:=I.base.tbls b ps q
  exact⟨m,by rw[fO (oF e h (fun z=>nomatch z))];exact e⟩
 ·obtain⟨p1,p2,p3⟩:=I.pin p hp
  exact⟨p1,by rw[fO (ne _ p2)];exact p2,p3⟩
 ·by_cases hb:b=a
  ·subst hb;rw[i9]at q;cases q
   exact((I.hok b _ h).2).stay (fun c v _ q=>q) (fun c q=>by rw[fO (oF q h (fun z=>nomatch z))];exact q) fun c xs q=>by rw[fO (oF q h (fun z=>nomatch z))];exact q
  ·rw[fO hb]at q
   exact(I.hok b o q).stay (fun c v _ q=>q) (fun c q=>by rw[fO (oF q h (fun z=>nomatch z))];exact q) fun c xs q=>by rw[fO (oF q h (fun z=>nomatch z))];exact q
end
section
variable {P:Program}{w:World}{A:Around}{E:Value->Shared->Prop}{s:Shared}{d it:Addr}{o:Obj}{es:Array DictEntry}{ep i:Nat}
variable{Q:Option Value->Shared->Prop}
theorem aHD{Q:Value->Shared->Prop}(hd:(d==sysModules)=false)(ho:s.heap.get? d=some o)(hx:o.ExactDict)(bw:o.data=.dict es ep)
 (hQ:Q (.ref s.heap.objs.size) {s with heap:=s.heap.push {cls:=.type "dict_keyiterator",data:=.fields #[.ref d,.int 0 0,.int es.size 0,.int ep 0]}}):wpAny (model P w) A (pyIter (.ref d)) Q E s:=by
 have hT:s.TypeIs (.ref d) "dict":=⟨o,ho,hx.1⟩
 refine wpAny_pyIter_slot hT F.slot_dict_iter (wpAny_call_entry F.slot_dict_iter hT F.entry_dict_iter ?_ (F.args_dict_iter_1 _));unfold Builtin.«dict.__iter__»;refine wpAny_bind ?_
 unfold Builtin.Dict.dictSlotNone;refine wpAny_bind (wpAny_notOrdered_dict hT ?_);show wpAny _ _ (pure (Value.ref d)) _ _ s;refine wpAny_pure ?_;show wpAny _ _ (Builtin.Dict.showsAll d>>=_) _ _ s;unfold Builtin.Dict.showsAll;rw[if_neg (by rw[hd];exact bW)];refine wpAny_bind (wpAny_pure ?_)
 refine wpAny_bind (wpAny_dictEntries ho bw (wpAny_bind (wpAny_dictEpoch ho bw ?_)))
 refine wpAny_bind (wpAny_newObj_type (wpAny_pure ⟨_,rfl,"dict_keyiterator",_,⟨_,Heap.get?_push_size _ rfl,rfl⟩,F.slot_dict_keyiterator_next.lookup,?_⟩));simpa[rawInt]using hQ
theorem aGi{e:DictEntry}(hit:s.heap.IsKeyIter it d i es.size ep)(ho:s.heap.get? d=some o)(bw:o.data=.dict es ep)(he:es[i]?=some e)
 (hQ:∀h',h'.IsKeyIter it d (i+1) es.size ep->Heap.SameBut it s.heap h'->Q (some e.key) {s with heap:=h'}):wpAny (model P w) A (pyNext (.ref it)) Q E s:=by
 obtain⟨oi,hi,hc,hd⟩:=id hit;unfold pyNext;refine wpAny_bind (wpAny_attempt (wpAny_callSpecial?_slot (name:=Str.ofString "__next__") hit.typeIs F.slot_dict_keyiterator_next (wpAny_call_entry F.slot_dict_keyiterator_next hit.typeIs F.entry_dict_keyiterator_next ?_ (F.args_dict_keyiterator_next_1 _))))
 refine wpAny_bind (wpAny_pure (wpAny_bind (wpAny_bind ?_)))
 first|refine wpAny_bind (wpAny_typeNameOfWhole_keyiter hit.typeIs (wpAny_pure (wpAny_bind (wpAny_fieldsOf hi hd ?_))))|refine wpAny_bind (wpAny_typeNameOf_keyiter hit.typeIs (wpAny_pure (wpAny_bind (wpAny_fieldsOf hi hd ?_))))
 simp only[show Builtin.Dict_items.ownsTuple "dict_keyiterator"=false by decide,b8,if_false];show wpAny _ _ (if(Value.ref d==Value.none)=true then _ else _) _ _ s;rw[if_neg (show¬((Value.ref d==Value.none)=true)from bW)]
 refine wpAny_bind (wpAny_pure (wpAny_bind (wpAny_dictEntries ho bw ?_)));rw[if_neg (by simp)];refine wpAny_bind (wpAny_pure (wpAny_bind (wpAny_dictEpoch ho bw ?_)));rw[if_neg (by simp)];refine wpAny_pure ?_
 simp only[show¬((i:Int)<0)from by lia,if_false,cN,he];refine wpAny_bind ?_;first|refine wpAny_bind (wpAny_typeNameOfWhole_keyiter hit.typeIs (wpAny_pure (wpAny_bind (wpAny_isOneOf_keyiter hit.typeIs ?_))))|refine wpAny_bind (wpAny_typeNameOf_keyiter hit.typeIs (wpAny_pure (wpAny_bind (wpAny_isOneOf_keyiter hit.typeIs ?_))))
 show wpAny _ _ (setField (.ref it) 1 (rawInt ((i:Int)+1))>>=_) _ _ s;refine wpAny_bind (wpAny_setField hi hd (by simp) ?_);have tq:(s.heap.update it (Obj.mapFields (·.setIfInBounds 1 (rawInt ((i:Int)+1))))).IsKeyIter it d (i+1) es.size ep:=⟨_,Heap.get?_update_self _ hi (Obj.isFreed_of_fields (Obj.data_mapFields hd _)),(Obj.cls_mapFields ..).trans hc,by rw[Obj.data_mapFields hd];simp[rawInt]⟩
 refine wpAny_bind (wpAny_holding (wpAny_bind (wpAny_isOneOf_keyiter (s:={s with heap:=s.heap.update it (Obj.mapFields (·.setIfInBounds 1 (rawInt ((i:Int)+1))))}) tq.typeIs ?_)))
 show wpAny _ _ (pure e.key) _ _ _;exact wpAny_pure (wpAny_pure ⟨_,rfl,wpAny_pure (hQ _ tq (Heap.SameBut.update ..))⟩)
theorem aHT(hh:A.handled=none)(hit:s.heap.IsKeyIter it d i es.size ep)(ho:s.heap.get? d=some o)(bw:o.data=.dict es ep)(he:es[i]?=none)
 (hQ:∀h',Heap.ExtBut it s.heap h'->Q none {s with heap:=h'}):wpAny (model P w) A (pyNext (.ref it)) Q E s:=by
 obtain⟨oi,hi,hc,hd⟩:=id hit;unfold pyNext;refine wpAny_bind (wpAny_attempt (wpAny_callSpecial?_slot (name:=Str.ofString "__next__") hit.typeIs F.slot_dict_keyiterator_next (wpAny_call_entry F.slot_dict_keyiterator_next hit.typeIs F.entry_dict_keyiterator_next ?_ (F.args_dict_keyiterator_next_1 _))))
 refine wpAny_bind (wpAny_pure (wpAny_bind (wpAny_bind ?_)))
 first|refine wpAny_bind (wpAny_typeNameOfWhole_keyiter hit.typeIs (wpAny_pure (wpAny_bind (wpAny_fieldsOf hi hd ?_))))|refine wpAny_bind (wpAny_typeNameOf_keyiter hit.typeIs (wpAny_pure (wpAny_bind (wpAny_fieldsOf hi hd ?_))))
 simp only[show Builtin.Dict_items.ownsTuple "dict_keyiterator"=false by decide,b8,if_false];show wpAny _ _ (if(Value.ref d==Value.none)=true then _ else _) _ _ s;rw[if_neg (show¬((Value.ref d==Value.none)=true)from bW)]
 refine wpAny_bind (wpAny_pure (wpAny_bind (wpAny_dictEntries ho bw ?_)));rw[if_neg (by simp)];refine wpAny_bind (wpAny_pure (wpAny_bind (wpAny_dictEpoch ho bw ?_)));rw[if_neg (by simp)];refine wpAny_pure ?_
 simp only[show¬((i:Int)<0)from by lia,if_false,cN,he];refine wpAny_bind ?_;first|refine wpAny_bind (wpAny_typeNameOfWhole_keyiter hit.typeIs (wpAny_pure ?_))|refine wpAny_bind (wpAny_typeNameOf_keyiter hit.typeIs (wpAny_pure ?_))
 show wpAny _ _ (setField (.ref it) 0 .none>>=_) _ _ s;refine wpAny_bind (wpAny_setField hi hd (by simp) ?_);show wpAny _ _ (newExc (.type "StopIteration") []>>=_) _ _ _;refine wpAny_bind ?_;simp only[newExc,newTuple]
 refine wpAny_bind (wpAny_newObj_type (wpAny_bind (m:=firstArgMember _ _) (wpAny_of_eq (a:=Value.none) (by first|rfl| (simp only[firstArgMember];rfl)) ?_)) (by size_fits))
 refine wpAny_newObj_type ?_ (by size_fits);simp only[raiseNew];refine wpAny_bind (wpAny_handled ?_)
 rw[show A.in1.handled=none from hh];refine wpAny_bind (wpAny_pure (wpAny_throw ?_));refine wpAny_bind (wpAny_isInstance (T:="StopIteration") (b:=true) ⟨_,Heap.get?_push_size _ rfl,rfl⟩ isSubtype_stop ?_)
 exact wpAny_pure (hQ _ (((Heap.SameBut.update ..).extBut.push _).push _))
end
theorem aAa{α β:Type}{F:α->β->Prop}:∀{gw:List α}{gu:List β},Paired F gw gu->∀(i:Nat)(h1:i<gw.length)(h2:i<gu.length),F gw[i] gu[i]
 |_,_,.cons h _,0,_,_=>h
 |_,_,.cons _ t,i+1,h1,h2=>aAa t i (by simpa using h1) (by simpa using h2)
theorem aF3{P:Program}{w:World}{K:aO}{tg:Expr}{a it:Addr}{ob:Obj}{es:Array DictEntry}{ep:Nat}{kvs:List (List Key×V)}(hx:ob.ExactDict)(bw:ob.data=.dict es ep)(hl:es.size=kvs.length):
 Turn P w K tg (Itd a ob kvs) [it] it (fun i h=>h.IsKeyIter it a i es.size ep) where
 mem:=by simp
 obj:=fun i h st b hb=>by
  have e:b=it:=by simpa using hb
  subst e;obtain⟨o,e,c,d⟩:=st
  exact⟨o,e,fun v z=>by rw[d]at z;cases z⟩
 keep:=fun i h h' st k=>st.at fun o e=>k it (by simp) o e
 item:=by
  intro X hP hw hK hc i aa s σ H E I hf st hg;subst hP hw hK;obtain⟨hH,hi⟩:=hg;obtain⟨ho,_,_,xs,rel,o2,es2,ep2,e1,e2,e3,e4,e5⟩:=(show jQ X.prog X.w H s.heap a (.frz ob (.dT kvs))from I.hok a _ hH);rw[ho]at e1;cases e1;rw[bw]at e3;cases e3;obtain⟨f0,f1,f2,f3,f4,f5⟩:=hf it (by simp);have hlx:xs.length=kvs.length:=(Paired.length rel).symm;have hix:i<xs.length:=by rw[hlx];exact hi
  have mh:es[i]?=some (entryOfKey (tupleKind (i6 X.prog X.w)) xs[i]):=by
   rw[<-Array.getElem?_toList,e4,bH,bA hix];rfl
  refine aGi st ho bw mh fun h' aw sb=>?_
  have I1:L2.Inv X aa σ H {s with heap:=h'}:=I.turned (t':=s.toks) (fun b o hb e=>(sb.2 b hb).trans e) f0 f1 f3 f4 f5;obtain⟨o,e,c,d⟩:=id aw;obtain⟨r1,r2,r3⟩:=aAa rel i hi hix
  refine⟨_,rfl,aIp (s:={s with heap:=h'}) e c d (by decide) ⟨.ref xs[i].2.1,H,I1,rfl,⟨rfl,xs[i].2.1,kvs[i].1,kvs[i].2,rfl,bA hi,r2⟩,aw,fun b hb=>(hf b hb).1⟩⟩
 done:=by
  intro X hP hw hK hc i aa s σ H E I hf st hg;subst hP hw hK;obtain⟨hH,hi⟩:=hg;have ho:=(show jQ X.prog X.w H s.heap a (.frz ob (.dT kvs))from I.hok a _ hH).1;obtain⟨f0,f1,f2,f3,f4,f5⟩:=hf it (by simp)
  exact aHT (I.ok.hd hc) st ho bw (by simp;lia) fun h' eb=>⟨rfl,I.turned (t':=s.toks) (fun b o hb e=>eb b o hb e) f0 f1 f3 f4 f5⟩
 self:=fun _ _ _ _ _ st h=>wpAny_pyIter_keyiter st h
section
variable {X:Cx}{iter:Expr}{fa:FE}{p pos p2:Pos}
abbrev Bare(X:Cx)(a:Addr):Prop:=∀o v,X.H₀ a≠some (.frz o v)
theorem aJi{tg l:Expr}{tl:TE}(hl:PE X l tl):PI X tg l (iDict (Bare X) tl):=by
 intro aa s σ H R I h
 refine thn (hl aa s σ H _ I h) fun v s1 zz=>?_
 obtain⟨x,H1,I1,r1,q1⟩:=zz;obtain⟨a,kvs,e,ha,q⟩:=q1;subst e;cases r1;obtain⟨_,hd,xs,rel,o,es,ep,e1,e2,e3,e4,e5⟩:=(show jQ X.prog X.w H1 s1.heap a (.dT kvs)from I1.hok a _ ha);have hB:Bare X a:=fun o v z=>by
  have:=I1.base.frzs a o v z;rw[ha]at this;cases this
 have hsz:es.size=kvs.length:=by rw[<-cF,e4,aS];exact(Paired.length rel).symm
 have I2:L2.Inv X aa σ H1 {s1 with heap:=s1.heap.push {cls:=.type "dict_keyiterator",data:=.fields #[.ref a,.int 0 0,.int es.size 0,.int ep 0]}}:=I1.kept (t':=s1.toks) fun b o e=>Heap.get?_push_of_some _ e
 refine aHD hd e1 e2 e3 ⟨s1.heap.objs.size,[s1.heap.objs.size],_,_,_,rfl,aGb I2 ha (Heap.get?_push_of_some _ e1),aF3 (a:=a) (kvs:=kvs) e2 e3 hsz,⟨_,Heap.get?_push_size _ rfl,rfl,rfl⟩,fun b hb=>?_,q hB o⟩
 have e:b=s1.heap.objs.size:=by simpa using hb
 subst e
 refine I1.fpOk (bD _) ?_
 rw[fO (Ne.symm (bU (Heap.lt_size e1)))]
 exact I1.hok.fresh (bD _)
section
variable {own frs:List Str}{is:List Nat}{scope:Scope}{cl:List (Str×Addr)}{tg bf:Expr}{ifs:List Expr}{fe:FE}{g:FG}{gt:FB}
theorem aJl(hc:X.calm=true)(k:nV X own frs is scope cl)(h1:QE X iter fa)(ho:Own own.length g)(hg:∀C s3 H3 fp,QG (gZ X (own++frs) scope cl C s3 H3 fp) tg g)(ht:∀C s3 H3 fp,QTs (gZ X (own++frs) scope cl C s3 H3 fp) ifs gt)
 (he:∀C s3 H3 fp,QE (gZ X (own++frs) scope cl C s3 H3 fp) bf fe)(hs:∀x,foldedSetIterable iter X.env x=pure x:=by intro _;rfl):
 QN X (.ListComp bf [⟨tg,iter,ifs,0⟩] scope pos) (uU fa own.length is g gt fe):=by
 intro aa s σ H Q I h
 refine thn (aBA hc k (aJi h1) hg ht he hs aa s σ H _ I (aJH (B:=Bare X) ho h)) fun u s' zz=>?_
 obtain⟨v,H',I',r,a,ob,w,hB,hf,q⟩:=zz
 exact⟨v,_,aGP I' hf hB,r,q⟩
end
end
theorem aAs:∀{ns:List Int},ns≠[]->qN ns∈ns/\∀a∈ns,qN ns<=a:=by
 have key:∀(ns:List Int)(n:Int),(ns.foldl (fun a b=>if b<a then b else a) n=n\/ns.foldl (fun a b=>if b<a then b else a) n∈ns)/\ns.foldl (fun a b=>if b<a then b else a) n<=n/\∀a∈ns,ns.foldl (fun a b=>if b<a then b else a) n<=a:=by
  intro ns;induction ns with
  |nil=>intro n;exact⟨.inl rfl,bP _,fun a h=>nomatch h⟩
  |cons m ns ih=>
   intro n;rw[aOz];obtain⟨h1,h2,h3⟩:=ih (if m<n then m else n);by_cases hm:m<n
   ·rw[if_pos hm]at h1 h2 h3|-
    refine⟨?_,by lia,fun a ha=>?_⟩
    ·rcases h1 with h1|h1
     ·rw[h1];simp
     ·exact .inr (aU _ h1)
    ·rcases bE.mp ha with rfl|ha
     ·exact h2
     ·exact h3 a ha
   ·rw[if_neg hm]at h1 h2 h3|-
    refine⟨?_,h2,fun a ha=>?_⟩
    ·rcases h1 with h1|h1
     ·exact .inl h1
     ·exact .inr (aU _ h1)
    ·rcases bE.mp ha with rfl|ha
     ·lia
     ·exact h3 a ha
 intro ns ay;cases ns with
 |nil=>exact absurd rfl ay
 |cons n ns=>
  obtain⟨h1,h2,h3⟩:=key ns n
  refine⟨?_,fun a ha=>?_⟩
  ·rcases h1 with h1|h1
   ·show aPn (fun a b=>if b<a then b else a) n ns∈n::ns;rw[h1];simp
   ·exact aU _ h1
  ·rcases bE.mp ha with rfl|ha
   ·exact h2
   ·exact h3 a ha
section
variable {X:Cx}{e:Expr}{es:List Expr}{fr:FN}{p pos:Pos}
theorem aFG(hc:X.calm=true):oV X (.builtin "min") (aEN X.K (fun ns=> !ns.isEmpty) qN):=by
 intro aa s σ H xs us Q I r h;obtain⟨p,ns,rfl,hq,ay,q⟩:=h;obtain⟨u,rfl,ru⟩:=vals1 r;cases ru;obtain⟨its,rv,pl,hz⟩:=I.list hq;have hi:=sA rv;have sj:ns≠[]:=by rintro rfl;simp at ay
 obtain⟨ys,hx⟩:=hi.allInts.items;have gk:s.heap.IsList p (intItems ys):=hx ▸ pl.isList;have iq:ns=ys.toList.map (·.1):=by
  rw[<-nums_intItems,<-hx]
  exact(show numsOf its.toArray.toList=ns from hi.numsOf).symm
 have hsz:0<ys.size:=by
  have h3:0<ns.length:=aOl.mpr sj;rw[iq,aS,cF]at h3;exact h3
 refine min_intList (I.ok.hd hc) gk hsz fun v h' tk hv hk=>?_
 obtain⟨t,rfl⟩:=intItems_at hv;obtain⟨h1,h2⟩:=argBest_lt (numAt ys) (ys.size - 1);obtain⟨m1,m2⟩:=aAs sj;obtain⟨M,hM⟩:∃M,M=qN ns:=⟨_,rfl⟩;rw[<-hM]at m1 m2 q;have e:numAt ys (argBest (fun i j=>decide (numAt ys i<numAt ys j)) (ys.size - 1))=M:=by
  apply aOB
  ·have m1':=m1;rw[iq]at m1';obtain⟨j,hj,ej⟩:=mem_getD m1';rw[aS,cF]at hj;rw[<-ej,<-numAt_eq];exact h2 j (by lia)
  ·refine m2 _ ?_
   rw[iq,numAt_eq];exact getD_mem (by rw[aS,cF];lia)
 exact⟨.int M,H,I.kept hk,⟨_,by rw[e]⟩,q⟩
theorem aAZ(hm:X.mg "min"=none)(hc:X.calm=true)(ha:QA X (e::es) fr)(hg:Gl X "min":=by rfl)(he:starEach (e::es) X.env=(false,eval e X.env)::starEach es X.env:=by rfl)(av:(backTo pos (starEach es X.env)).any (·.1)=false:=by rfl):
 QE X (.Call (.Name "min" p) (e::es) [] pos) (aAk fr):=aFa (aFG hc) (fun _ _ _ _=>aIF) boot_min hm hg ha (by decide) (by decide) he av
end
theorem mS{X:Cx}{pos:Pos}{x:Str}{i:Int}(hm:∃t,X.mg x=some (.int i t))(hg:Gl X x:=by rfl)(hd:(x==("__debug__":Str))=false:=by decide):QE X (.Name x pos) (fC (.int i)):=by
 obtain⟨t,hm⟩:=hm
 exact(aJh hg hm (v:=.int i) ⟨t,rfl⟩ hd).imp fun _ _ _=>i_C fun _ _=>.int
structure aId(K:aO)(x qual:Str)(st:Stmt)(f:Addr)(fd:FuncData)(dV:Value):Prop where
 ex:∃(oc:Value)(od:Option Addr)(kV doc pm:Value)(an:Option Addr)(az ct:Value)(fg:Array (Option Value)),
  fd=cJ x qual (jU st) (jD st) (gJ st) dV kV doc pm an az ct/\K.lookup f=some ⟨oc,od,.func fd,fg⟩/\dM K az qual=true
section
variable {P:Program}{w:World}{K:aO}{mg:Str->Option Value}{base:Heap}
variable{qual:Str}{st:Stmt}{fd:FuncData}{dV oc:Value}{ps:List Str}{od:Option Addr}{fg:Array (Option Value)}
theorem aId.ok{x:Str}{f:Addr}{N:List Str}{k:Nat}{sp:Sp}(F:aId K x qual st f fd dV)(S:rC N ps (gJ st))(len:∀vs H Q E,sp vs H Q E->vs.length=ps.length)
 (du:∀(az:Value)(A:Around)(outer:List Env)(s:Shared)(H:Hp)(vs:List V)(Q:VK)(E:XK),Room k (A.deeper (envOfC qual (gJ st) s.heap.objs.size f az))->sp vs H Q E->
  ∃t,PSs (aBs CX0 P w K mg base N qual (gJ st) f az A outer s H E).nox (jD st) t/\t {nx:=fun _ H'=>Q .non H',rt:=Q} (start N vs) H):nY P w K mg base CX0 (k+1) f fd ps sp:=by
 obtain⟨oc,od,kV,doc,pm,an,az,ct,fg,e,lk,iy⟩:=F.ex;subst e
 refine aKW lk iy S len fun A outer s H vs Q E hr di=>?_
 obtain⟨t,h,q⟩:=du az A outer s H vs Q E hr di
 exact⟨t,h.nox,q⟩
theorem aIM{x:Str}{f:Addr}{an:Option Addr}{kV doc pm az ct:Value}(l:K.lookup f=some ⟨oc,od,.func (cJ x qual (jU st) (jD st) (gJ st) dV kV doc pm an az ct),fg⟩)
 (c:dM K az qual=true):aId K x qual st f (cJ x qual (jU st) (jD st) (gJ st) dV kV doc pm an az ct) dV:=⟨⟨oc,od,kV,doc,pm,an,az,ct,fg,rfl,l,c⟩⟩
theorem xG(m:Nat){T:Addr}{its:Array Value}{n:Nat}{ds:List Value}(hd:fd.defaults=.ref T)(lk:K.lookup T=some ⟨oc,od,.seq its n,fg⟩)
 (hm:m+ds.length=ps.length)(h:∀us:List Value,us.length=m->∃k:Option (Array Value)->Sem (List (Str×Value)),bindArgs fd ⟨us,[]⟩=seqItems? fd.defaults>>=k/\k (some its)=pure (ps.zip (us++ds))):Binds K fd ps ds:=fun s us hk hl=>by
 obtain⟨k,h1,h2⟩:=h us (by rw[bB]at hl;lia)
 exact .of_defaults hd (hk T _ lk) rfl h1 h2
end
theorem iQ.of{K:aO}{cls:String}{f:Str}{C:Addr}(e:bV K mainGlobals (Str.ofString cls)=some (some (.ref C)))(c:Cls K C)(n:o8 K C f):iQ K cls f:=fun C' h=>by
 rw[e]at h;cases h;exact⟨c,n⟩
section
variable {P:Program}{w:World}{K:aO}{mg:Str->Option Value}{base h:Heap}{f:Addr}{fd:FuncData}{x ql:Str}{t:Stmt}{N ps:List Str}{k n:Nat}{sp:Sp}{B:FS}{cls:String}{C:Addr}
variable{oc kV dc pm cd ct:Value}{od an:Option Addr}{sl:Array (Option Value)}{Q:List Value->Prop}
abbrev hB(K:aO)(N:List Str)(sp:Sp)(B:FS):Prop:=∀{W:XW}{vs:List V}{H:Hp}{Q:VK}{E:XK},sp vs H Q E->trS K W B {nx:=fun _ H'=>Q .non H',rt:=Q} (vs.map some++aX (N.length - vs.length) none) H
abbrev hY(P:Program)(w:World)(K:aO)(mg:Str->Option Value)(base:Heap)(N:List Str)(ql:Str)(t:Stmt)(f:Addr)(k:Nat)(B:FS):Prop:=∀{az:Value}{A:Around}{outer:List Env}{s:Shared}{H:Hp}{E:XK},N.Nodup->Room k (A.deeper (envOfC ql (gJ t) s.heap.objs.size f az))->
 PSs (aBs CX0 P w K mg base N ql (gJ t) f az A outer s H E).nox (jD t) (trS K (wish (Cx.nox (aBs CX0 P w K mg base N ql (gJ t) f az A outer s H E))) B)
theorem okB(F:Fun K x ql t f fd)(len:∀vs H Q E,sp vs H Q E->vs.length=ps.length)(b:hB K N sp B)(y:hY P w K mg base N ql t f k B)(S:rC N ps (gJ t):=by exact⟨rfl,rfl,rfl,by decide+kernel,rfl,by decide+kernel,by decide+kernel⟩):nY P w K mg base CX0 (k+1) f fd ps sp:=
 F.ok S len fun az A outer s H vs Q E hr z=>⟨_,y S.nd hr,b z⟩
theorem okD{dV:Value}(F:aId K x ql t f fd dV)(len:∀vs H Q E,sp vs H Q E->vs.length=ps.length)(b:hB K N sp B)(y:hY P w K mg base N ql t f k B)(S:rC N ps (gJ t):=by exact⟨rfl,rfl,rfl,by decide+kernel,rfl,by decide+kernel,by decide+kernel⟩):nY P w K mg base CX0 (k+1) f fd ps sp:=
 F.ok S len fun az A outer s H vs Q E hr z=>⟨_,y S.nd hr,b z⟩
theorem rdn{A:Around}{j:Nat}(hr:Room k A)(h:j<=k:=by decide):Room j A:=hr.mono h
structure Nm(K:aO)(x:Str)(t:Stmt):Prop where
 ex:∃f fd,bV K mainGlobals x=some (some (.ref f))/\Fun K x x t f fd
theorem Nm.of(a:bV K mainGlobals x=some (some (.ref f)))(l:K.lookup f=some ⟨oc,od,.func (cJ x x (jU t) (jD t) (gJ t) .none kV dc pm an cd ct),sl⟩)
 (c:dM K cd x=true)(k:cH K (.ref f)=true):Nm K x t:=⟨_,_,a,aDA l c k⟩
structure Cm(K:aO)(cls:String)(C:Addr):Prop where
 e:bV K mainGlobals (Str.ofString cls)=some (some (.ref C))
 c:Cls K C
 mi:aO6 K C=true
 kp:cH K (.ref C)=true
structure Mm(K:aO)(C:Addr)(x ql:Str)(t:Stmt):Prop where
 ex:∃f fd,bZ K (.ref C) x=some (some (.ref f))/\aOp K (.ref f)=true/\Fun K x ql t f fd
theorem Mm.of(a:bZ K (.ref C) x=some (some (.ref f)))(l:K.lookup f=some ⟨oc,od,.func (cJ x ql (jU t) (jD t) (gJ t) .none kV dc pm an cd ct),sl⟩)
 (c:dM K cd ql=true)(k:cH K (.ref f)=true)(n:aOp K (.ref f)=true):Mm K C x ql t:=⟨_,_,a,n,aDA l c k⟩
theorem len1(h:∀a,Q [a]):∀us:List Value,us.length=1->Q us
 | [a],_=>h a
theorem zW{n:Nat}(h:∀a us,us.length=n->Q (a::us)):∀us:List Value,us.length=n+1->Q us
 |a::us,e=>h a us (Nat.succ.inj e)
abbrev Bd(x ql:Str)(t:Stmt)(ps:List Str):Prop:=∀(kV doc pm:Value)(an:Option Addr)(az ct:Value)(us:List Value),us.length=ps.length->bindArgs (cJ x ql (jU t) (jD t) (gJ t) .none kV doc pm an az ct) ⟨us,[]⟩=pure (ps.zip us)
abbrev Ky(P:Program)(w:World)(K:aO)(mg:Str->Option Value)(base:Heap)(x ql:Str)(t:Stmt)(ps:List Str)(k:Nat)(sp:Sp):Prop:=∀{f:Addr}{fd:FuncData},Fun K x ql t f fd->nY P w K mg base CX0 k f fd ps sp
section
variable (X:K.In h)(G:h.Ns mainGlobals mg)
include X G
variable{R:List T->Sto->Option (T×Sto)}
theorem Nm.df(a:Nm K x t)(o:Ky P w K mg base x x t ps k sp)(b:Bd x x t ps):∃f fd ps,nY P w K mg base CX0 k f fd ps sp/\mg x=some (.ref f)/\cH K (.ref f)=true/\Binds K fd ps []:=
 let ⟨f,fd,a,F⟩:=a.ex
 ⟨f,fd,ps,o F,eN X G a,F.kp,F.binds b⟩
theorem mkT{R:List T->Option T}(a:Nm K x t)(o:Ky P w K mg base x x t ps k (spT K n R))(b:Bd x x t ps:=by walk_at "bq"):jT P w K mg base k x n R:=⟨a.df X G o b⟩
theorem mkRc{R:List T->Option (T×Sto)}(a:Nm K x t)(o:Ky P w K mg base x x t ps k (aBT K n R))(b:Bd x x t ps:=by walk_at "bq"):aCu P w K mg base k x n R:=⟨a.df X G o b⟩
theorem mkWc{R:List T->Sto->Option Sto}(a:Nm K x t)(o:Ky P w K mg base x x t ps k (aDj K n R))(b:Bd x x t ps:=by walk_at "bq"):aID P w K mg base k x n R:=⟨a.df X G o b⟩
theorem mkS(a:Nm K x t)(o:Ky P w K mg base x x t ps k (spS K n R))(b:Bd x x t ps:=by walk_at "bq"):sU P w K mg base k x n R:=⟨a.df X G o b⟩
theorem mkI(c:Cm K cls C)(a:Mm K C "__init__" ql t)(o:Ky P w K mg base "__init__" ql t ps k (spS K n R))(b:Bd "__init__" ql t ps:=by walk_at "bq"):aDN P w K mg base k cls n R [] []:=
 let ⟨f,fd,a,i,F⟩:=a.ex
 ⟨⟨C,f,fd,ps,[],c.e,eN X G c.e,⟨c.mi,a,i,c.kp⟩,o F,F.binds b,.nil⟩,fun _ _=>.nil⟩
end
theorem mkMe{R:List T->Sto->Option (T×Sto)}(c:Cm K cls C)(a:Mm K C x ql t)(o:Ky P w K mg base x ql t ps k (spS K n R))(b:Bd x ql t ps:=by walk_at "bq"):m9 P w K mg base k cls x n R:=
 let ⟨f,fd,a,i,F⟩:=a.ex
 ⟨C,f,fd,ps,c.e,c.c,⟨a,i,F.kp⟩,o F,F.binds b⟩
end
section
variable {X:Cx}{e:Expr}{fe:FE}{pos:Pos}
theorem aFn{x:Str}{ao:Pos}(hN:X.N.Nodup)(i:Nat)(he:QE X e fe)(hi:X.N[i]?=some x:=by rfl)(hx:Loc X.env.scope x:=by first|exact aPL rfl|exact aPB rfl)(hf:X.fn x=true\/X.env.scope.names.lookup x=some .local:=by first|exact .inl rfl|exact .inr rfl):
 QS X (.AugAssign (.Name x ao) .Add e pos) (fY (jA (iY i) fe (gI fun i j=>.int (i+j))) (gN i)):=(aLo hN hi hx he aLu hf).imp fun _ _ _ h=>by
 obtain⟨v,e1,q⟩:=aKS (vO (fun _ _ _ _ _=>o_I (g:=fun i j=>.int (i+j)) fun _ _ _ _=>.int) (iP (aCH h) fun _ _ q=>wU q))
 exact⟨v,e1,q⟩
end
end TL
namespace Lib
open PySem L2 TL
def aAA:FS:=
 (fM (fIf (hZ (fLt Y1 (mD (e7 Y0 fG)))) (gF (fIx Y0 Y1)) iE)
  (gF (fI 0)))
def iZ:List T->Option T:=iX aAA 2
def zY:FS:=
 (gF (fLeLt (fI 0) Y1 Y0))
def lM:List T->Option T:=iX zY 2
def aEx:FS:=
 (gF (aAm (p6 "int" Y0) (z9 (p6 "bool" Y0))))
def jV:List T->Option T:=iX aEx 1
def o7:FS:=
 (fM (fIf (lO (i8 (j9 (f7 2 lM (e7 Y0 (e7 Y3 fG))))) (i8 (j9 (f7 2 lM (e7 Y0 (e7 Y4 fG)))))) aBE iE)
  (fIf (hZ (aFZ Y3 (fIx Y2 Y4))) (qJ (fIx Y2 Y4) (e7 Y3 fG)) iE))
def qF:FS:=
 (fM (fY (i0 (lW Y0 1 [] (gN 0) iB (i0 (gE fG)))) (gN 2))
  (fM (oR Y1 (gU [3,4])
   o7)
  (gF Y2)))
def gQ:List T->Option T:=iX qF 5
def pX:FS:=
 (fIf (pZ (hZ (aFZ Y2 Y1)) (j9 (aMI (e7 (fS (jE (fIx Y0 Y2) 1 [1] (gN 0) iB (fIn Y0 Y1))) fG)))) (gF Y2) iE)
def rP:FS:=
 (fM (lD (mD (e7 Y0 fG)) (gN 2)
  pX)
  aBE)
def mN:List T->Option T:=iX rP 3
def sY:FS:=
 (qJ Y3 (e7 (f7 2 mN (e7 Y2 (e7 Y3 fG))) fG))
def xP:FS:=
 (fM (fY (f7 2 gQ (e7 Y0 (e7 Y1 fG))) (gN 2))
  (fM (fY (i0 (gE fG)) (gN 3))
  (fM (lN (hZ (fLt (mD (e7 Y3 fG)) Y0)) sY 10)
  (gF Y3))))
def lE:List T->Option T:=iX xP 4
def qQ:FS:=
 (gF (fS (tX Y0 Y1 2 [] (gU [0,1]) iB (jY Y0 Y1))))
def kP:List T->Option T:=iX qQ 2
def sZ:FS:=
 (sJ (aGu (fS (jE (fIx Y3 Y5) 1 [4,0] (gN 0) iB (jY (fIx Y1 Y0) (fIx Y2 Y0)))) (fI 0)) Y4 Y5)
def y4:FS:=
 (fM (fY (f7 2 lE (e7 (mD (e7 Y0 fG)) (e7 Y1 fG))) (gN 2))
  (fM (fY (f7 2 gQ (e7 (mD (e7 Y0 fG)) (e7 Y1 fG))) (gN 3))
  (fM (fY (i0 (jE Y2 1 [] (gN 0) iB (fI 0))) (gN 4))
  (fM (oR Y2 (gN 5)
   sZ)
  (gF Y4)))))
def mJ:List T->Option T:=iX y4 6
def aBJ:FS:=
 (gF (aGu (f7 2 kP (e7 (f7 2 mJ (e7 Y0 (e7 Y1 fG))) (e7 Y0 fG))) (fI 0)))
def kI:List T->Option T:=iX aBJ 2
def sL:FS:=
 (fM (fIf (lO (i8 (j9 (f7 2 lM (e7 Y0 (e7 Y3 fG))))) (i8 (j9 (f7 2 lM (e7 Y0 (e7 Y4 fG)))))) (fRaise "NoOrder" (e7 (fC (.str "a need names a number that is no work")) fG)) iE)
  (fIf (hZ (aFZ Y3 (fIx Y2 Y4))) (qJ (fIx Y2 Y4) (e7 Y3 fG)) iE))
def pV:FS:=
 (fM (fY (i0 (lW Y0 1 [] (gN 0) iB (i0 (gE fG)))) (gN 2))
  (fM (oR Y1 (gU [3,4])
   sL)
  (gF Y2)))
def vQ:List T->Option T:=iX pV 5
def t7:List T->Option String:=aM8 pV 5
def uV:FS:=
 (fIf (pZ (hZ (aFZ Y2 Y1)) (j9 (aMI (e7 (fS (jE (fIx Y0 Y2) 1 [1] (gN 0) iB (fIn Y0 Y1))) fG)))) (gF Y2) iE)
def qU:FS:=
 (fM (lD (mD (e7 Y0 fG)) (gN 2)
  uV)
  (fRaise "NoOrder" (e7 (fC (.str "a work would have to be done ahead of itself")) fG)))
def wN:List T->Option T:=iX qU 3
def vJ:List T->Option String:=aM8 qU 3
def zJ:FS:=
 (fX (xApp Y3 (xCall 2 vJ (e7 Y2 (e7 Y3 fG)))) (qJ Y3 (e7 (f7 2 wN (e7 Y2 (e7 Y3 fG))) fG)))
def aC7:FS:=
 (fM (fX (xCall 2 t7 (e7 Y0 (e7 Y1 fG))) (fY (f7 2 vQ (e7 Y0 (e7 Y1 fG))) (gN 2)))
  (fM (fY (i0 (gE fG)) (gN 3))
  (fM (lN (hZ (fLt (mD (e7 Y3 fG)) Y0)) zJ 10)
  (gF Y3))))
def aBb:List T->Option String:=aM8 aC7 4
def aCa:FS:=
 (fM (fY (jK (jY (jY (lH Y0 (fI 48271)) (lH (lH Y1 Y1) (fI 69621))) (fI 3)) (fI 2147483647)) (gN 2))
  (fM (fY (jK (lH Y2 Y2) (fI 2147483629)) (gN 2))
  (gF (jK (lH Y2 Y2) (fI 2147483587)))))
def lV:List T->Option T:=iX aCa 3
def tQ:FS:=
 (fM (fY (jK Y2 (fI 40)) (gN 3))
  (sJ (f7 2 lV (e7 (jY (fIx Y1 Y3) (fIx Y0 Y2)) (e7 Y2 fG))) Y1 Y3))
def yK:FS:=
 (fM (fY (i0 (lW (fI 40) 1 [0] (gN 0) iB (f7 2 lV (e7 (f7 2 iZ (e7 Y1 (e7 (fI 0) fG))) (e7 (jY (fI 90) Y0) fG))))) (gN 1))
  (fM (pI (fI 2) (rN (e7 (fI 63) (e7 (mD (e7 Y0 fG)) fG))) (gN 2)
   tQ)
  (gF Y1)))
def n6:List T->Option T:=iX yK 4
def wZ:FS:=
 (aKi Y2 (e7 (jK (f7 2 lV (e7 Y0 (e7 Y3 fG))) (jY Y3 (fI 1))) (e7 Y3 fG)))
def aCX:FS:=
 (fM (fY (i0 (gE fG)) (gN 2))
  (fM (lD Y1 (gN 3)
   wZ)
  (gF Y2)))
def tW:List T->Option T:=iX aCX 4
def sK:FS:=
 (fM (fY (f7 2 iZ (e7 Y0 (e7 (jY (fI 3) Y5) fG))) (gN 6))
  (fM (fY (jK Y6 (fIx (fS (gE (e7 (fI 5) (e7 Y3 fG)))) (tS (e7 (fGt Y3 (fI 1)) fG)))) (gN 7))
  (fM (fY (aAe Y6 (fIx (fS (gE (e7 (fI 5) (e7 Y3 fG)))) (tS (e7 (fGt Y3 (fI 1)) fG)))) (gN 6))
  (fM (fY (jK Y6 (fIx (fS (gE (e7 (fI 6) (e7 Y3 fG)))) (tS (e7 (fGt Y3 (fI 1)) fG)))) (gN 8))
  (fM (fY (aAe Y6 (fIx (fS (gE (e7 (fI 6) (e7 Y3 fG)))) (tS (e7 (fGt Y3 (fI 1)) fG)))) (gN 6))
  (qJ Y4 (e7 (fS (gE (e7 (jY Y7 Y8) (e7 Y7 (e7 (jK Y6 (fIx (fS (gE (e7 (fI 5) (e7 Y3 fG)))) (tS (e7 (fGt Y3 (fI 1)) fG)))) fG))))) fG)))))))
def sT:FS:=
 (fM (aKi Y9 (e7 (jK Y6 (jY Y5 (fI 1))) (e7 Y5 fG)))
  (fY (aAe Y6 (jY Y5 (fI 1))) (gN 6)))
def tH:FS:=
 (fM (fIf (hZ (fEq (jK Y6 (fI 2)) (fI 1))) (qJ Y10 (e7 (fS (gE (e7 Y11 (e7 (fIx Y9 Y5) fG)))) fG)) iE)
  (fY (pR Y6 (fI 2)) (gN 6)))
def tP:FS:=
 (oR (fS (fSl Y9 mT (qW Y5))) (gN 11)
  tH)
def yJ:FS:=
 (fM (fY (fIx (fS (gE (e7 (fI 1) (e7 (lH Y2 (aJp (fI 10) (fI 9))) fG)))) (jK (pR (f7 2 iZ (e7 Y0 (e7 (fI 1) fG))) (fI 576)) (fI 2))) (gN 3))
  (fM (fY (i0 (gE fG)) (gN 4))
  (fM (lD Y1 (gN 5)
   sK)
  (fM (fY (f7 2 iZ (e7 Y0 (e7 (fI 2) fG))) (gN 6))
  (fM (fY (i0 (gE fG)) (gN 9))
  (fM (lD Y1 (gN 5)
   sT)
  (fM (fY (i0 (gE fG)) (gN 10))
  (fM (lD Y1 (gN 5)
   tP)
  (gF (zC (e7 Y4 (e7 Y10 fG))))))))))))
def pM:List T->Option T:=iX yJ 12
def aEM:FS:=
 (fM (fY (jK Y0 (fI 5)) (gN 5))
  (fM (fY (jK Y1 (fI 6)) (gN 6))
  (fM (fY (jK Y2 (fI 5)) (gN 7))
  (fM (fIf (hZ (fEq Y3 (fI 1))) (fM (fY (jY (lH Y0 Y4) (jK Y1 (fI 97))) (gN 5))
  (fM (fY (lH (lH Y1 Y4) (tS (e7 (fGt (jK Y1 (fI 4)) (fI 0)) fG))) (gN 6))
  (fY (jY (lH Y2 Y4) (jK Y0 (fI 89))) (gN 7)))) iE)
  (fM (fIf (hZ (fEq Y3 (fI 2))) (fM (fY (lH (jK Y1 (fI 3)) (jK (pR Y1 (fI 3)) (fI 50))) (gN 6))
  (fY (fIx (fS (gE (e7 (fI 0) (e7 (fI 3) (e7 (fI 3) (e7 (jY (fI 1) (jK Y2 (fI 40))) fG)))))) (jK (pR Y2 (fI 64)) (fI 4))) (gN 7))) iE)
  (fM (fIf (pZ (hZ (fEq Y3 (fI 3))) (hZ (fEq (jK Y0 (fI 3)) (fI 0)))) (fY (fI 0) (gN 5)) iE)
  (gF (fS (gE (e7 (jY Y5 Y6) (e7 Y5 (e7 Y7 fG))))))))))))
def sX:List T->Option T:=iX aEM 8
def aD8:FS:=
 (fIf (hZ (fGt Y6 (fI 1))) (fM (fY (jY (fI 1) (jK (fIx Y3 Y11) (mL Y6 (fI 1)))) (gN 12))
  (fM (fY (jK (pR (fIx Y3 Y11) (fI 16)) (rN (e7 Y12 (e7 (fIx (fS (gE (e7 (fI 1) (e7 (fI 2) (e7 (fI 8) fG))))) (jK (pR Y7 (fI 16)) (fI 3))) fG)))) (gN 13))
  (fM (fY (fIx (fS (gE (e7 (mL (mL Y12 (fI 1)) Y13) (e7 Y13 fG)))) (jK (pR Y7 (fI 48)) (fI 2))) (gN 14))
  (aKi Y10 (e7 (jK (pR (fIx Y3 Y11) (fI 256)) (jY (mD (e7 Y10 fG)) (fI 1))) (e7 (fS (gE (e7 (fIx Y9 Y14) (e7 (fIx Y9 Y12) fG)))) fG)))))) iE)
def aK0:FS:=
 (fM (fY (f7 1 n6 (e7 Y0 fG)) (gN 3))
  (fM (fY (f7 2 iZ (e7 Y0 (e7 (fI 0) fG))) (gN 4))
  (fM (fY (jK (pR Y4 (fI 4)) (rN (e7 (fI 6) (e7 (jY Y1 (fI 1)) fG)))) (gN 5))
  (fM (fY (fIx (fS (gE (e7 Y5 (e7 (mL Y1 (fIx (fS (gE (e7 (fI 0) (e7 (fI 0) (e7 (fI 1) (e7 (fI 2) fG)))))) (jK (pR Y4 (fI 4)) (fI 4)))) (e7 Y5 (e7 (rN (e7 Y1 (e7 (jY (fI 3) (jK (pR Y4 (fI 4)) (fI 3))) fG))) fG)))))) (jK Y4 (fI 4))) (gN 6))
  (fM (fY (f7 2 iZ (e7 Y0 (e7 (fI 1) fG))) (gN 7))
  (fM (fIf (hZ (fEq (jK (pR Y7 (fI 288)) (fI 2)) (fI 1))) (gF (f7 3 pM (e7 Y0 (e7 (rN (e7 Y6 (e7 (fIx (fS (gE (e7 (fI 5) (e7 (fI 3) fG)))) (tS (e7 (fLt Y1 (fI 5)) fG))) fG))) (e7 Y2 fG))))) iE)
  (fM (fY (fS (lW Y6 1 [3,7,2] (gN 0) iB (f7 5 sX (e7 (fIx Y1 Y0) (e7 (fIx Y1 (jY (fI 8) Y0)) (e7 (fIx Y1 (jY (fI 16) Y0)) (e7 (jK Y2 (fI 4)) (e7 Y3 fG)))))))) (gN 8))
  (fM (fY (f7 2 tW (e7 (fIx Y3 (fI 39)) (e7 Y6 fG))) (gN 9))
  (fM (fY (i0 (gE fG)) (gN 10))
  (fM (pI (fI 24) (jY (fI 24) (rN (e7 (fI 14) (e7 (jY Y6 (jK (pR Y7 (fI 4)) (fI 4))) fG)))) (gN 11)
   aD8)
  (gF (zC (e7 Y8 (e7 (fS (fSl Y10 (qW (jK (pR Y7 (fI 96)) (fI 3))) mT)) fG))))))))))))))
def aAD:List T->Option T:=iX aK0 15
def rT:FS:=
 (gF (fS (jE Y0 1 [] (gN 0) iB (fIx Y0 (fI 1)))))
def k7:List T->Option T:=iX rT 1
def sM:FS:=
 (gF (aFj (hZ (fEq (fIx Y0 (fI 2)) (fI 0))) (fIx Y0 (fI 1)) (fIx Y0 (fI 0))))
def l4:List T->Option T:=iX sM 1
def u8:FS:=
 (gF (f7 2 kI (e7 (f7 1 k7 (e7 Y0 fG)) (e7 Y1 fG))))
def mX:List T->Option T:=iX u8 2
def xB:FS:=
 (gF (f7 2 kI (e7 (fS (jE Y0 1 [] (gN 0) iB (f7 1 l4 (e7 Y0 fG)))) (e7 Y1 fG))))
def nX:List T->Option T:=iX xB 2
def rO:FS:=
 (gF (jY (lH (fI 2) Y0) (fI 2)))
def iS:List T->Option T:=iX rO 1
def tU:FS:=
 (gF (jY (lH (fI 2) Y0) (fI 3)))
def jC:List T->Option T:=iX tU 1
def aAI:FS:=
 (gF (mL (pR Y0 (fI 2)) (fI 1)))
def rA:List T->Option T:=iX aAI 1
def x9:FS:=
 (fM (oI "Pipe" "tail" Y0 Y1)
  (fM (oI "Pipe" "head" Y0 Y2)
  (fM (oI "Pipe" "hours" Y0 Y3)
  (fM (oI "Pipe" "room" Y0 Y4)
  (oI "Pipe" "back" Y0 (fC .non))))))
def mI:List T->Sto->Option (T×Sto):=nA x9 5
def aAd:FS:=
 (fM (fY (sS "Pipe" 5 mI [] (e7 Y1 (e7 Y2 (e7 Y3 (e7 Y4 fG))))) (gN 5))
  (fM (fY (sS "Pipe" 5 mI [] (e7 Y2 (e7 Y1 (e7 (fNeg Y3) (e7 (fI 0) fG))))) (gN 6))
  (fM (oI "Pipe" "back" Y5 Y6)
  (fM (oI "Pipe" "back" Y6 Y5)
  (qJ (kY "Net" "pipes" Y0) (e7 Y5 fG))))))
def jL:List T->Sto->Option (T×Sto):=nA aAd 7
def n9:FS:=
 (fM (mB (jW "Net" "lay" 5 jL Y0 (e7 (fI 0) (e7 (f7 1 iS (e7 Y5 fG)) (e7 (fI 0) (e7 Y4 fG))))))
  (fM (mB (jW "Net" "lay" 5 jL Y0 (e7 (f7 1 iS (e7 Y5 fG)) (e7 (f7 1 jC (e7 Y5 fG)) (e7 (fIx Y6 (fI 0)) (e7 (fIx Y6 (fI 2)) fG))))))
  (fM (mB (jW "Net" "lay" 5 jL Y0 (e7 (f7 1 iS (e7 Y5 fG)) (e7 (f7 1 jC (e7 Y5 fG)) (e7 (fIx Y6 (fI 1)) (e7 Y4 fG))))))
  (mB (jW "Net" "lay" 5 jL Y0 (e7 (f7 1 jC (e7 Y5 fG)) (e7 (fI 1) (e7 (fI 0) (e7 Y4 fG)))))))))
def u0:FS:=
 (mB (jW "Net" "lay" 5 jL Y0 (e7 (f7 1 jC (e7 Y9 fG)) (e7 (f7 1 iS (e7 Y7 fG)) (e7 (fI 0) (e7 Y4 fG))))))
def oA:FS:=
 (oR Y8 (gN 9)
  u0)
def aAy:FS:=
 (fM (oI "Net" "pipes" Y0 (i0 (gE fG)))
  (fM (oI "Net" "places" Y0 (jY (lH (fI 2) (mD (e7 Y1 fG))) (fI 2)))
  (fM (fY (jY (jY (aC8 (e7 (fS (jE Y1 1 [] (gN 0) iB (fIx Y0 (fI 2)))) fG)) Y3) (fI 1)) (gN 4))
  (fM (wR Y1 (gU [5,6])
   n9)
  (wR (f7 2 gQ (e7 (mD (e7 Y1 fG)) (e7 Y2 fG))) (gU [7,8])
   oA)))))
def lK:List T->Sto->Option (T×Sto):=nA aAy 10
def oW:FS:=
 (fM (fY (fS (aLP (kY "Net" "pipes" Y0) (fS (jE (kY "Net" "pipes" Y0) 1 [] (gN 0) iB (kY "Pipe" "back" Y0))))) (gN 1))
  (gF (fS (jE Y1 1 [] (gN 0) (hZ (fGt (kY "Pipe" "room" Y0) (fI 0))) Y0))))
def iG:List T->Sto->Option (T×Sto):=nA oW 2
def oN:FS:=
 (fM (fY (jY (fIx Y0 (kY "Pipe" "tail" Y3)) (kY "Pipe" "hours" Y3)) (gN 4))
  (fIf (hZ (fGt Y4 (fIx Y0 (kY "Pipe" "head" Y3)))) (fM (sJ Y4 Y0 (kY "Pipe" "head" Y3))
  (fY (fC (.bl true)) (gN 2))) iE))
def pU:FS:=
 (fM (fY (fC (.bl false)) (gN 2))
  (fM (oR Y1 (gN 3)
   oN)
  (gF Y2)))
def lB:List T->Sto->Option (T×Sto):=nA pU 5
def vG:FS:=
 iE
def rR:FS:=
 (fM (fY (i0 (lW (kY "Net" "places" Y0) 1 [] (gN 0) iB (fI 0))) (gN 2))
  (fM (sJ Y1 Y2 (fI 1))
  (fM (fY (jW "Net" "open_pipes" 1 iG Y0 fG) (gN 3))
  (fM (lN (j9 (kU 2 lB (e7 Y2 (e7 Y3 fG)))) vG (10^200))
  (gF Y2)))))
def iL:List T->Sto->Option (T×Sto):=nA rR 4
def p5:FS:=
 (fIf (pZ (hZ (jA (kY "Pipe" "tail" Y3) Y0 (xD true))) (hZ (jA (kY "Pipe" "head" Y3) Y0 (xD false)))) (zH Y2 (kY "Pipe" "head" Y3) (fS (aLP (aAj Y0 (kY "Pipe" "tail" Y3)) (fS (gE (e7 Y3 fG)))))) iE)
def rM:FS:=
 (fM (fY (uW (.dk [])) (gN 2))
  (fM (oR Y1 (gN 3)
   p5)
  (gF Y2)))
def mQ:List T->Sto->Option (T×Sto):=nA rM 4
def pY:FS:=
 (mB (wO Y3 (kU 2 mQ (e7 Y3 (e7 Y2 fG)))))
def rQ:FS:=
 (fM (fY (fS (jE Y0 1 [1] (gN 0) (hZ (fEq (jY (fIx Y1 (kY "Pipe" "tail" Y0)) (kY "Pipe" "hours" Y0)) (fIx Y1 (kY "Pipe" "head" Y0)))) Y0)) (gN 2))
  (fM (fY (uB (fI 0) (fS (gE fG))) (gN 3))
  (fM (lN (hZ (jA (fI 1) Y3 (xD false))) pY 40)
  (gF (aAj Y3 (fI 1))))))
def kB:List T->Sto->Option (T×Sto):=nA rQ 4
def z8:FS:=
 (gF (aAk (e7 (fS (jE Y0 1 [] (gN 0) iB (kY "Pipe" "room" Y0))) fG)))
def nO:List T->Sto->Option (T×Sto):=nA z8 1
def aB5:FS:=
 (fM (vC "Pipe" "room" (fun i j=>i - j) Y2 Y1)
  (vC "Pipe" "room" (fun i j=>i+j) (kY "Pipe" "back" Y2) Y1))
def aIC:FS:=
 (oR Y0 (gN 2)
  aB5)
def uH:List T->Sto->Option (T×Sto):=nA aIC 3
def tR:FS:=
 (fM (fY (kU 2 kB (e7 (jW "Net" "open_pipes" 1 iG Y0 fG) (e7 Y2 fG))) (gN 3))
  (fM (mB (kU 2 uH (e7 Y3 (e7 (kU 1 nO (e7 Y3 fG)) fG))))
  (fY (jW "Net" "moments" 2 iL Y0 (e7 (fI 0) fG)) (gN 2))))
def yS:FS:=
 (fM (fY (jW "Net" "moments" 2 iL Y0 (e7 (fI 0) fG)) (gN 2))
  (lN (hZ (fGt (fIx Y2 (fI 1)) Y1)) tR (10^200)))
def pJ:List T->Sto->Option (T×Sto):=nA yS 4
def sG:FS:=
 (gF (fS (uU Y1 1 [0,1] (gN 0) (pZ (hZ (fEq (fIx Y0 (fI 0)) Y1)) (hZ (fGt (aAj Y2 Y0) (fI 0)))) Y0)))
def l5:List T->Sto->Option (T×Sto):=nA sG 2
def oH:FS:=
 (fM (qJ Y1 (e7 (fIx Y2 (fI 0)) fG))
  (fY (kU 2 l5 (e7 (fIx (fIx Y2 (fI 0)) (fI 1)) (e7 Y0 fG))) (gN 2)))
def pW:FS:=
 (fM (fY (i0 (gE fG)) (gN 1))
  (fM (fY (kU 2 l5 (e7 (fI 0) (e7 Y0 fG))) (gN 2))
  (fM (lN (j9 Y2) oH 40)
  (gF Y1))))
def j8:List T->Sto->Option (T×Sto):=nA pW 3
def yB:FS:=
 (gF (fS (jE (fS (aEX Y0)) 2 [] (gU [0,1]) iB (f7 1 rA (e7 Y0 fG)))))
def pB:List T->Sto->Option (T×Sto):=nA yB 1
def sN:FS:=
 (aAL (fun i j=>i - j) Y0 Y3 Y2)
def yE:FS:=
 (fM (fY (aAk (e7 (fS (jE Y1 1 [0] (gN 0) iB (aAj Y1 Y0))) fG)) (gN 2))
  (fM (oR Y1 (gN 3)
   sN)
  (gF Y2)))
def pC:List T->Sto->Option (T×Sto):=nA yE 4
def qP:FS:=
 (fM (fY (zC (e7 (kY "Pipe" "tail" Y2) (e7 (kY "Pipe" "head" Y2) fG))) (gN 3))
  (zH Y1 Y3 (jY (uP Y1 Y3 (fI 0)) (kY "Pipe" "room" (kY "Pipe" "back" Y2)))))
def qR:FS:=
 (fM (qJ Y4 (e7 (i0 (aLP (fS (gE (e7 (kU 2 pC (e7 Y1 (e7 Y5 fG))) fG))) (kU 1 pB (e7 Y5 fG)))) fG))
  (fY (kU 1 j8 (e7 Y1 fG)) (gN 5)))
def tG:FS:=
 (fM (fY (uW (.dt [])) (gN 1))
  (fM (oR (kY "Net" "pipes" Y0) (gN 2)
   qP)
  (fM (fY (i0 (gE fG)) (gN 4))
  (fM (fY (kU 1 j8 (e7 Y1 fG)) (gN 5))
  (fM (lN (j9 Y5) qR (10^200))
  (gF Y4))))))
def nC:List T->Sto->Option (T×Sto):=nA tG 6
def oC:FS:=
 (gF (fIx (jW "Net" "moments" 2 iL Y0 (e7 (fI 0) fG)) (fI 1)))
def kD:List T->Sto->Option (T×Sto):=nA oC 1
def sH:FS:=
 (gF (aC8 (e7 (fS (jE (kY "Net" "pipes" Y0) 1 [] (gN 0) (hZ (fEq (kY "Pipe" "tail" Y0) (fI 0))) (kY "Pipe" "room" (kY "Pipe" "back" Y0)))) fG)))
def j6:List T->Sto->Option (T×Sto):=nA sH 1
def uX:FS:=
 (fM (mB (jW "Net" "fill" 2 pJ Y6 (e7 (mL Y3 (fI 1)) fG)))
  (fM (fY (jW "Net" "open_length" 1 kD Y6 fG) (gN 7))
  (fM (fY (jY Y4 (lH (jW "Net" "amount" 1 j6 Y6 fG) (mL Y3 Y7))) (gN 4))
  (fM (fY Y7 (gN 3))
  (qJ Y5 (e7 (i0 (gE (e7 Y3 (e7 Y4 fG)))) fG))))))
def aAo:FS:=
 (fM (fY (f7 2 mX (e7 Y0 (e7 Y1 fG))) (gN 2))
  (fM (fY (f7 2 nX (e7 Y0 (e7 Y1 fG))) (gN 3))
  (fM (fY (fI 0) (gN 4))
  (fM (fY (i0 (gE (e7 (i0 (gE (e7 Y3 (e7 Y4 fG)))) fG))) (gN 5))
  (fM (fY (sS "Net" 4 lK [.int 0] (e7 Y0 (e7 Y1 fG))) (gN 6))
  (fM (lN (hZ (fGt Y3 Y2)) uX (10^200))
  (gF Y5)))))))
def kW:List T->Option (T×Sto):=aAP aAo 8
end Lib
namespace TL
open PySem L2
section
variable {τ:TSt}{C:Sto}{a b c f fe fo fi:FE}{fa fr fn:FN}{fb ga gb:FB}{F G:FS}
def wpE(f:FE)(τ:TSt)(C:Sto)(Q:T->Sto->Prop):Prop:=∃t C',f τ C=some (t,C')/\Q t C'
def wpA(f:FN)(τ:TSt)(C:Sto)(Q:List T->Sto->Prop):Prop:=∃t C',f τ C=some (t,C')/\Q t C'
def wpB(f:FB)(τ:TSt)(C:Sto)(Q:Bool->Sto->Prop):Prop:=∃t C',f τ C=some (t,C')/\Q t C'
def wpS(F:FS)(τ:TSt)(C:Sto)(Q:Fl->TSt->Sto->Prop):Prop:=∃l t C',F τ C=some (l,t,C')/\Q l t C'
def wpO(o:Option (T×Sto))(Q:T->Sto->Prop):Prop:=∃t C',o=some (t,C')/\Q t C'
def wpL(o:Option (List T))(Q:List T->Prop):Prop:=∃t,o=some t/\Q t
def wpC(o:Option (List T×Sto))(Q:List T->Sto->Prop):Prop:=∃t C',o=some (t,C')/\Q t C'
def wpG(g:FG)(t:T)(C:Sto)(τ:TSt)(Q:TSt->Prop):Prop:=∃ag,g t C τ=some ag/\Q ag
def wpR(o:Option T)(Q:T->Prop):Prop:=∃t,o=some t/\Q t
variable {Q:T->Sto->Prop}{QL:List T->Sto->Prop}{QB:Bool->Sto->Prop}{QS:Fl->TSt->Sto->Prop}{QG:TSt->Prop}{Ql:List T->Prop}
variable{i j lo:Int}{u:T}{R:List T->Option T}{P:Sto->Prop}
theorem e9{i:Nat}:wpE (iY i) τ C Q↔∃t,τ[i]?=some (some t)/\Q t C:=by
 unfold wpE iY;constructor
 ·rintro⟨t,C',e,q⟩;split at e
  ·rename_i t' h;cases e;exact⟨_,h,q⟩
  ·cases e
 ·rintro⟨t,e,q⟩
  exact⟨t,C,by rw[e],q⟩
theorem gL{t:T}:wpE (fC t) τ C Q↔Q t C:=by
 unfold wpE fC;constructor
 ·rintro⟨_,_,e,q⟩;cases e;exact q
 ·exact fun q=>⟨_,_,rfl,q⟩
theorem fK{g:T->T->Sto->Option (T×Sto)}:wpE (jA a b g) τ C Q↔wpE a τ C fun x C1=>wpE b τ C1 fun y C2=>wpO (g x y C2) Q:=by
 unfold wpE jA wpO;constructor
 ·rintro⟨t,C',e,q⟩;obtain⟨⟨x,C1⟩,e1,e⟩:=aK.mp e;obtain⟨⟨y,C2⟩,e2,e⟩:=aK.mp e
  exact⟨x,C1,e1,y,C2,e2,t,C',e,q⟩
 ·rintro⟨x,C1,e1,y,C2,e2,t,C',e,q⟩
  exact⟨t,C',by simp[e1,e2,e],q⟩
theorem aDG{g:T->Sto->Option (T×Sto)}:wpE (fUn a g) τ C Q↔wpE a τ C fun x C1=>wpO (g x C1) Q:=by
 unfold wpE fUn wpO;constructor
 ·rintro⟨t,C',e,q⟩;obtain⟨⟨x,C1⟩,e1,e⟩:=aK.mp e
  exact⟨x,C1,e1,t,C',e,q⟩
 ·rintro⟨x,C1,e1,t,C',e,q⟩
  exact⟨t,C',by simp[e1,e],q⟩
theorem tD{g:T->T->Sto->Option (List T)}:wpA (zA a b g) τ C QL↔wpE a τ C fun x C1=>wpE b τ C1 fun y C2=>wpL (g x y C2) fun us=>QL us C2:=by
 unfold wpA wpE zA wpL;constructor
 ·rintro⟨t,C',e,q⟩;obtain⟨⟨x,C1⟩,e1,e⟩:=aK.mp e;obtain⟨⟨y,C2⟩,e2,e⟩:=aK.mp e;obtain⟨us,e3,e⟩:=aL.mp e;cases e
  exact⟨x,C1,e1,y,_,e2,_,e3,q⟩
 ·rintro⟨x,C1,e1,y,C2,e2,t,e,q⟩
  exact⟨t,C2,by simp[e1,e2,e],q⟩
theorem fH:wpA fG τ C QL↔QL [] C:=by
 unfold wpA fG;constructor
 ·rintro⟨_,_,e,q⟩;cases e;exact q
 ·exact fun q=>⟨_,_,rfl,q⟩
theorem fB:wpA (e7 a fr) τ C QL↔wpE a τ C fun x C1=>wpA fr τ C1 fun xs C2=>QL (x::xs) C2:=by
 unfold wpA wpE e7;constructor
 ·rintro⟨t,C',e,q⟩;obtain⟨⟨x,C1⟩,e1,e⟩:=aK.mp e;obtain⟨⟨y,C2⟩,e2,e⟩:=aL.mp e;cases e
  exact⟨x,C1,e1,y,_,e2,q⟩
 ·rintro⟨x,C1,e1,y,C2,e2,q⟩
  exact⟨_,C2,by simp[e1,e2],q⟩
theorem fV{g:List T->Sto->Option (T×Sto)}:wpE (oS fa g) τ C Q↔wpA fa τ C fun xs C1=>wpO (g xs C1) Q:=by
 unfold wpE wpA oS wpO;constructor
 ·rintro⟨t,C',e,q⟩;obtain⟨⟨x,C1⟩,e1,e⟩:=aK.mp e
  exact⟨x,C1,e1,t,C',e,q⟩
 ·rintro⟨x,C1,e1,t,C',e,q⟩
  exact⟨t,C',by simp[e1,e],q⟩
theorem tL{g:List T->Sto->Option (List T)}:wpA (vA fa g) τ C QL↔wpA fa τ C fun xs C1=>wpL (g xs C1) fun us=>QL us C1:=by
 unfold wpA vA wpL;constructor
 ·rintro⟨t,C',e,q⟩;obtain⟨⟨x,C1⟩,e1,e⟩:=aK.mp e;obtain⟨us,e3,e⟩:=aL.mp e;cases e
  exact⟨x,_,e1,_,e3,q⟩
 ·rintro⟨x,C1,e1,t,e,q⟩
  exact⟨t,C1,by simp[e1,e],q⟩
theorem hV:wpA (gE fa) τ C QL↔wpA fa τ C fun xs C1=>xs.length<=lim/\QL xs C1:=by
 unfold gE;rw[tL];unfold wpA wpL;constructor
 ·rintro⟨x,C1,e,t,e2,q⟩;split at e2
  ·cases e2;exact⟨_,_,e,‹_›,q⟩
  ·cases e2
 ·rintro⟨x,C1,e,h,q⟩
  exact⟨x,C1,e,x,by rw[if_pos h],q⟩
theorem gA:wpE (fS fn) τ C Q↔wpA fn τ C fun us C1=>Q (.lst us) C1:=by
 unfold wpE wpA fS;constructor
 ·rintro⟨t,C',e,q⟩;obtain⟨⟨x,C1⟩,e1,e⟩:=aL.mp e;cases e
  exact⟨x,_,e1,q⟩
 ·rintro⟨x,C1,e1,q⟩
  exact⟨_,C1,by simp[e1],q⟩
theorem jN:wpE (i0 fn) τ C Q↔wpA fn τ C fun us C1=>Q (.cell C1.length) (C1++[(.l,us)]):=by
 unfold wpE wpA i0;constructor
 ·rintro⟨t,C',e,q⟩;obtain⟨⟨x,C1⟩,e1,e⟩:=aL.mp e;cases e
  exact⟨x,_,e1,q⟩
 ·rintro⟨x,C1,e1,q⟩
  exact⟨_,_,by simp[e1],q⟩
theorem jH{g:Int->Int->T}:wpO (gI g (.int i) (.int j) C) Q↔Q (g i j) C:=by
 unfold wpO gI;constructor
 ·rintro⟨_,_,e,q⟩;cases e;exact q
 ·exact fun q=>⟨_,_,rfl,q⟩
theorem aLL{p:Prop}[Decidable p]{o:Option (T×Sto)}:wpO (if p then o else none) Q↔p/\wpO o Q:=by
 by_cases h:p<;>simp[h,wpO]
theorem oX{t:T}:wpO (some (t,C)) Q↔Q t C:=by
 unfold wpO;constructor
 ·rintro⟨_,_,e,q⟩;cases e;exact q
 ·exact fun q=>⟨_,_,rfl,q⟩
theorem mZ{k:Int->Int->Bool}{g:Int->Int->T}:wpO (gIc k g (.int i) (.int j) C) Q↔k i j=true/\Q (g i j) C:=by
 show wpO (if k i j=true then some (g i j,C)else none) Q↔_;rw[aLL,oX]
theorem kQ{t:T}:wpO (gIx t (.int i) C) Q↔∃ts,sqT C t=some ts/\∃x,atI ts i=some x/\Q x C:=by
 unfold wpO gIx;constructor
 ·rintro⟨t,C',e,q⟩;obtain⟨ts,e1,e⟩:=aK.mp e;obtain⟨x,e2,e⟩:=aL.mp e;cases e
  exact⟨ts,e1,_,e2,q⟩
 ·rintro⟨ts,e1,x,e2,q⟩
  exact⟨_,C,by simp[e1,e2],q⟩
theorem lP{t:T}:wpO (aFL [t] C) Q↔∃ts,sqT C t=some ts/\Q (.int ts.length) C:=by
 unfold wpO aFL;constructor
 ·rintro⟨t,C',e,q⟩;obtain⟨ts,e1,e⟩:=aL.mp e;cases e
  exact⟨ts,e1,q⟩
 ·rintro⟨ts,e1,q⟩
  exact⟨_,C,by simp[e1],q⟩
theorem wT{t:T}:wpL (aEu [t] C) Ql↔∃ts,sqT C t=some ts/\Ql ts:=aOU
theorem vZ{t:T}:wpL (aFs t u C) Ql↔∃ts,liT C t=some ts/\∃us,liT C u=some us/\ts.length+us.length<=lim/\Ql (ts++us):=by
 unfold wpL aFs;constructor
 ·rintro⟨t,e,q⟩;obtain⟨ts,e1,e⟩:=aK.mp e;obtain⟨us,e2,e⟩:=aK.mp e;split at e
  ·cases e;exact⟨ts,e1,us,e2,‹_›,q⟩
  ·cases e
 ·rintro⟨ts,e1,us,e2,h,q⟩
  exact⟨_,by simp[e1,e2,h],q⟩
theorem lQ{k:List Int->Bool}{g:List Int->Int}{t:T}:wpO (aAb k g [t] C) Q↔∃us,liT C t=some us/\∃ns,ints? us=some ns/\k ns=true/\Q (.int (g ns)) C:=by
 unfold wpO aAb;constructor
 ·rintro⟨t,C',e,q⟩;obtain⟨ts,e1,e⟩:=aK.mp e;obtain⟨ns,e2,e⟩:=aK.mp e;split at e
  ·cases e;exact⟨ts,e1,ns,e2,‹_›,q⟩
  ·cases e
 ·rintro⟨ts,e1,us,e2,h,q⟩
  exact⟨_,_,by simp[e1,e2,h],q⟩
theorem aJK{g:List Bool->Bool}{t:T}:wpO (aHm g [t] C) Q↔∃us,liT C t=some us/\∃ns,bls? us=some ns/\Q (.bl (g ns)) C:=by
 unfold wpO aHm;constructor
 ·rintro⟨t,C',e,q⟩;obtain⟨ts,e1,e⟩:=aK.mp e;obtain⟨ns,e2,e⟩:=aL.mp e;cases e;exact⟨ts,e1,ns,e2,q⟩
 ·rintro⟨ts,e1,us,e2,q⟩
  exact⟨_,_,by simp[e1,e2],q⟩
theorem aGl{g:Int->Int->Int}:wpO (gI2 g [.int i,.int j] C) Q↔Q (.int (g i j)) C:=oX
theorem wM:wpO (gI2 (fun i j=>if j<i then j else i) [.int i,.int j] C) Q↔Q (.int (min i j)) C:=by
 rw[aGl,show(if j<i then j else i)=min i j by lia]
theorem aBL:wpO (gI2 (fun i j=>if j>i then j else i) [.int i,.int j] C) Q↔Q (.int (max i j)) C:=by
 rw[aGl,show(if j>i then j else i)=max i j by lia]
theorem aAc{i:Bool}:wpO (aEr [.bl i] C) Q↔Q (.int (if i then 1 else 0)) C:=oX
theorem aI2:wpO (aIr (.int i) C) Q↔Q (.int (-i)) C:=oX
theorem tK{k:String}:wpE (p6 k a) τ C Q↔wpE a τ C fun t C1=>∃x,aMW k t=some x/\Q (.bl x) C1:=by
 unfold p6;rw[aDG];unfold wpE wpO;constructor
 ·rintro⟨t,C',e,t2,C2,e2,q⟩;obtain⟨x,e3,e2⟩:=aL.mp e2;cases e2
  exact⟨t,_,e,x,e3,q⟩
 ·rintro⟨t,C',e,x,e2,q⟩
  exact⟨t,C',e,_,_,by simp[e2],q⟩
theorem aH0{n:Bool}{t:T}:wpO (gEq n t u C) Q↔∃x,dr 3 C t=some x/\∃y,dr 3 C u=some y/\∃k,eqT 5 x y=some k/\Q (.bl (if n then !k else k)) C:=by
 unfold wpO gEq;constructor
 ·rintro⟨t,C',e,q⟩;obtain⟨x,e1,e⟩:=aK.mp e;obtain⟨y,e2,e⟩:=aK.mp e;obtain⟨k,e3,e⟩:=aL.mp e;cases e
  exact⟨x,e1,y,e2,k,e3,q⟩
 ·rintro⟨x,e1,y,e2,k,e3,q⟩
  exact⟨_,_,by simp[e1,e2,e3],q⟩
theorem aMm{n:Bool}{t:T}:wpO (gIn n t u C) Q↔∃x,dr 3 C t=some x/\∃ts,liT C u=some ts/\∃us,mapO (dr 3 C) ts=some us/\∃k,inL (fun w=>eqT 5 w x) us=some k/\Q (.bl (if n then !k else k)) C:=by
 unfold wpO gIn;constructor
 ·rintro⟨t,C',e,q⟩;obtain⟨x,e1,e⟩:=aK.mp e;obtain⟨y,e2,e⟩:=aK.mp e;obtain⟨z,e4,e⟩:=aK.mp e;obtain⟨k,e3,e⟩:=aL.mp e;cases e
  exact⟨x,e1,y,e2,z,e4,k,e3,q⟩
 ·rintro⟨x,e1,y,e2,z,e4,k,e3,q⟩
  exact⟨_,_,by simp[e1,e2,e3,e4],q⟩
theorem aGa{n:Nat}{ts:List T}(hl:ts.length=n)(hc:CFs ts=true):wpO (kE n R ts C) Q↔wpR (R ts) fun t=>Q t C:=by
 unfold wpO kE wpR;rw[if_pos hl,if_pos hc];constructor
 ·rintro⟨t,C',e,q⟩;obtain⟨x,e1,e⟩:=aL.mp e;cases e;exact⟨_,e1,q⟩
 ·rintro⟨t,e,q⟩
  exact⟨_,_,by simp[e],q⟩
theorem gC{n:Nat}{ts:List T}{t:T}(e:R ts=some t)(hl:ts.length=n)(hc:CFs ts=true):wpO (kE n R ts C) Q↔Q t C:=by
 rw[aGa hl hc,e];unfold wpR;constructor
 ·rintro⟨_,e,q⟩;cases e;exact q
 ·exact fun q=>⟨_,rfl,q⟩
theorem nN{n:Nat}{ts us:List T}(hl:ts.length=n)(hu:mapO (dr 3 C) ts=some us)(h:wpR (R us) fun t=>sca t=true/\Q t C):wpO (kE n R ts C) Q:=by
 unfold wpO kE;obtain⟨t,e,hs,q⟩:=h;rw[if_pos hl];split
 ·rename_i hc;have:us=ts:=by
   have hi:=aBc.mp hc;clear hl hc e;induction ts generalizing us with
   |nil=>cases hu;rfl
   |cons t ts ih=>
    obtain⟨u,e1,hu⟩:=aK.mp hu;obtain⟨r,e2,hu⟩:=aL.mp hu;cases hu;have h1:=hi t bJ;rw[ih e2 fun t h=>hi t (aU _ h)];have:u=t:=by
     cases t<;>simp_all [dr,CF]
    rw[this]
  rw[<-this,e]
  exact⟨_,_,rfl,q⟩
 ·rw[hu]
  exact⟨t,C,by simp[e,hs],q⟩
theorem g8:wpB (hZ a) τ C QB↔wpE a τ C fun t C1=>∃x,t=.bl x/\QB x C1:=by
 unfold wpB wpE hZ;constructor
 ·rintro⟨t,C',e,q⟩;obtain⟨⟨x,C1⟩,e1,e⟩:=aK.mp e;dsimp only at e;split at e
  ·cases e;exact⟨_,_,e1,_,rfl,q⟩
  ·cases e
 ·rintro⟨x,C1,e1,y,rfl,q⟩
  exact⟨y,C1,by simp[e1],q⟩
theorem jO:wpB (j9 a) τ C QB↔wpE a τ C fun t C1=>∃x,aKu C1 t=some x/\QB x C1:=by
 unfold wpB wpE j9;constructor
 ·rintro⟨t,C',e,q⟩;obtain⟨⟨x,C1⟩,e1,e⟩:=aK.mp e;obtain⟨y,e2,e⟩:=aL.mp e;cases e
  exact⟨_,_,e1,_,e2,q⟩
 ·rintro⟨x,C1,e1,y,e2,q⟩
  exact⟨y,C1,by simp[e1,e2],q⟩
theorem wJ:wpB (pZ ga gb) τ C QB↔wpB ga τ C fun x C1=>if x=true then wpB gb τ C1 QB else QB false C1:=by
 unfold wpB pZ;constructor
 ·rintro⟨t,C',e,q⟩;obtain⟨⟨x,C1⟩,e1,e⟩:=aK.mp e
  refine⟨x,C1,e1,?_⟩
  dsimp only at e;split at e
  ·rw[if_pos ‹_›];exact⟨t,C',e,q⟩
  ·cases e;rw[if_neg ‹_›];exact q
 ·rintro⟨x,C1,e1,q⟩;split at q
  ·obtain⟨t,C',e,q⟩:=q
   exact⟨t,C',by simp_all,q⟩
  ·exact⟨false,C1,by simp_all,q⟩
theorem m7:wpB (lO ga gb) τ C QB↔wpB ga τ C fun x C1=>if x=true then QB true C1 else wpB gb τ C1 QB:=by
 unfold wpB lO;constructor
 ·rintro⟨t,C',e,q⟩;obtain⟨⟨x,C1⟩,e1,e⟩:=aK.mp e
  refine⟨x,C1,e1,?_⟩
  dsimp only at e;split at e
  ·cases e;rw[if_pos ‹_›];exact q
  ·rw[if_neg ‹_›];exact⟨t,C',e,q⟩
 ·rintro⟨x,C1,e1,q⟩;split at q
  ·exact⟨true,C1,by simp_all,q⟩
  ·obtain⟨t,C',e,q⟩:=q
   exact⟨t,C',by simp_all,q⟩
theorem kG:wpB (i8 ga) τ C QB↔wpB ga τ C fun x C1=>QB (!x) C1:=by
 unfold wpB i8;constructor
 ·rintro⟨t,C',e,q⟩;obtain⟨⟨x,C1⟩,e1,e⟩:=aL.mp e;cases e
  exact⟨x,_,e1,q⟩
 ·rintro⟨x,C1,e1,q⟩
  exact⟨_,C1,by simp[e1],q⟩
theorem aJ0:wpE (aAm a b) τ C Q↔wpE a τ C fun t C1=>∃x,t=.bl x/\if x=true then wpE b τ C1 Q else Q (.bl false) C1:=by
 unfold wpE aAm;constructor
 ·rintro⟨t,C',e,q⟩;obtain⟨⟨x,C1⟩,e1,e⟩:=aK.mp e
  refine⟨x,C1,e1,?_⟩
  dsimp only at e;split at e
  ·exact⟨true,rfl,by rw[if_pos rfl];exact⟨t,C',e,q⟩⟩
  ·cases e;exact⟨false,rfl,by rw[if_neg (by simp)];exact q⟩
  ·cases e
 ·rintro⟨x,C1,e1,y,rfl,q⟩;split at q
  ·obtain⟨t,C',e,q⟩:=q
   exact⟨t,C',by simp_all,q⟩
  ·exact⟨.bl false,C1,by simp_all,q⟩
theorem aJa:wpE (z9 a) τ C Q↔wpE a τ C fun t C1=>∃x,t=.bl x/\Q (.bl (!x)) C1:=by
 unfold wpE z9;constructor
 ·rintro⟨t,C',e,q⟩;obtain⟨⟨x,C1⟩,e1,e⟩:=aK.mp e;dsimp only at e;split at e
  ·cases e;exact⟨_,_,e1,_,rfl,q⟩
  ·cases e
 ·rintro⟨x,C1,e1,y,rfl,q⟩
  exact⟨_,C1,by simp[e1],q⟩
theorem aJv:wpE (aFj ga a b) τ C Q↔wpB ga τ C fun x C1=>if x=true then wpE a τ C1 Q else wpE b τ C1 Q:=by
 unfold wpB wpE aFj;constructor
 ·rintro⟨t,C',e,q⟩;obtain⟨⟨x,C1⟩,e1,e⟩:=aK.mp e
  refine⟨x,C1,e1,?_⟩
  dsimp only at e;split at e
  ·rw[if_pos ‹_›];exact⟨t,C',e,q⟩
  ·rw[if_neg ‹_›];exact⟨t,C',e,q⟩
 ·rintro⟨x,C1,e1,q⟩;split at q
  ·obtain⟨t,C',e,q⟩:=q
   exact⟨t,C',by simp_all,q⟩
  ·obtain⟨t,C',e,q⟩:=q
   exact⟨t,C',by simp_all,q⟩
theorem aFz{p q:Int->Int->Bool}:wpE (uR a b c p q) τ C Q↔wpE a τ C fun x C1=>wpE b τ C1 fun y C2=>∃i j,x=.int i/\y=.int j/\if p i j=true then wpE c τ C2 (fun z C3=>∃l,z=.int l/\Q (.bl (q j l)) C3)else Q (.bl false) C2:=by
 unfold wpE uR;constructor
 ·rintro⟨t,C',e,q⟩;obtain⟨⟨x,C1⟩,e1,e⟩:=aK.mp e;obtain⟨⟨y,C2⟩,e2,e⟩:=aK.mp e
  refine⟨x,C1,e1,y,C2,e2,?_⟩
  dsimp only at e;split at e
  ·refine⟨_,_,rfl,rfl,?_⟩
   split at e
   ·rw[if_pos ‹_›];obtain⟨⟨z,C3⟩,e3,e⟩:=aK.mp e;dsimp only at e;split at e
    ·cases e;exact⟨_,_,e3,_,rfl,q⟩
    ·cases e
   ·rw[if_neg ‹_›];cases e;exact q
  ·cases e
 ·rintro⟨x,C1,e1,y,C2,e2,i,j,rfl,rfl,h⟩;split at h
  ·obtain⟨z,C3,e3,l,rfl,q⟩:=h
   exact⟨_,C3,by simp_all,q⟩
  ·exact⟨_,C2,by simp_all,h⟩
theorem gY:wpS iE τ C QS↔QS .nx τ C:=by
 unfold wpS iE;constructor
 ·rintro⟨_,_,_,e,q⟩;cases e;exact q
 ·exact fun q=>⟨_,_,_,rfl,q⟩
def sq(G:FS)(Q:Fl->TSt->Sto->Prop)(l:Fl)(τ:TSt)(C:Sto):Prop:=match l with
 | .nx=>wpS G τ C Q
 |l=>Q l τ C
theorem fJ:wpS (fM F G) τ C QS↔wpS F τ C (sq G QS):=by
 unfold wpS fM;constructor
 ·rintro⟨l,t,C',e,q⟩;obtain⟨⟨l1,t1,C1⟩,e1,e⟩:=aK.mp e
  refine⟨l1,t1,C1,e1,?_⟩
  cases l1<;>first| (cases e;exact q)|exact⟨l,t,C',e,q⟩
 ·rintro⟨l1,t1,C1,e1,h⟩;cases l1 with
  |nx=>obtain⟨l,t,C',e,q⟩:=h;exact⟨l,t,C',by rw[e1];exact e,q⟩
  |_=>exact⟨_,t1,C1,by rw[e1];rfl,h⟩
theorem fW:sq G QS .nx τ C↔wpS G τ C QS:=aOU
theorem aNC{t:T}:sq G QS (.rt t) τ C↔QS (.rt t) τ C:=aOU
theorem aNq{c:String}:sq G QS (.ex c) τ C↔QS (.ex c) τ C:=aOU
theorem aM9:sq G QS .bk τ C↔QS .bk τ C:=aOU
theorem aNW:sq G QS .ct τ C↔QS .ct τ C:=aOU
theorem mE:wpS (fIf ga F G) τ C QS↔wpB ga τ C fun x C1=>if x=true then wpS F τ C1 QS else wpS G τ C1 QS:=by
 unfold wpB wpS fIf;constructor
 ·rintro⟨l,t,C',e,q⟩;obtain⟨⟨x,C1⟩,e1,e⟩:=aK.mp e
  refine⟨x,C1,e1,?_⟩
  dsimp only at e;split at e
  ·rw[if_pos ‹_›];exact⟨l,t,C',e,q⟩
  ·rw[if_neg ‹_›];exact⟨l,t,C',e,q⟩
 ·rintro⟨x,C1,e1,q⟩;split at q
  ·obtain⟨l,t,C',e,q⟩:=q
   exact⟨l,t,C',by simp_all,q⟩
  ·obtain⟨l,t,C',e,q⟩:=q
   exact⟨l,t,C',by simp_all,q⟩
theorem iJ:wpS (gF a) τ C QS↔wpE a τ C fun t C1=>QS (.rt t) τ C1:=by
 unfold wpE wpS gF;constructor
 ·rintro⟨l,t,C',e,q⟩;obtain⟨⟨x,C1⟩,e1,e⟩:=aL.mp e;cases e
  exact⟨x,_,e1,q⟩
 ·rintro⟨x,C1,e1,q⟩
  exact⟨_,_,C1,by simp[e1],q⟩
theorem mW:wpS (mB a) τ C QS↔wpE a τ C fun t C1=>QS .nx τ C1:=by
 unfold wpE wpS mB;constructor
 ·rintro⟨l,t,C',e,q⟩;obtain⟨⟨x,C1⟩,e1,e⟩:=aL.mp e;cases e
  exact⟨x,_,e1,q⟩
 ·rintro⟨x,C1,e1,q⟩
  exact⟨_,_,C1,by simp[e1],q⟩
theorem f6{g:FG}:wpS (fY a g) τ C QS↔wpE a τ C fun t C1=>wpG g t C1 τ fun aq=>QS .nx aq C1:=by
 unfold wpE wpS wpG fY;constructor
 ·rintro⟨l,t,C',e,q⟩;obtain⟨⟨x,C1⟩,e1,e⟩:=aK.mp e;obtain⟨aq,e2,e⟩:=aL.mp e;cases e
  exact⟨x,_,e1,_,e2,q⟩
 ·rintro⟨x,C1,e1,aq,e2,q⟩
  exact⟨_,_,C1,by simp[e1,e2],q⟩
theorem gB{i:Nat}{t:T}:wpG (gN i) t C τ QG↔QG (τ.set i (some t)):=by
 unfold wpG gN;constructor
 ·rintro⟨_,e,q⟩;cases e;exact q
 ·exact fun q=>⟨_,rfl,q⟩
theorem wS{is:List Nat}{t:T}:wpG (gU is) t C τ QG↔∃ts,sqT C t=some ts/\ts.length=is.length/\QG (setAll is ts τ):=by
 unfold wpG gU;constructor
 ·rintro⟨_,e,q⟩;obtain⟨ts,e1,e⟩:=aK.mp e;split at e
  ·cases e;exact⟨ts,e1,‹_›,q⟩
  ·cases e
 ·rintro⟨ts,e1,h,q⟩
  exact⟨_,by simp[e1,h],q⟩
theorem xH:wpS (sJ fe fo fi) τ C QS↔wpE fe τ C fun x C1=>wpE fo τ C1 fun y C2=>wpE fi τ C2 fun z C3=>∃k i,y=.cell k/\z=.int i/\∃ts,lc C3 k=some ts/\∃j,ixN ts.length i=some j/\QS .nx τ (C3.set k (.l,ts.set j x)):=by
 unfold wpE wpS sJ;constructor
 ·rintro⟨l,t,C',e,q⟩;obtain⟨⟨x,C1⟩,e1,e⟩:=aK.mp e;obtain⟨⟨y,C2⟩,e2,e⟩:=aK.mp e;obtain⟨⟨z,C3⟩,e3,e⟩:=aK.mp e
  refine⟨x,C1,e1,y,C2,e2,z,C3,e3,?_⟩
  dsimp only at e;split at e
  ·obtain⟨ts,e4,e⟩:=aK.mp e;obtain⟨j,e5,e⟩:=aL.mp e;cases e
   exact⟨_,_,rfl,rfl,ts,e4,j,e5,q⟩
  ·cases e
 ·rintro⟨x,C1,e1,y,C2,e2,z,C3,e3,k,i,rfl,rfl,ts,e4,j,e5,q⟩
  exact⟨_,_,_,by simp[e1,e2,e3,e4,e5],q⟩
theorem o9{g:List T->List T->Option (List T)}:wpS (aFy a fa g) τ C QS↔wpE a τ C fun x C1=>wpA fa τ C1 fun xs C2=>∃k,x=.cell k/\(lc C1 k).isSome=true/\∃ts,lc C2 k=some ts/\wpL (g ts xs) fun us=>QS .nx τ (C2.set k (.l,us)):=by
 unfold wpE wpA wpS aFy wpL;constructor
 ·rintro⟨l,t,C',e,q⟩;obtain⟨⟨x,C1⟩,e1,e⟩:=aK.mp e;obtain⟨⟨y,C2⟩,e2,e⟩:=aK.mp e
  refine⟨x,C1,e1,y,C2,e2,?_⟩
  dsimp only at e;split at e
  ·obtain⟨t0,e3,e⟩:=aK.mp e;obtain⟨ts,e4,e⟩:=aK.mp e;obtain⟨j,e5,e⟩:=aL.mp e;cases e
   exact⟨_,rfl,cP.mpr ⟨_,e3⟩,ts,e4,j,e5,q⟩
  ·cases e
 ·rintro⟨x,C1,e1,y,C2,e2,k,rfl,e3,ts,e4,j,e5,q⟩;obtain⟨t0,e3⟩:=cP.mp e3
  exact⟨_,_,_,by simp[e1,e2,e3,e4,e5],q⟩
theorem pQ{ts:List T}{y:T}:wpL (aBN ts [y]) Ql↔ts.length<lim/\Ql (ts++[y]):=by
 unfold wpL aBN;by_cases h:ts.length<lim<;>simp[h]
theorem aJR{ts:List T}{y:T}:wpL (aCy ts [.int i,y]) Ql↔(ts.length<lim/\ -(2^63)<=i/\i<2^63)/\Ql (insAt ts i y):=by
 unfold wpL aCy;by_cases h:ts.length<lim/\ -(2^63)<=i/\i<2^63
 ·simp only[if_pos h,cO.injEq,exists_eq_left',and_iff_right h]
 ·simp only[if_neg h,reduceCtorEq,false_and,exists_false]
  exact⟨False.elim,fun(z:_/\_)=>h z.1⟩
theorem aLN{g:FG}(I:Nat->TSt->Sto->Prop){ts:List T}(h0:I 0 τ C)
 (hs:∀i t τ C,ts[i]?=some t->I i τ C->wpG g t C τ fun aq=>wpS F aq C fun l ap C2=>match l with
  | .nx=>P C2/\I (i+1) ap C2
  | .ct=>P C2/\I (i+1) ap C2
  | .bk=>QS .nx ap C2
  | .rt v=>QS (.rt v) ap C2
  | .ex v=>QS (.ex v) ap C2)
 (hq:∀τ C,I ts.length τ C->QS .nx τ C):wpS (kR P g F ts) τ C QS:=by
 induction ts generalizing τ C I with
 |nil=>exact⟨.nx,τ,C,by simp[kR],hq _ _ h0⟩
 |cons t ts ih=>
  obtain⟨aq,e1,l,ap,C2,e2,h2⟩:=hs 0 t τ C rfl h0;have go:P C2/\I 1 ap C2->wpS (kR P g F ts) ap C2 QS:=fun h=>ih (fun i=>I (i+1)) h.2 (fun i t τ C e h=>hs (i+1) t τ C e h) (fun τ C h=>hq τ C h)
  cases l with
  |nx=>
   obtain⟨l,t',C',e,q⟩:=go h2
   exact⟨l,t',C',by simp[kR,e1,e2,h2.1,e],q⟩
  |ct=>
   obtain⟨l,t',C',e,q⟩:=go h2
   exact⟨l,t',C',by simp[kR,e1,e2,h2.1,e],q⟩
  |bk=>exact⟨.nx,ap,C2,by simp[kR,e1,e2],h2⟩
  |rt v=>exact⟨.rt v,ap,C2,by simp[kR,e1,e2],h2⟩
  |ex v=>exact⟨.ex v,ap,C2,by simp[kR,e1,e2],h2⟩
theorem nK{g:FG}:wpS (oR a g F) τ C QS↔wpE a τ C fun t C1=>∃ts,liT C1 t=some ts/\wpS (kR (stays t ts) g F ts) τ C1 QS:=by
 unfold wpE wpS oR;constructor
 ·rintro⟨l,t,C',e,q⟩;obtain⟨⟨x,C1⟩,e1,e⟩:=aK.mp e;obtain⟨ts,e2,e⟩:=aK.mp e
  exact⟨x,C1,e1,ts,e2,l,t,C',e,q⟩
 ·rintro⟨x,C1,e1,ts,e2,l,t,C',e,q⟩
  exact⟨l,t,C',by simp[e1,e2,e],q⟩
theorem nP{g:FG}:wpS (lD a g F) τ C QS↔wpE a τ C fun t C1=>∃j,t=.int j/\(-(2^62)<=j/\j<2^62)/\wpS (kR (fun _=>True) g F (vH 0 j.toNat)) τ C1 QS:=by
 unfold wpE wpS lD;constructor
 ·rintro⟨l,t,C',e,q⟩;obtain⟨⟨x,C1⟩,e1,e⟩:=aK.mp e;dsimp only at e;split at e
  ·split at e
   ·exact⟨_,C1,e1,_,rfl,‹_›,l,t,C',e,q⟩
   ·cases e
  ·cases e
 ·rintro⟨x,C1,e1,j,rfl,h,l,t,C',e,q⟩
  exact⟨l,t,C',by rw[e1];exact(if_pos h).trans e,q⟩
theorem z6{g:FG}:wpS (pI a b g F) τ C QS↔wpE a τ C fun t C1=>wpE b τ C1 fun u C2=>∃i j,t=.int i/\u=.int j/\(-(2^62)<=i/\i<2^62/\ -(2^62)<=j/\j<2^62)/\wpS (kR (fun _=>True) g F (vH i (j - i).toNat)) τ C2 QS:=by
 unfold wpE wpS pI;constructor
 ·rintro⟨l,t,C',e,q⟩;obtain⟨⟨x,C1⟩,e1,e⟩:=aK.mp e;obtain⟨⟨y,C2⟩,e2,e⟩:=aK.mp e;dsimp only at e;split at e
  ·split at e
   ·exact⟨_,C1,e1,_,C2,e2,_,_,rfl,rfl,‹_›,l,t,C',e,q⟩
   ·cases e
  ·cases e
 ·rintro⟨x,C1,e1,y,C2,e2,i,j,rfl,rfl,h,l,t,C',e,q⟩
  exact⟨l,t,C',by rw[e1];show((b τ C1).bind _)=_;rw[e2];exact(if_pos h).trans e,q⟩
theorem j0{α:Type}{g:FG}{en:α->T}{xs:List α}(I:Nat->TSt->Sto->Prop)(h0:I 0 τ C)
 (hs:∀i x τ C,xs[i]?=some x->I i τ C->wpG g (en x) C τ fun aq=>wpS F aq C fun l ap C2=>match l with
  | .nx=>P C2/\I (i+1) ap C2
  | .ct=>P C2/\I (i+1) ap C2
  | .bk=>QS .nx ap C2
  | .rt v=>QS (.rt v) ap C2
  | .ex v=>QS (.ex v) ap C2)
 (hq:∀τ C,I xs.length τ C->QS .nx τ C):wpS (kR P g F (xs.map en)) τ C QS:=by
 refine aLN I h0 (fun i t τ C e h=>?_) (fun τ C h=>hq τ C (by simpa using h))
 rw[bH]at e;obtain⟨x,ex,rfl⟩:=aL.mp e
 exact hs i x τ C ex h
theorem mO{g:FG}{n:Nat}(I:Nat->TSt->Sto->Prop)(h0:I 0 τ C)
 (hs:∀i τ C,i<n->I i τ C->wpG g (.int (lo+(i:Int))) C τ fun aq=>wpS F aq C fun l ap C2=>match l with
  | .nx=>P C2/\I (i+1) ap C2
  | .ct=>P C2/\I (i+1) ap C2
  | .bk=>QS .nx ap C2
  | .rt v=>QS (.rt v) ap C2
  | .ex v=>QS (.ex v) ap C2)
 (hq:∀τ C,I n τ C->QS .nx τ C):wpS (kR P g F (vH lo n)) τ C QS:=by
 refine j0 I h0 (fun i x τ C e h=>?_) (fun τ C h=>hq τ C (by simpa using h))
 obtain⟨hi,hx⟩:=aR.mp e;rw[eA]at hx;subst hx
 exact hs _ τ C (by simpa using hi) h
theorem jF{k:Nat}{is:List Nat}{g:FG}:wpA (jE a k is g fb fe) τ C QL↔wpE a τ C fun t C1=>∃ts,liT C1 t=some ts/\ts.length<lim/\wpC (j3 g fb fe (scT k is τ) ts C1) QL:=by
 unfold wpE wpA jE wpC;constructor
 ·rintro⟨t,C',e,q⟩;obtain⟨⟨x,C1⟩,e1,e⟩:=aK.mp e;obtain⟨ts,e2,e⟩:=aK.mp e;split at e
  ·exact⟨x,C1,e1,ts,e2,‹_›,t,C',e,q⟩
  ·cases e
 ·rintro⟨x,C1,e1,ts,e2,h,t,C',e,q⟩
  exact⟨t,C',by simp[e1,e2,h,e],q⟩
theorem rX{k:Nat}{is:List Nat}{g:FG}:wpA (lW a k is g fb fe) τ C QL↔wpE a τ C fun t C1=>∃j,t=.int j/\(j<400000/\ -(2^62)<=j)/\wpC (j3 g fb fe (scT k is τ) (vH 0 j.toNat) C1) QL:=by
 unfold wpE wpA lW wpC;constructor
 ·rintro⟨t,C',e,q⟩;obtain⟨⟨x,C1⟩,e1,e⟩:=aK.mp e;dsimp only at e;split at e
  ·split at e
   ·exact⟨_,C1,e1,_,rfl,‹_›,t,C',e,q⟩
   ·cases e
  ·cases e
 ·rintro⟨x,C1,e1,j,rfl,h,t,C',e,q⟩
  exact⟨t,C',by rw[e1];exact(if_pos h).trans e,q⟩
theorem aFU{k:Nat}{is:List Nat}{g:FG}:wpA (tX a b k is g fb fe) τ C QL↔wpE a τ C fun t C1=>wpE b τ C1 fun u C2=>∃ts,liT C2 t=some ts/\∃us,liT C2 u=some us/\(zT ts us).length<lim/\wpC (j3 g fb fe (scT k is τ) (zT ts us) C2) QL:=by
 unfold wpE wpA tX wpC;constructor
 ·rintro⟨t,C',e,q⟩;obtain⟨⟨x,C1⟩,e1,e⟩:=aK.mp e;obtain⟨⟨y,C2⟩,e2,e⟩:=aK.mp e;obtain⟨ts,e3,e⟩:=aK.mp e;obtain⟨us,e4,e⟩:=aK.mp e;split at e
  ·exact⟨x,C1,e1,y,C2,e2,ts,e3,us,e4,‹_›,t,C',e,q⟩
  ·cases e
 ·rintro⟨x,C1,e1,y,C2,e2,ts,e3,us,e4,h,t,C',e,q⟩
  exact⟨t,C',by simp[e1,e2,e3,e4,h,e],q⟩
theorem rH{α:Type}{g:FG}{en:α->T}{xs:List α}(p:α->Bool)(u:α->T)
 (h:∀x∈xs,wpG g (en x) C τ fun aq=>wpB fb aq C fun y C1=>C1=C/\y=p x/\(p x=true->wpE fe aq C fun t C2=>C2=C/\t=u x))
 (hq:QL ((xs.filter p).map u) C):wpC (j3 g fb fe τ (xs.map en) C) QL:=by
 refine⟨_,C,?_,hq⟩
 clear hq;induction xs with
 |nil=>rfl
 |cons x xs ih=>
  obtain⟨aq,e1,y,C1,e2,rfl,rfl,h3⟩:=h x bJ;have ih:=ih fun y hy=>h y (aU _ hy)
  rw[aM];unfold j3;rw[e1,aV,e2,aV];by_cases hp:p x=true
  ·obtain⟨t,C2,e3,rfl,rfl⟩:=h3 hp;rw[if_pos hp,e3,aV,ih,List.filter_cons_of_pos hp,aEv];rfl
  ·rw[if_neg hp,aEv,ih,List.filter_cons_of_neg hp]
theorem iH{α:Type}{g:FG}{en:α->T}{xs:List α}(u:α->T)
 (h:∀x∈xs,wpG g (en x) C τ fun aq=>wpE fe aq C fun t C2=>C2=C/\t=u x)
 (hq:QL (xs.map u) C):wpC (j3 g iB fe τ (xs.map en) C) QL:=
 rH (fun _=>true) u (fun x hx=>let ⟨aq,e,q⟩:=h x hx;⟨aq,e,true,C,rfl,rfl,rfl,fun _=>q⟩) (by rw[List.filter_eq_self.mpr (fun _ _=>rfl)];exact hq)
theorem xM{n:Nat}:vH lo n=(bK n).map fun(i:Nat)=>T.int (lo+(i:Int)):=rfl
theorem aGr{α β:Type}{f:α->T}{g:β->T}{xs:List α}{ys:List β}:zT (xs.map f) (ys.map g)=(xs.zip ys).map fun p=>.tup [f p.1,g p.2]:=by
 unfold zT;rw[List.zip_map,b6];rfl
theorem iW{B:FS}{m:Nat}{ts:List T}{t:T}(h:wpS B (st0 m ts) [] fun l τ C=>match l with
 | .rt r=>dr 3 C r=some t
 | .nx=>t=.non
 |_=>False):iX B m ts=some t:=by
 obtain⟨l,τ,C,e,q⟩:=h;unfold iX;rw[e];cases l with
 |nx=>cases q;rfl
 |rt r=>exact q
 |_=>exact q.elim
end
variable{i j:Int}{c:Nat}
theorem fU{α:Type}{o:Option α}{y:α}{p:α->Prop}(e:o=some y):(∃x,o=some x/\p x)↔p y:=by
 constructor
 ·rintro⟨x,e',h⟩;rw[e]at e';cases e'
  exact h
 ·exact fun h=>⟨y,e,h⟩
def Bt(k:Nat)(n:Int):Prop:=n.natAbs<2^k
theorem Bt.bits{n:Int}{k:Nat}(h:Bt k n):Builtin.Int.intBits n<=k:=by
 unfold Builtin.Int.intBits;unfold Bt at h;by_cases z:n=0
 ·subst z;exact cV _
 ·have:(n==0)=false:=by simpa using z
  rw[this];have:=(aP4 (by lia)).mpr h;simp
  lia
theorem Bt.mono{n:Int}{k m:Nat}(h:Bt k n)(hm:k<=m):Bt m n:=bN h (dY (by decide) hm)
theorem Bt.of_lt{x:Int}{k:Nat}(h1:0<=x)(h2:x<2^k):Bt k x:=by
 unfold Bt;have:((x.natAbs:Nat):Int)<((2^k:Nat):Int):=by
  rw[aPf h1];simpa using h2
 exact aPS.mp this
theorem yN{m n:Nat}(h1:Bt m i)(h2:Bt n j)(h:m+n<=134217728):jG i j=true:=by
 have h1:=h1.bits;have h2:=h2.bits;have h':Builtin.Int.intTooBig (Builtin.Int.intBits i+Builtin.Int.intBits j)=false:=by
  unfold Builtin.Int.intTooBig bitsLine
  exact decide_eq_false (by lia)
 unfold jG;rw[h'];simp
theorem gH(h1:Bt 64 i):jG i j=true:=by
 have:=h1.bits;unfold jG shortFactorBits;rw[show decide (Builtin.Int.intBits i>64)=false from decide_eq_false (by lia)];simp
theorem gR(h1:Bt 64 j):jG i j=true:=by
 have:=h1.bits;unfold jG shortFactorBits;rw[show decide (Builtin.Int.intBits j>64)=false from decide_eq_false (by lia)];simp
theorem Bt.mod{x m:Int}{k:Nat}(h1:0<m)(h2:m<=2^k):Bt k (x%m):=
 .of_lt (aO9 _ (by lia)) (aOL (aOM _ h1) h2)
theorem aGy{n:Nat}(h0:0<=i)(h:i<n):ixN n i=some i.toNat:=by
 unfold ixN;rw[if_pos h0,if_pos h]
theorem qH{α:Type}{xs:List α}(h0:0<=i):atI xs i=xs[i.toNat]?:=by
 unfold atI ixN;rw[if_pos h0];by_cases h:i<xs.length
 ·rw[if_pos h];rfl
 ·rw[if_neg h,dG (by lia)];rfl
theorem qS{α:Type}{xs:List α}{j:Nat}:atI xs (j:Int)=xs[j]?:=qH (by lia)
theorem aKT{α:Type}{x:α}{xs:List α}:atI (x::xs) 0=some x:=by rw[qH (by decide)];rfl
theorem aLe{α:Type}{x y:α}{xs:List α}:atI (x::y::xs) 1=some y:=by rw[qH (by decide)];rfl
theorem aNA{α:Type}{x y z:α}{xs:List α}:atI (x::y::z::xs) 2=some z:=by rw[qH (by decide)];rfl
theorem aAN{x y:Int}:atI [T.int x,T.int y] (i%2)=some (.int (if i%2=0 then x else y)):=by
 rcases(by lia:i%2=0\/i%2=1)with h|h<;>rw[h]<;>rfl
theorem gT:CFs []=true:=by unfold CFs;rfl
theorem fQ{t:T}{ts:List T}:CFs (t::ts)=(CF t&&CFs ts):=by rw[CFs]
theorem gD:CF (.int i)=true:=by unfold CF;rfl
theorem l6{i:Bool}:CF (.bl i)=true:=by unfold CF;rfl
theorem gK{ts:List T}:CF (.lst ts)=CFs ts:=by rw[CF]
theorem lF{ts:List T}:CF (.tup ts)=CFs ts:=by rw[CF]
theorem aKp:CF (.cell c)=false:=by unfold CF;rfl
theorem tJ{α:Type}{f:α->T}{xs:List α}(h:∀x∈xs,CF (f x)=true):CFs (xs.map f)=true:=aBc.mpr fun t ht=>by
 obtain⟨x,hx,rfl⟩:=bM.mp ht
 exact h x hx
theorem iM{ns:List Int}:CFs (ns.map T.int)=true:=tJ fun _ _=>gD
theorem iD{t:T}{n:Nat}{C:Sto}(h:CF t=true):dr n C t=some t:=by
 cases n with
 |zero=>unfold dr;rw[if_pos h]
 |succ n=>
  cases t with
  |cell c=>rw[aKp]at h;cases h
  |lst ts=>unfold dr;rw[gK]at h;rw[if_pos h]
  |tup ts=>unfold dr;rw[lF]at h;rw[if_pos h]
  |_=>unfold dr;rw[if_pos h]
theorem aKM{f:T->Option T}{ts:List T}(h:∀t∈ts,f t=some t):mapO f ts=some ts:=by
 induction ts with
 |nil=>rfl
 |cons t ts ih=>unfold mapO;rw[h t bJ,aV,ih fun u hu=>h u (aU _ hu)];rfl
theorem aBp{ts:List T}{n:Nat}{C:Sto}(h:CFs ts=true):mapO (dr n C) ts=some ts:=aKM fun t ht=>iD (aBc.mp h t ht)
theorem v5{n:Nat}{C:Sto}{ts:List T}(e:lc C c=some ts)(h:CFs ts=true):dr (n+1) C (.cell c)=some (.lst ts):=by
 unfold dr;rw[e,aV,aBp h];rfl
theorem qE{f:T->Option T}:mapO f []=some []:=rfl
theorem iI{f:T->Option T}{t u:T}{ts us:List T}(h:f t=some u)(hs:mapO f ts=some us):mapO f (t::ts)=some (u::us):=by
 unfold mapO;rw[h,aV,hs];rfl
theorem aIG{e:T->T->Option Bool}{ts:List T}(h:∀t∈ts,e t t=some true):eqL e ts ts=some true:=by
 induction ts with
 |nil=>rfl
 |cons t ts ih=>unfold eqL;rw[h t bJ,aV,ih fun u hu=>h u (aU _ hu)];rfl
theorem aKJ{n:Nat}:eqT n (.int i) (.int j)=some (i==j):=by cases n<;>rfl
theorem aAU{n:Nat}{ts:List T}(h:∀t∈ts,eqT n t t=some true):eqT (n+1) (.lst ts) (.lst ts)=some true:=by
 unfold eqT;rw[if_pos rfl];exact aIG h
theorem lT{α:Type}{xs:List α}{f:α->Int}:ints? (xs.map fun x=>T.int (f x))=some (xs.map f):=by
 rw[show(xs.map fun x=>T.int (f x))=(xs.map f).map T.int by simp];exact t8 _
theorem aIU{α:Type}{xs:List α}{f:α->Bool}:bls? (xs.map fun x=>T.bl (f x))=some (xs.map f):=by
 rw[show(xs.map fun x=>T.bl (f x))=(xs.map f).map T.bl by simp];exact aH8 _
theorem aC9{α:Type}{f:α->T}{xs:List α}{j:Nat}{x:α}:(xs.map f).set j (f x)=(xs.set j x).map f:=by rw[aPU]
theorem aHS{n:Nat}(h:n<=1000):n<lim:=by unfold lim;lia
section
variable {τ:TSt}{C:Sto}{a b c f fe fo fi:FE}{fa fr fn:FN}{fb ga gb:FB}{F G:FS}{lo hi:FO}
variable {Q:T->Sto->Prop}{QL:List T->Sto->Prop}{QB:Bool->Sto->Prop}{QS:Fl->TSt->Sto->Prop}{QG:TSt->Prop}{Ql:List T->Prop}{QO:Option Int->Sto->Prop}
variable{l h:Option Int}{p:Int×Int×Int}{ns:List (Int×Int)}{u:T}
def wpP(f:FO)(τ:TSt)(C:Sto)(Q:Option Int->Sto->Prop):Prop:=∃o C',f τ C=some (o,C')/\Q o C'
theorem aDm:wpP mT τ C QO↔QO none C:=by
 unfold wpP mT;constructor
 ·rintro⟨_,_,e,q⟩;cases e;exact q
 ·exact fun q=>⟨_,_,rfl,q⟩
theorem yD:wpP (qW a) τ C QO↔wpE a τ C fun t C1=>∃i,t=.int i/\QO (some i) C1:=by
 unfold wpP wpE qW;constructor
 ·rintro⟨t,C',e,q⟩;obtain⟨⟨x,C1⟩,e1,e⟩:=aK.mp e;dsimp only at e;split at e
  ·cases e;exact⟨_,_,e1,_,rfl,q⟩
  ·cases e
 ·rintro⟨x,C1,e1,y,rfl,q⟩
  exact⟨some y,C1,by simp[e1],q⟩
theorem aDT:wpA (fSl a lo hi) τ C QL↔wpE a τ C fun t C1=>wpP lo τ C1 fun l C2=>wpP hi τ C2 fun h C3=>∃ts,liT C3 t=some ts/\QL (aAY ts l h) C3:=by
 unfold wpA wpE wpP fSl;constructor
 ·rintro⟨t,C',e,q⟩;obtain⟨⟨x,C1⟩,e1,e⟩:=aK.mp e;obtain⟨⟨y,C2⟩,e2,e⟩:=aK.mp e;obtain⟨⟨z,C3⟩,e3,e⟩:=aK.mp e;obtain⟨ts,e4,e⟩:=aL.mp e;cases e
  exact⟨x,C1,e1,y,C2,e2,z,_,e3,ts,e4,q⟩
 ·rintro⟨x,C1,e1,y,C2,e2,z,C3,e3,ts,e4,q⟩
  exact⟨_,C3,by simp[e1,e2,e3,e4],q⟩
def yL{α:Type}(xs:List α)(lo hi:Option Int):List α:=(xs.drop (HT.sIx xs.length 0 lo)).take (HT.sIx xs.length xs.length hi - HT.sIx xs.length 0 lo)
theorem yX{α:Type}{f:α->T}{xs:List α}:aAY (xs.map f) l h=(yL xs l h).map f:=by
 unfold aAY yL;simp[aPN,aPO]
theorem aGU{α:Type}{xs:List α}{x:α}(m:x∈yL xs l h):x∈xs:=List.mem_of_mem_drop (List.mem_of_mem_take m)
theorem aGc{α:Type}{xs:List α}:(yL xs l h).length<=xs.length:=by
 unfold yL;simp;lia
theorem aFm{α:Type}{xs:List α}{k:Int}(hk:0<=k):yL xs (some k) none=xs.drop k.toNat:=by
 unfold yL;have e:HT.sIx xs.length 0 (some k)=min k.toNat xs.length:=by
  show(if k<0 then(k+(xs.length:Int)).toNat else min k.toNat xs.length)=_;rw[if_neg (by lia)]
 rw[e,HT.aC1];by_cases h:k.toNat<=xs.length
 ·rw[aO8 h,dR (by simp)]
 ·rw[aO0 (by lia),eE (by lia:xs.length<=xs.length),eE (by lia:xs.length<=k.toNat)];simp
theorem aEE{α:Type}{xs:List α}{k:Int}(hk:0<=k):yL xs none (some k)=xs.take k.toNat:=by
 unfold yL;have e:HT.sIx xs.length xs.length (some k)=min k.toNat xs.length:=by
  show(if k<0 then(k+(xs.length:Int)).toNat else min k.toNat xs.length)=_;rw[if_neg (by lia)]
 rw[e,HT.aC1,aPK,aPV];by_cases h:k.toNat<=xs.length
 ·rw[aO8 h]
 ·rw[aO0 (by lia),dR (bD _),dR (by lia)]
noncomputable def pT(p:Int×Int):T:=.lst [.int p.1,.int p.2]
noncomputable def w3(p:Int×Int×Int):T:=.lst [.int p.1,.int p.2.1,.int p.2.2]
noncomputable def iT(ns:List Int):T:=.lst (ns.map T.int)
theorem aG6{p:Int×Int}:CF (pT p)=true:=by simp[pT,gK,fQ,gT,gD]
theorem aLa:CF (w3 p)=true:=by simp[w3,gK,fQ,gT,gD]
theorem aKV{ns:List Int}:CF (iT ns)=true:=by rw[iT,gK];exact iM
theorem lU{ps:List (Int×Int)}:CFs (ps.map pT)=true:=tJ fun _ _=>aG6
theorem r9{ps:List (Int×Int×Int)}:CFs (ps.map w3)=true:=tJ fun _ _=>aLa
theorem aIf{ps:List (List Int)}:CFs (ps.map iT)=true:=tJ fun _ _=>aKV
theorem aEy{α:Type}[DecidableEq α]{e:T->T->Option Bool}{f:α->T}(h:∀x y,e (f x) (f y)=some (decide (x=y))):∀{xs ys:List α},xs.length=ys.length->eqL e (xs.map f) (ys.map f)=some (decide (xs=ys))
 | [],[],_=>rfl
 |x::xs,y::ys,hl=>by
  rw[aM,aM];unfold eqL;rw[h,aV,aEy h (by simpa using hl)];simp only[aOA,aPC.injEq,Bool.decide_and]
theorem rD{α:Type}[DecidableEq α]{n:Nat}{f:α->T}(h:∀x y,eqT n (f x) (f y)=some (decide (x=y))){xs ys:List α}:eqT (n+1) (.lst (xs.map f)) (.lst (ys.map f))=some (decide (xs=ys)):=by
 unfold eqT;by_cases hl:xs.length=ys.length
 ·rw[if_pos (by simpa using hl),aEy h hl]
 ·rw[if_neg (by simpa using hl),decide_eq_false (fun z=>hl (by rw[z]))]
theorem o6{n:Nat}{i j:Int}:eqT n (.int i) (.int j)=some (decide (i=j)):=by rw[aKJ];congr 1
theorem aGW{n:Nat}{p q:Int×Int}:eqT (n+1) (pT p) (pT q)=some (decide (p=q)):=by
 have:=rD (n:=n) (f:=T.int) (fun x y=>o6) (xs:=[p.1,p.2]) (ys:=[q.1,q.2]);obtain⟨a,b⟩:=p;obtain⟨c,d⟩:=q;simp only[aM,bC]at this;unfold pT;rw[this];simp
theorem aLs{n:Nat}{q:Int×Int×Int}:eqT (n+1) (w3 p) (w3 q)=some (decide (p=q)):=by
 have:=rD (n:=n) (f:=T.int) (fun x y=>o6) (xs:=[p.1,p.2.1,p.2.2]) (ys:=[q.1,q.2.1,q.2.2]);obtain⟨a,b,e⟩:=p;obtain⟨c,d,f⟩:=q;simp only[aM,bC]at this;unfold w3;rw[this];simp
theorem aGL{n:Nat}{p q:List Int}:eqT (n+1) (iT p) (iT q)=some (decide (p=q)):=rD fun x y=>o6
theorem aEl{α:Type}[DecidableEq α]{e:T->T->Option Bool}{f:α->T}(h:∀x y,e (f x) (f y)=some (decide (x=y))){y:α}:∀{xs:List α},inL (fun u=>e u (f y)) (xs.map f)=some (decide (y∈xs))
 | []=>rfl
 |x::xs=>by
  rw[aM];unfold inL;rw[h,aV,aEl h];simp only[aOA,cO.injEq,bE,Bool.decide_or];congr 1;by_cases z:x=y
  ·simp[z]
  ·simp[z,show¬y=x from fun q=>z q.symm]
theorem aEo{α:Type}[DecidableEq α]{n:Bool}{f:α->T}{y:α}{xs:List α}[Decidable (y∈xs)]{t:T}(h:∀x y,eqT 5 (f x) (f y)=some (decide (x=y)))(hc:∀x,CF (f x)=true)(ht:dr 3 C t=some (f y))(hu:liT C u=some (xs.map f)):
 wpO (gIn n t u C) Q↔Q (.bl (if n then !decide (y∈xs)else decide (y∈xs))) C:=by
 rw[aMm,fU ht,fU hu,fU (aBp (tJ fun x _=>hc x)),fU ((aEl h).trans (congrArg some (decide_eq_decide.mpr aOU)))]
theorem vU{α:Type}[DecidableEq α]{n:Bool}{f:α->T}{x y:α}{t:T}(h:∀x y,eqT 5 (f x) (f y)=some (decide (x=y)))(ht:dr 3 C t=some (f x))(hu:dr 3 C u=some (f y)):
 wpO (gEq n t u C) Q↔Q (.bl (if n then !decide (x=y)else decide (x=y))) C:=by
 rw[aH0,fU ht,fU hu,fU (h x y)]
theorem wF{i j:Int}:wpO (gEq false (.int i) (.int j) C) Q↔Q (.bl (decide (i=j))) C:=vU (f:=T.int) (fun _ _=>o6) (iD gD) (iD gD)
theorem sI{i j:Int}:wpO (gEq true (.int i) (.int j) C) Q↔Q (.bl (!decide (i=j))) C:=vU (f:=T.int) (fun _ _=>o6) (iD gD) (iD gD)
theorem aEL{n:Bool}{i:Int}{ns:List Int}(h:liT C u=some (ns.map T.int)):wpO (gIn n (.int i) u C) Q↔Q (.bl (if n then !decide (i∈ns)else decide (i∈ns))) C:=aEo (f:=T.int) (fun _ _=>o6) (fun _=>gD) (iD gD) h
theorem aKC{n:Bool}{i j:Int}(h:liT C u=some (ns.map pT)):wpO (gIn n (.lst [.int i,.int j]) u C) Q↔Q (.bl (if n then !decide ((i,j)∈ns)else decide ((i,j)∈ns))) C:=
 aEo (f:=pT) (y:=(i,j)) (fun _ _=>aGW) (fun _=>aG6) (show dr 3 C (.lst [.int i,.int j])=some (pT (i,j))from iD (aG6 (p:=(i,j)))) h
theorem aCW{n:Bool}{i:Int}{ns:List Int}:wpO (gIn n (.int i) (.lst (ns.map T.int)) C) Q↔Q (.bl (if n then !decide (i∈ns)else decide (i∈ns))) C:=aEL rfl
theorem aCe{n:Bool}{i j:Int}:wpO (gIn n (.lst [.int i,.int j]) (.lst (ns.map pT)) C) Q↔Q (.bl (if n then !decide ((i,j)∈ns)else decide ((i,j)∈ns))) C:=aKC rfl
theorem aNG{x y:Bool}:(if false=true then x else y)=y:=rfl
theorem aNR{x y:Bool}:(if true=true then x else y)=x:=rfl
instance{k:Nat}{n:Int}:Decidable (Bt k n):=by unfold Bt;infer_instance
theorem Bt.sml{k:Nat}{n:Int}(h0:0<=n)(h:n<1024)(hk:10<=k):Bt k n:=(Bt.of_lt (k:=10) h0 h).mono hk
theorem aIq{t:T}{d:Int}:wpO (aCJ t (.int d) C) Q↔∃us,liT C t=some us/\∃ns,ints? us=some ns/\Q (.int (lI d ns)) C:=by
 unfold wpO aCJ;constructor
 ·rintro⟨t,C',e,q⟩;obtain⟨us,e1,e⟩:=aK.mp e;obtain⟨ns,e2,e⟩:=aL.mp e;cases e
  exact⟨us,e1,ns,e2,q⟩
 ·rintro⟨us,e1,ns,e2,q⟩
  exact⟨_,C,by simp[e1,e2],q⟩
theorem aJ4{ts:List T}:liT C (.lst ts)=some ts:=rfl
theorem aKd{ts:List T}:lc ((.l,ts)::C) 0=some ts:=rfl
theorem aIP{x:Cl}{n:Nat}:lc (x::C) (n+1)=lc C n:=rfl
theorem aH1{c:Nat}:liT C (.cell c)=lc C c:=rfl
theorem aKj{ts:List T}:sqT C (.lst ts)=some ts:=rfl
theorem aHe{c:Nat}:sqT C (.cell c)=lc C c:=rfl
theorem aKB{ts:List T}:sqT C (.tup ts)=some ts:=rfl
theorem aMz{p:Int×Int}:sqT C (pT p)=some [.int p.1,.int p.2]:=rfl
theorem aLg:sqT C (w3 p)=some [.int p.1,.int p.2.1,.int p.2.2]:=rfl
theorem aLY{p:List Int}:sqT C (iT p)=some (p.map T.int):=rfl
theorem aMO{p:List Int}:liT C (iT p)=some (p.map T.int):=rfl
theorem aLm{p:Int×Int}:liT C (pT p)=some [.int p.1,.int p.2]:=rfl
theorem aMq:liT C (w3 p)=some [.int p.1,.int p.2.1,.int p.2.2]:=rfl
def frzQ(Q:Fl->TSt->Sto->Prop)(l:Fl)(τ:TSt)(C:Sto):Prop:=match l with
 | .nx=>∃ap,frz C τ=some ap/\Q .nx ap []
 |l=>Q l τ C
theorem aIT:frzQ QS .nx τ C↔∃ap,frz C τ=some ap/\QS .nx ap []:=aOU
theorem aKb{t:T}:frzQ QS (.rt t) τ C↔QS (.rt t) τ C:=aOU
theorem aHO{b:Bool}:aKu C (.bl b)=some b:=rfl
theorem aEi{α:Type}{f:α->T}{xs:List α}:aKu C (.lst (xs.map f))=some (!xs.isEmpty):=by
 show some (!(xs.map f).isEmpty)=_;rw[List.isEmpty_map]
end
variable{β:Type}{ps:List (Int×Int)}
theorem lA{B:FS}{m:Nat}{ts:List T}{P:T->Prop}(h:wpS B (st0 m ts) [] fun l τ C=>match l with
 | .rt r=>∃t,dr 3 C r=some t/\P t
 | .nx=>P .non
 |_=>False):∃t,iX B m ts=some t/\P t:=by
 obtain⟨l,τ,C,e,q⟩:=h;unfold iX;rw[e];cases l with
 |nx=>exact⟨_,rfl,q⟩
 |rt r=>exact q
 |_=>exact q.elim
theorem xF{α:Type}{xs:List α}{i:Int}{y:α}:(insAt xs i y).length=xs.length+1:=by
 unfold insAt;rw[bB,aN,d8,aOY]
 lia
theorem uD{α:Type}{f:α->β}{xs:List α}{i:Int}{y:α}:insAt (xs.map f) i (f y)=(insAt xs i y).map f:=by
 unfold insAt;simp[aPO,aPN]
theorem u7{α:Type}{xs:List α}{i:Int}{y:α}:(insAt xs i y).Perm (y::xs):=by
 unfold insAt
 refine List.perm_middle.trans ?_
 rw[List.take_append_drop]
theorem wC{α:Type}{f:α->β}{xs:List α}{i:Int}:atI (xs.map f) i=(atI xs i).map f:=by
 unfold atI;rw[aS];cases ixN xs.length i<;>simp
theorem aL8{α:Type}{xs:List α}{i:Int}(h0:0<=i)(h:i<xs.length):atI xs i=some (xs[i.toNat]'(by lia)):=by
 rw[qH h0,bA (by lia)]
theorem iO{x m:Int}(h:0<m):0<=x%m/\x%m<m:=⟨aO9 _ (by lia),aOM _ h⟩
theorem gW{x y:Int}(h0:0<=x)(h:x<1024):jG x y=true:=gH (Bt.sml h0 h (by decide))
theorem hW{x y:Int}(h0:0<=y)(h:y<1024):jG x y=true:=gR (Bt.sml h0 h (by decide))
theorem kX{p:Prop}[Decidable p](h:p):decide p=true:=decide_eq_true h
theorem aHs{n c:Nat}{C:Sto}(e:lc C c=some (ps.map pT)):dr (n+1) C (.cell c)=some (.lst (ps.map pT)):=v5 e lU
theorem oY{n c:Nat}{C:Sto}{ps:List Int}(e:lc C c=some (ps.map T.int)):dr (n+1) C (.cell c)=some (.lst (ps.map T.int)):=v5 e iM
theorem u5{ns:List Int}{i:Int}(h0:0<=i)(h:i<ns.length):atI (ns.map T.int) i=some (.int (ns[i.toNat]'(by lia))):=by rw[wC,aL8 h0 h];rfl
theorem aIN{a b:Int}:ps.map pT++[.lst [.int a,.int b]]=(ps++[(a,b)]).map pT:=by rw[bQ];rfl
theorem aIA{ps:List Int}{a:Int}:ps.map T.int++[.int a]=(ps++[a]).map T.int:=by rw[bQ];rfl
theorem aIS{n:Nat}{C:Sto}{vs:List Int}:dr n C (.lst (vs.map T.int))=some (.lst (vs.map T.int)):=iD (by rw[gK];exact iM)
theorem aC2{n:Bool}{xs ys:List Int}{C:Sto}{Q:T->Sto->Prop}:wpO (gEq n (.lst (xs.map T.int)) (.lst (ys.map T.int)) C) Q↔Q (.bl (if n then !decide (xs=ys)else decide (xs=ys))) C:=vU (f:=iT) (fun _ _=>aGL) aIS aIS
theorem wP:∀{ns:List Int},ns≠[]->aBD ns∈ns/\∀a∈ns,a<=aBD ns:=by
 have key:∀(ns:List Int)(n:Int),(ns.foldl (fun a b=>if b>a then b else a) n=n\/ns.foldl (fun a b=>if b>a then b else a) n∈ns)/\n<=ns.foldl (fun a b=>if b>a then b else a) n/\∀a∈ns,a<=ns.foldl (fun a b=>if b>a then b else a) n:=by
  intro ns;induction ns with
  |nil=>intro n;simp
  |cons m ns ih=>
   intro n;rw[aOz];obtain⟨h1,h2,h3⟩:=ih (if m>n then m else n);by_cases hm:m>n
   ·rw[if_pos hm]at h1 h2 h3|-
    refine⟨?_,by lia,fun a ha=>?_⟩
    ·rcases h1 with h1|h1
     ·rw[h1];simp
     ·exact .inr (aU _ h1)
    ·rcases bE.mp ha with rfl|ha
     ·exact h2
     ·exact h3 a ha
   ·rw[if_neg hm]at h1 h2 h3|-
    refine⟨?_,h2,fun a ha=>?_⟩
    ·rcases h1 with h1|h1
     ·exact .inl h1
     ·exact .inr (aU _ h1)
    ·rcases bE.mp ha with rfl|ha
     ·lia
     ·exact h3 a ha
 intro ns ay;cases ns with
 |nil=>exact absurd rfl ay
 |cons n ns=>
  obtain⟨h1,h2,h3⟩:=key ns n
  refine⟨?_,fun a ha=>?_⟩
  ·rcases h1 with h1|h1
   ·show aPn (fun a b=>if b>a then b else a) n ns∈n::ns;rw[h1];simp
   ·exact aU _ h1
  ·rcases bE.mp ha with rfl|ha
   ·exact h2
   ·exact h3 a ha
end TL
section
open PySem L2 TL
local macro_rules
 | `(tactic|simp_arith[$xs,*])=>do
   let xs:Lean.TSyntaxArray [`Lean.Parser.Tactic.simpStar,`Lean.Parser.Tactic.simpErase,`Lean.Parser.Tactic.simpLemma]:=xs
   `(tactic|simp (maxSteps:=2000000) (disch:=first|assumption|decide) only[↓aIT,↓aKb,↓aMz,↓aLg,↓aLY,↓aMO,↓aLm,↓aMq,↓aIq,if_true,if_false,Bool.false_eq_true,↓aC2,↓aCW,↓aCe,aNG,aNR,↓aDm,↓yD,↓aDT,↓wF,↓sI,↓e9,↓gL,↓fK,↓aDG,↓tD,↓fH,↓fB,↓fV,↓tL,↓hV,↓gA,↓jN,↓jH,↓oX,↓mZ,↓kQ,↓lP,↓wT,↓vZ,↓lQ,↓aJK,↓wM,↓aBL,↓aAc,↓aI2,↓tK,↓g8,↓jO,↓wJ,↓m7,↓kG,↓aJ0,↓aJa,↓aJv,↓aFz,↓gY,↓fJ,↓fW,↓aNC,↓aM9,↓aNW,↓aNq,↓mE,↓iJ,↓mW,↓f6,↓gB,↓wS,↓xH,↓o9,↓pQ,↓aJR,↓nK,↓nP,↓z6,↓jF,↓rX,↓aFU,aKd,aIP,Option.isSome_some,List.getElem?_cons_zero,List.getElem?_cons_succ,List.set_cons_zero,List.set_cons_succ,List.length_cons,List.length_nil,List.nil_append,List.cons_append,Option.some.injEq,T.int.injEq,T.bl.injEq,T.lst.injEq,T.cell.injEq,T.tup.injEq,exists_eq_left,exists_eq_left',exists_and_left,setAll,aKj,aHe,aKB,aJ4,aH1,and_true,true_and,Nat.reduceAdd,$xs,*])
namespace Lib
open PySem L2 TL
variable{ns:List Int}{Q:T->Sto->Prop}
noncomputable def m8(ns:List Int)(k:Int):Int:=(ns[k.toNat]?).getD 0
theorem aKD{k:Int}(hk:0<=k):iZ [.lst (ns.map T.int),.int k]=some (.int (m8 ns k)):=by
 apply iW;unfold aAA;walk_at "b";simp_arith[if_true];simp only[aS];unfold m8;by_cases h:k<ns.length
 ·rw[if_pos (by simpa using h)];rw[qH hk,bH,bA (by lia)]
  exact⟨_,rfl,iD gD⟩
 ·rw[if_neg (by simpa using h)];rw[dG (by lia)]
  exact iD gD
theorem nU{k:Int}{C:Sto}(hk:0<=k):wpO (kE 2 iZ [.lst (ns.map T.int),.int k] C) Q↔Q (.int (m8 ns k)) C:=gC (aKD hk) rfl (by walk_at "c")
noncomputable def aBv(m n:Int):Bool:=decide (0<=n/\n<m)
theorem aDO{m n:Int}:lM [.int m,.int n]=some (.bl (aBv m n)):=by
 apply iW;unfold zY aBv;walk_at "b";simp_arith[if_true];by_cases h:0<=n
 ·rw[if_pos (by simpa using h)];rw[iD l6];simp[h]
 ·rw[if_neg (by simpa using h),iD l6];simp[h]
theorem aCK{m n:Int}{C:Sto}:wpO (kE 2 lM [.int m,.int n] C) Q↔Q (.bl (aBv m n)) C:=gC aDO rfl (by walk_at "c")
end Lib
namespace TL
open PySem L2
section
variable {τ:TSt}{C:Sto}{c:FB}{F:FS}{Q:Fl->TSt->Sto->Prop}
theorem aFk{n:Nat}(I:Nat->TSt->Sto->Prop){k:Nat}(hk:k<n)(h0:I k τ C)
 (hs:∀i τ C,i<n->I i τ C->wpB c τ C fun b C1=>if b=true then wpS F τ C1 (fun l ap C2=>match l with
  | .nx=>i+1<n/\I (i+1) ap C2
  | .ct=>i+1<n/\I (i+1) ap C2
  | .bk=>Q .nx ap C2
  | .rt v=>Q (.rt v) ap C2
  | .ex v=>Q (.ex v) ap C2)else Q .nx τ C1):wpS (lN c F (n - k)) τ C Q:=by
 obtain⟨d,hd⟩:∃d,n - k=d:=⟨_,rfl⟩;rw[hd];induction d generalizing k τ C with
 |zero=>lia
 |succ d ih=>
  obtain⟨b,C1,e1,h⟩:=hs k τ C hk h0;cases b with
  |false=>
   rw[if_neg (by simp)]at h
   exact⟨.nx,τ,C1,by unfold lN;rw[e1];rfl,h⟩
  |true=>
   rw[if_pos rfl]at h;obtain⟨l,ap,C2,e2,h⟩:=h;cases l with
   |nx=>
    obtain⟨l,ag,C',e,q⟩:=ih h.1 h.2 (by lia)
    exact⟨l,ag,C',by unfold lN;rw[e1,aV,if_pos rfl,e2,aV];exact e,q⟩
   |ct=>
    obtain⟨l,ag,C',e,q⟩:=ih h.1 h.2 (by lia)
    exact⟨l,ag,C',by unfold lN;rw[e1,aV,if_pos rfl,e2,aV];exact e,q⟩
   |bk=>exact⟨.nx,ap,C2,by unfold lN;rw[e1,aV,if_pos rfl,e2];rfl,h⟩
   |rt v=>exact⟨.rt v,ap,C2,by unfold lN;rw[e1,aV,if_pos rfl,e2];rfl,h⟩
   |ex v=>exact⟨.ex v,ap,C2,by unfold lN;rw[e1,aV,if_pos rfl,e2];rfl,h⟩
theorem aA2{g:FG}{ts:List T}(hg:∀t∈ts,∀C,∃aq,g t C τ=some aq):∀{C:Sto},j3 g iB (i0 (gE fG)) τ ts C=some ((bK ts.length).map (fun i=>T.cell (C.length+i)),C++aX ts.length (.l,[])):=by
 induction ts with
 |nil=>intro C;simp[j3]
 |cons t ts ih=>
  intro C;obtain⟨aq,e⟩:=hg t bJ C;unfold j3;rw[e,aV];show(iB aq C).bind _=_;have e2:i0 (gE fG) aq C=some (.cell C.length,C++[(.l,[])]):=by
   unfold i0 gE vA fG;simp[lim]
  simp only[iB,aV,if_true,e2];rw[ih fun u hu=>hg u (aU _ hu),aKN (aPp _ _)];simp only[aOA,bB,aN,aP,cS];congr 2
  ·rw[aOq,aM,b6];simp only[aPT,aPC.injEq,true_and];apply cR;intro i _;simp only[d3];congr 1;lia
end
end TL
namespace Lib
open PySem L2 TL
variable{ps:List (Int×Int)}{nd:List (List Int)}{told o:List Int}{w:Nat}
def Nd(ps:List (Int×Int))(m:Nat)(nd:List (List Int)):Prop:=nd.length=m/\∀(b:Nat)(l:List Int),nd[b]?=some l->l.length<=ps.length/\∀a,a∈l↔(a,(b:Int))∈ps
def InW(m:Nat)(ps:List (Int×Int)):Prop:=∀p∈ps,(0<=p.1/\p.1<m)/\(0<=p.2/\p.2<m)
theorem aCk{m n:Int}(h:0<=n/\n<m):aBv m n=true:=kX h
theorem uN{m:Nat}(hm:m<=100)(hl:ps.length<=1000)(hw:InW m ps):∃t,gQ [.int m,.lst (ps.map pT)]=some t/\∃nd,t=.lst (nd.map iT)/\Nd ps m nd:=by
 apply lA;unfold qF;walk_at "b";simp_arith[if_true]
 refine⟨by lia,?_⟩
 refine⟨_,_,aA2 (g:=gN 0) (fun t ht C=>⟨_,rfl⟩),?_⟩
 simp only[vH,aS,eU,aZ,aP,aOh,eQ,cN]
 refine j0 (fun i τ C=>∃a b,τ=[some (.int m),some (.lst (ps.map pT)),some (.cell m),a,b]/\∃ls:List (List Int),C=ls.map (fun l=>(Kd.l,l.map T.int))++[(.l,(bK m).map T.cell)]/\ls.length=m/\
  ∀(b:Nat)(l:List Int),ls[b]?=some l->l.length<=i/\∀a,a∈l↔(a,(b:Int))∈ps.take i) ?_ ?_ ?_
 ·refine⟨_,_,rfl,aX m [],by simp,by simp,fun b l e=>?_⟩
  rw[cT]at e;split at e
  ·cases e;simp
  ·cases e
 ·rintro i ⟨x,y⟩ τ C hx ⟨a,b,rfl,ls,rfl,ju,cq⟩;obtain⟨hx1,jr⟩:=hw _ (bF hx);have hi:i<ps.length:=(aR.mp hx).1;simp only at hx1 jr;unfold o7;obtain⟨y,rfl⟩:∃y':Nat,y=y':=⟨_,(b5 jr.1).symm⟩;have oj:y<ls.length:=by lia
  have ec:lc (ls.map (fun l=>(Kd.l,l.map T.int))++[(.l,(bK m).map T.cell)]) m=some ((bK m).map T.cell):=by
   rw[f9];rw[bI (by simp[ju])];simp[ju]
  have ey:lc (ls.map (fun l=>(Kd.l,l.map T.int))++[(.l,(bK m).map T.cell)]) y=some (ls[y].map T.int):=by
   rw[f9];rw[aT (by simpa using oj)];simp[oj]
  have ea:atI ((bK m).map T.cell) (y:Int)=some (.cell y):=by
   rw[qS,bH,dQ (by lia)];rfl
  simp_arith[↓aCK,aHO,aCk hx1,aCk jr,↓fU ec,↓fU ea,↓aEL (show liT _ (T.cell y)=_ from ey),Bool.not_true,Bool.not_false];have next:∀l,(∀c,c∈l↔c∈ls[y]\/c=x)->l.length<=i+1->∀(b:Nat)(l':List Int),(ls.set y l)[b]?=some l'->l'.length<=i+1/\∀a,a∈l'↔(a,(b:Int))∈ps.take (i+1):=by
   intro l kl lz b l' e;have et:∀a,(a,(b:Int))∈ps.take (i+1)↔(a,(b:Int))∈ps.take i\/(a=x/\b=y):=fun a=>by
    rw[List.take_add_one,hx];simp only[aOn,bL,bR,aP7.injEq];constructor
    ·rintro(h| ⟨h1,h2⟩)
     ·exact .inl h
     ·exact .inr ⟨h1,by lia⟩
    ·rintro(h| ⟨h1,h2⟩)
     ·exact .inl h
     ·exact .inr ⟨h1,by lia⟩
   by_cases hb:b=y
   ·subst hb;rw[bO oj]at e;cases e
    refine⟨lz,fun a=>?_⟩
    rw[kl,et,(cq b _ (bA oj)).2];simp
   ·rw[aQ (Ne.symm hb)]at e;obtain⟨h1,h2⟩:=cq b l' e
    refine⟨by lia,fun a=>?_⟩
    rw[et,h2];simp[hb]
  obtain⟨hly,_⟩:=cq y _ (bA oj);split
  ·rw[ey]
   refine⟨rfl,_,rfl,by walk_at "a",trivial,_,_,rfl,ls.set y (ls[y]++[x]),?_,by simpa using ju,next _ (fun c=>by simp) (by simp;lia)⟩
   rw[aIA,aPg _ _ (by simpa using oj),aPU]
  ·rename_i hn;have uv:x∈ls[y]:=by simpa using hn
   refine⟨trivial,_,_,rfl,ls,rfl,ju,fun b l e=>?_⟩
   have:=next ls[y] (fun c=>⟨.inl,fun h=>h.elim id fun h=>by rw[h];exact uv⟩) (by lia) b l
   rw[eT]at this
   exact this e
 ·rintro τ C ⟨a,b,rfl,ls,rfl,ju,cq⟩;simp_arith[if_true]
  refine⟨.lst (ls.map iT),?_,ls,rfl,ju,fun b l e=>?_⟩
  ·unfold dr;rw[show lc (ls.map (fun l=>(Kd.l,l.map T.int))++[(.l,(bK m).map T.cell)]) m=some ((bK m).map T.cell)from by rw[f9,bI (by simp[ju])];simp[ju]];simp only[aV];rw[show mapO (dr 2 (ls.map (fun l=>(Kd.l,l.map T.int))++[(.l,(bK m).map T.cell)])) ((bK m).map T.cell)=some (ls.map iT)from ?_]
   ·rfl
   ·have:∀(k:Nat),k<=m->mapO (dr 2 (ls.map (fun l=>(Kd.l,l.map T.int))++[(.l,(bK m).map T.cell)])) (((bK m).drop (m - k)).map T.cell)=some ((ls.drop (m - k)).map iT):=by
     intro k;induction k with
     |zero=>intro _;rw[aPV,eE (by simp),eE (by lia)];rfl
     |succ k ih=>
      intro hk;have bi:m - (k+1)<m:=by lia
      rw[aOj (by simpa using bi),aOj (by lia:m - (k+1)<ls.length),show m - (k+1)+1=m - k by lia];rw[aM,aM]
      refine iI ?_ (ih (by lia))
      rw[eA]
      refine v5 ?_ iM
      rw[f9];rw[aT (by simp;lia)];simp[ju,bi]
    have:=this m (bD _);simpa using this
  ·have:=cq b l e;rw[dU]at this
   exact this
def Rdy(nd:List (List Int))(told:List Int)(w:Nat):Prop:=(w:Int)∉told/\∀l,nd[w]?=some l->∀a∈l,a∈told
theorem xK(hn:nd.length<=100)(hl:∀l∈nd,l.length<=1000)(hw:w<nd.length)(hr:Rdy nd told w)(cc:∀v<w,¬Rdy nd told v):
 mN [.lst (nd.map iT),.lst (told.map T.int)]=some (.int w):=by
 apply iW;unfold rP;walk_at "b";simp_arith[aS]
 refine⟨by lia,mO (fun i τ C=>C=[]/\∃a,τ=[some (.lst (nd.map iT)),some (.lst (told.map T.int)),a]/\i<=w) ⟨rfl,_,rfl,cV _⟩ ?_ ?_⟩
 ·rintro i τ C hi ⟨rfl,a,rfl,hiw⟩;have eh:i<nd.length:=by lia
  have e1:atI (nd.map iT) (0+(i:Int))=some (iT nd[i]):=by
   rw[eG,qS,bH,bA eh];rfl
  have hli:=hl _ (dB eh);unfold pX;simp_arith[↓fU e1];have fin:∀b:Bool,(b=true↔Rdy nd told i)->if b=true then dr 3 [] (.int (0+(i:Int)))=some (T.int w)else∃a,[some (T.lst (nd.map iT)),some (T.lst (told.map T.int)),some (T.int (0+(i:Int)))]=[some (.lst (nd.map iT)),some (.lst (told.map T.int)),a]/\i+1<=w:=by
   intro b hb;have yj:i<w\/i=w:=by lia
   rcases yj with h|h
   ·rw[if_neg (fun z=>cc i h (hb.mp z))]
    exact⟨_,rfl,h⟩
   ·subst h;rw[if_pos (hb.mpr hr),eG]
    exact iD gD
  by_cases ht:(0+(i:Int))∈told
  ·have h0:=fin false (Iff.intro (fun z=>nomatch z) (fun z=>(z.1 (by simpa using ht)).elim));rw[if_neg (by simp)]at h0;rw[if_neg (by simpa using ht)]
   exact h0
  ·rw[if_pos (by simpa using ht)]
   refine⟨by walk_at "a",iH (fun a=>T.bl (decide (a∈told))) (fun a _=>?_) ?_⟩
   ·simp only[scT,aX,aM,bC,aZ,aW,aY,cM,cU,dS];simp_arith[if_true]
   rw[aIU]
   refine⟨_,rfl,_,aHO,?_⟩
   have h0:=fin (List.all (nd[i].map fun a=>decide (a∈told)) id) (by
    rw[aPR,aOf];constructor
    ·intro h
     refine⟨by simpa using ht,fun l e a ha=>?_⟩
     rw[bA eh]at e;cases e;simpa using h a ha
    ·intro h a ha;simpa using h.2 _ (bA eh) a ha)
   split at h0
   ·rename_i hb;rw[if_pos hb];exact h0
   ·rename_i hb;rw[if_neg hb];exact⟨rfl,h0⟩
 ·rintro τ C ⟨rfl,a,rfl,hiw⟩
  lia
theorem aBO{P:Nat->Prop}(h:∃n,P n):∃n,P n/\∀k<n,¬P k:=by
 obtain⟨n,hn⟩:=h;induction n using Nat.strongRecOn with
 |_ n ih=>
  by_cases hk:∃k,k<n/\P k
  ·obtain⟨k,h1,h2⟩:=hk
   exact ih k h1 h2
  ·exact⟨n,hn,fun k h1 h2=>hk ⟨k,h1,h2⟩⟩
theorem aED:∀(m:Nat)(l:List Int),(∀w:Nat,w<m->(w:Int)∈l)->m<=l.length
 |0,_,_=>cV _
 |m+1,l,h=>by
  have hm:=h m (d7 _);have:=aED m (l.erase m) fun w hw=>(aPh (by lia)).mpr (h w (by lia))
  rw[d4 hm]at this;have:=aO3 hm
  lia
theorem aBe:∀(m:Nat)(l:List Int),l.Nodup->(∀x∈l,0<=x/\x<m)->l.length<=m
 |0,l,_,h=>by
  cases l with
  |nil=>simp
  |cons x l=>have:=h x bJ;lia
 |m+1,l,hn,h=>by
  by_cases hm:(m:Int)∈l
  ·have:=aBe m (l.erase m) (hn.erase _) fun x hx=>by
    have h1:=h x (List.mem_of_mem_erase hx);have h2:x≠m:=fun z=>by subst z;exact(List.Nodup.mem_erase_iff hn).mp hx |>.1 rfl
    lia
   rw[d4 hm]at this
   lia
  ·have:=aBe m l hn fun x hx=>by
    have h1:=h x hx;have h2:x≠m:=fun z=>hm (z ▸ hx)
    lia
   lia
def aDU(ps:List (Int×Int))(told:List Int)(w:Nat):Prop:=(w:Int)∉told/\∀a,(a,(w:Int))∈ps->a∈told
theorem Nd.rdy{m:Nat}(h:Nd ps m nd)(hw:w<m):Rdy nd told w↔aDU ps told w:=by
 have ii:w<nd.length:=by rw[h.1];exact hw
 have e:=bA ii;obtain⟨_,h2⟩:=h.2 w _ e;constructor
 ·rintro⟨h3,h4⟩
  exact⟨h3,fun a ha=>h4 _ e a ((h2 a).mpr ha)⟩
 ·rintro⟨h3,h4⟩
  refine⟨h3,fun l e' a ha=>?_⟩
  rw[e]at e';cases e'
  exact h4 a ((h2 a).mp ha)
def Acy(ps:List (Int×Int)):Prop:=∃r:Int->Nat,∀p∈ps,r p.1<r p.2
theorem aLS{m:Nat}(hw:InW m ps)(hr:Acy ps)(hl:told.length<m):∃w,w<m/\aDU ps told w:=by
 obtain⟨r,hr⟩:=hr;have hex:∃w:Nat,w<m/\(w:Int)∉told:=cX fun hn=>by
  have:=aED m told fun w hw=>cX fun hc=>hn ⟨w,hw,hc⟩
  lia
 obtain⟨k,⟨w,h1,h2,h3⟩,cc⟩:=aBO (P:=fun k=>∃w:Nat,w<m/\(w:Int)∉told/\r w=k) (by obtain⟨w,h1,h2⟩:=hex;exact⟨r w,w,h1,h2,rfl⟩)
 refine⟨w,h1,h2,fun a ha=>cX fun hc=>?_⟩
 have h4:=(hw _ ha).1;have h5:=hr _ ha;simp only at h4 h5
 refine cc (r a) (by lia) ⟨a.toNat,by lia,?_,?_⟩
 ·rw[b5 h4.1];exact hc
 ·rw[b5 h4.1]
def aDB(ps:List (Int×Int))(m:Nat)(o:List Int):Prop:=∀(i:Nat)(x:Int),o[i]?=some x->∃w:Nat,x=w/\w<m/\aDU ps (o.take i) w/\∀v<w,¬aDU ps (o.take i) v
theorem aDB.snoc{m:Nat}(h:aDB ps m o)(hw:w<m)(hr:aDU ps o w)(cc:∀v<w,¬aDU ps o v):aDB ps m (o++[(w:Int)]):=by
 intro i x e;by_cases hi:i<o.length
 ·rw[aT hi]at e;rw[List.take_append_of_le_length (by lia)]
  exact h i x e
 ·have eh:i=o.length:=by
   have:=(aR.mp e).1;simp at this;lia
  subst eh;simp only[List.getElem?_concat_length,cO.injEq]at e;rw[List.take_left']
  ·exact⟨w,e.symm,hw,hr,cc⟩
  ·rfl
theorem y3{m:Nat}(hm:m<=8)(hl:ps.length<=1000)(hw:InW m ps)(hr:Acy ps):∃t,lE [.int m,.lst (ps.map pT)]=some t/\∃o,t=.lst (o.map T.int)/\o.length=m/\aDB ps m o:=by
 obtain⟨_,e1,nd,rfl,gy⟩:=uN (by lia) hl hw;have ya:=gy.1;have w1:∀{C Q},wpO (kE 2 gQ [.int m,.lst (ps.map pT)] C) Q↔Q (.lst (nd.map iT)) C:=gC e1 rfl (by rw[fQ,fQ,gT,gK,gD,lU];rfl);apply lA;unfold xP;walk_at "b";simp_arith[↓w1]
 refine⟨by walk_at "a",aFk (n:=10) (k:=0) (fun i τ C=>∃o:List Int,τ=[some (.int m),some (.lst (ps.map pT)),some (.lst (nd.map iT)),some (.cell 0)]/\C=[(.l,o.map T.int)]/\o.length=i/\i<=m/\aDB ps m o) (by lia) ⟨[],rfl,rfl,rfl,cV _,fun i x e=>by simp at e⟩ ?_⟩
 rintro i τ C hi ⟨o,rfl,rfl,ho,him,hp⟩;simp_arith[aS];by_cases bi:i<m
 ·obtain⟨w,⟨h1,h2⟩,h3⟩:=aBO (aLS hw hr (told:=o) (by lia));have cc:∀v<w,¬aDU ps o v:=fun v hv z=>h3 v hv ⟨by lia,z⟩
  have el:=xK (nd:=nd) (told:=o) (w:=w) (by lia) (fun l gk=>by
   obtain⟨b,hb⟩:=bT.mp gk;have:=(gy.2 b l hb).1
   lia) (by lia) ((gy.rdy h1).mpr h2) (fun v hv z=>cc v hv ((gy.rdy (by lia)).mp z))
  rw[if_pos (kX (by lia))];unfold sY;simp_arith[if_true]
  refine nN rfl (iI (iD (by rw[gK];exact aIf)) (iI (oY rfl) rfl)) ?_
  refine⟨_,el,rfl,?_⟩
  simp_arith[if_true]
  refine⟨by walk_at "a",by lia,o++[(w:Int)],by rw[aIA],by simp[ho],bi,hp.snoc h1 h2 cc⟩
 ·rw[if_neg (by simpa using(by lia:m<=o.length))]
  exact⟨_,oY rfl,o,rfl,by lia,hp⟩
structure Topo(ps:List (Int×Int))(m:Nat)(o:List Int):Prop where
 len:o.length=m
 nd:o.Nodup
 rng:∀x∈o,0<=x/\x<m
 all:∀w:Nat,w<m->(w:Int)∈o
 top:∀(j:Nat)(b:Int),o[j]?=some b->∀a,(a,b)∈ps->a∈o.take j
theorem aDB.topo{m:Nat}(h:aDB ps m o)(hl:o.length=m):Topo ps m o:=by
 have rng:∀x∈o,0<=x/\x<m:=fun x hx=>by
  obtain⟨i,hi⟩:=bT.mp hx;obtain⟨w,rfl,hw,_⟩:=h i x hi
  lia
 have nd:o.Nodup:=by
  refine aOO.mpr fun i j hi hj ko e=>?_
  have ej:=bA hj;obtain⟨w,e1,_,h2,_⟩:=h j _ ej
  refine h2.1 (bF (i:=i) ?_)
  rw[aOm ko,bA hi,e,e1]
 refine⟨hl,nd,rng,fun w hw=>cX fun hc=>?_,fun j b e a ha=>?_⟩
 ·have:=aBe m ((w:Int)::o) (bS.mpr ⟨hc,nd⟩) (fun x hx=>by
   rcases bE.mp hx with rfl|hx
   ·lia
   ·exact rng x hx)
  simp at this;lia
 ·obtain⟨w,rfl,_,h2,_⟩:=h j b e
  exact h2.2 a ha
end Lib
namespace TL
open PySem L2
section
variable {τ:TSt}{C:Sto}{fa:FN}{x:XF}{F:FS}{Q:Fl->TSt->Sto->Prop}{c:String}
end
end TL
namespace Lib
open PySem L2 TL
variable{rs:List Int}{ps:List (Int×Int)}
theorem aHN{i:Int}:jV [.int i]=some (.bl true):=by
 apply iW;unfold aEx;walk_at "b";simp_arith[aMW]
 exact rfl
theorem rB{a:Int}{C:Sto}{Q:T->Sto->Prop}:wpO (kE 1 jV [.int a] C) Q↔Q (.bl true) C:=gC aHN rfl (by walk_at "c")
structure Rk(m:Nat)(rs:List Int):Prop where
 len:rs.length=m
 nd:rs.Nodup
 rng:∀x∈rs,0<=x/\x<m
theorem Rk.ins{m:Nat}{q:Int}(h:Rk m rs):Rk (m+1) (insAt rs q m):=by
 have p:=u7 (xs:=rs) (i:=q) (y:=(m:Int))
 refine⟨by rw[xF,h.len],p.nodup_iff.mpr (bS.mpr ⟨fun z=>?_,h.nd⟩),fun x hx=>?_⟩
 ·have:=h.rng _ z;lia
 ·rcases bE.mp (p.mem_iff.mp hx)with rfl|hx
  ·lia
  ·have:=h.rng _ hx;lia
def Al(rs:List Int)(p:Int×Int):Prop:=∃i j:Nat,i<j/\rs[i]?=some p.1/\rs[j]?=some p.2
theorem Al.inW{m:Nat}(hr:Rk m rs)(h:∀p∈ps,Al rs p):InW m ps:=fun p hp=>by
 obtain⟨i,j,_,h1,h2⟩:=h p hp
 exact⟨hr.rng _ (bF h1),hr.rng _ (bF h2)⟩
theorem Al.acy{m:Nat}(hr:Rk m rs)(h:∀p∈ps,Al rs p):Acy ps:=by
 refine⟨fun x=>rs.idxOf x,fun p hp=>?_⟩
 obtain⟨i,j,ko,h1,h2⟩:=h p hp;have key:∀(k:Nat)(x:Int),rs[k]?=some x->rs.idxOf x=k:=fun k x e=>by
  obtain⟨hk,e⟩:=aR.mp e;rw[<-e]
  exact hr.nd.idxOf_getElem k hk
 show rs.idxOf p.1<rs.idxOf p.2;rw[key i _ h1,key j _ h2]
 exact ko
theorem aBi{α:Type}{xs:List α}{f:α->Int}:(xs.map fun x=>T.int (f x))=(xs.map f).map T.int:=by simp
end Lib
namespace Lib
open PySem L2 TL
variable{bs hs ns:List Int}{d:Int}{ps:List (Int×Int)}
noncomputable def at0(bs:List Int)(x:Int):Int:=bs.getD x.toNat 0
theorem aK1{x:Int}(h0:0<=x)(h:x<bs.length):atI (bs.map T.int) x=some (.int (at0 bs x)):=by
 rw[u5 h0 h];unfold at0;rw[dD,bA (by lia)];rfl
theorem aBa{x y v:Int}(h0:0<=x)(h:x<bs.length)(hy:0<=y):at0 (bs.set x.toNat v) y=if y=x then v else at0 bs y:=by
 unfold at0;rw[dD,dD];by_cases e:y=x
 ·subst e;rw[if_pos rfl,bO (by lia)];rfl
 ·rw[if_neg e,aQ (by lia)]
theorem wE{P:Int->Prop}{x:Int}(h:∀b∈bs,P b)(h0:P 0):P (at0 bs x):=by
 unfold at0;rw[dD];cases e:bs[x.toNat]?with
 |none=>exact h0
 |some b=>exact h b (bF e)
theorem mP{i:Nat}(h:i<bs.length):at0 bs (i:Int)=bs[i]:=by
 unfold at0;rw[dD,cN,bA h];rfl
theorem aJs(hl:bs.length<=1000):kP [.lst (bs.map T.int),.lst (hs.map T.int)]=some (.lst (((bs.zip hs).map fun p=>p.1+p.2).map T.int)):=by
 apply iW;unfold qQ;walk_at "b";simp_arith[aGr]
 refine⟨by rw[aS,dF];unfold lim;lia,iH (fun p:Int×Int=>T.int (p.1+p.2)) (fun p _=>?_) ?_⟩
 ·simp only[scT,aX,aM,bC,aZ,aW,aY];simp_arith[if_true]
 ·rw[aBi];exact aIS
theorem vT{n:Int}(h:n∈ns):n<=lI d ns:=by
 unfold lI;have ay:ns≠[]:=by rintro rfl;simp at h
 rw[if_neg (by simpa using ay)]
 exact(wP ay).2 n h
theorem qV:(ns=[]/\lI d ns=d)\/lI d ns∈ns:=by
 unfold lI;by_cases h:ns=[]
 ·left;subst h;exact⟨rfl,rfl⟩
 ·right;rw[if_neg (by simpa using h)]
  exact(wP h).1
structure Early(ps:List (Int×Int))(hs:List Int)(bs:List Int):Prop where
 len:bs.length=hs.length
 pos:∀x,0<=at0 bs x
 ge:∀p∈ps,at0 bs p.1+at0 hs p.1<=at0 bs p.2
 att:∀w:Nat,w<hs.length->at0 bs w=0\/∃a,(a,(w:Int))∈ps/\at0 bs w=at0 bs a+at0 hs a
theorem aCl(hm:hs.length<=8)(hl:ps.length<=1000)(hw:InW hs.length ps)(hr:Acy ps)(hp:∀h∈hs,0<=h):
 ∃t,mJ [.lst (hs.map T.int),.lst (ps.map pT)]=some t/\∃bs,t=.lst (bs.map T.int)/\Early ps hs bs:=by
 obtain⟨_,e1,nd,rfl,gy⟩:=uN (by lia) hl hw;obtain⟨_,e2,o,rfl,ho,lr⟩:=y3 hm hl hw hr;have tp:=lr.topo ho;have w1:∀{C Q},wpO (kE 2 gQ [.int hs.length,.lst (ps.map pT)] C) Q↔Q (.lst (nd.map iT)) C:=gC e1 rfl (by rw[fQ,fQ,gT,gK,gD,lU];rfl);have w2:∀{C Q},wpO (kE 2 lE [.int hs.length,.lst (ps.map pT)] C) Q↔Q (.lst (o.map T.int)) C:=gC e2 rfl (by rw[fQ,fQ,gT,gK,gD,lU];rfl);have ya:=gy.1;apply lA;unfold y4;walk_at "b";simp_arith[↓w1,↓w2,aS]
 refine⟨by unfold lim;lia,iH (fun _:Int=>T.int 0) (fun i _=>?_) ?_⟩
 ·simp only[scT,aX,aM,bC,aZ,aW,aY];simp_arith[if_true]
 simp_arith[if_true]
 refine j0 (fun i τ C=>∃a,τ=[some (.lst (hs.map T.int)),some (.lst (ps.map pT)),some (.lst (o.map T.int)),some (.lst (nd.map iT)),some (.cell 0),a]/\∃bs:List Int,C=[(.l,bs.map T.int)]/\bs.length=hs.length/\(∀x,0<=at0 bs x)/\
  ∀(j:Nat)(w:Int),j<i->o[j]?=some w->(∀a,(a,w)∈ps->at0 bs a+at0 hs a<=at0 bs w)/\(at0 bs w=0\/∃a,(a,w)∈ps/\at0 bs w=at0 bs a+at0 hs a)) ?_ ?_ ?_
 ·refine⟨_,rfl,aX hs.length 0,?_,by simp,fun x=>wE (fun b hb=>by rw[List.eq_of_mem_replicate hb];exact bP _) (bP _),fun j w hj=>by lia⟩
  rw[List.map_const',List.map_replicate,ho]
 ·rintro i w τ C ii ⟨a,rfl,bs,rfl,yu,vc,cq⟩;obtain⟨jd,hw1⟩:=tp.rng w (bF ii);have hwn:w.toNat<nd.length:=by lia
  obtain⟨hnl,oq⟩:=gy.2 w.toNat _ (bA hwn);rw[b5 jd]at oq;have en:atI (nd.map iT) w=some (iT nd[w.toNat]):=by rw[qH jd,bH,bA hwn];rfl
  generalize nd[w.toNat]=l at hnl oq en;unfold sZ;simp_arith[↓fU en]
  refine⟨by walk_at "a",iH (fun a:Int=>T.int (at0 bs a+at0 hs a)) (fun a ha=>?_) ?_⟩
  ·have yw:=(hw _ ((oq a).mp ha)).1;simp only at yw;have g1:=aK1 (bs:=bs) yw.1 (by lia);have g2:=aK1 (bs:=hs) yw.1 (by lia);simp only[scT,aX,aM,bC,aZ,aW,aY,cM,cU,dS];simp_arith[↓fU g1,↓fU g2]
  ·rw[aBi,fU (t8 _)];simp_arith[if_true];have ix:ixN (bs.map T.int).length w=some w.toNat:=aGy jd (by simp;lia);rw[fU ix];obtain⟨v,hv⟩:∃v,lI 0 (l.map fun a=>at0 bs a+at0 hs a)=v:=⟨_,rfl⟩;rw[hv];have v0:0<=v:=by
    rw[<-hv];rcases qV (d:=0) (ns:=l.map fun a=>at0 bs a+at0 hs a)with⟨_,h⟩|h
    ·rw[h];exact bP _
    ·obtain⟨a,_,e⟩:=bM.mp h;rw[<-e];have:=vc a;have:=wE (x:=a) hp (bP 0)
     lia
   have keep:∀(j:Nat)(u a:Int),j<=i->o[j]?=some u->(a,u)∈ps->at0 (bs.set w.toNat v) a=at0 bs a:=by
    intro j u a hj hu ha;have hm:=tp.top j u hu a ha;obtain⟨k,hk⟩:=bT.mp hm;have hkj:k<j:=by
     have:=(aR.mp hk).1;simp at this;lia
    rw[aOm hkj]at hk;have kq:=(hw _ ha).1;rw[aBa jd (by lia) kq.1,if_neg];rintro rfl;have:=(aPw (by have:=(aR.mp hk).1;exact this) tp.nd).mp (hk.trans ii.symm)
    lia
   refine⟨trivial,_,rfl,bs.set w.toNat v,by rw[<-aC9],by simpa using yu,fun x=>wE (fun b hb=>?_) (bP _),fun j u hj hu=>?_⟩
   ·rcases aOP hb with hb|rfl
    ·obtain⟨k,hk⟩:=bT.mp hb;obtain⟨hk1,hk2⟩:=aR.mp hk;have:=vc k;rw[mP hk1,hk2]at this
     exact this
    ·exact v0
   ·obtain⟨ol,hu1⟩:=tp.rng u (bF hu);by_cases hji:j=i
    ·subst hji;rw[ii]at hu;cases hu;have ev:at0 (bs.set w.toNat v) w=v:=by rw[aBa jd (by lia) jd,if_pos rfl]
     rw[ev]
     refine⟨fun a ha=>?_,?_⟩
     ·rw[keep j w a (bD _) ii ha,<-hv]
      exact vT (bM.mpr ⟨a,(oq a).mpr ha,rfl⟩)
     ·rcases qV (d:=0) (ns:=l.map fun a=>at0 bs a+at0 hs a)with⟨_,h⟩|h
      ·left;rw[<-hv];exact h
      ·right;obtain⟨a,ha,e⟩:=bM.mp h
       exact⟨a,(oq a).mp ha,by rw[keep j w a (bD _) ii ((oq a).mp ha),e,hv]⟩
    ·have ay:u≠w:=by
      rintro rfl;have:=(aPw (by have:=(aR.mp hu).1;exact this) tp.nd).mp (hu.trans ii.symm)
      lia
     have eu:at0 (bs.set w.toNat v) u=at0 bs u:=by rw[aBa jd (by lia) ol,if_neg ay]
     obtain⟨h1,h2⟩:=cq j u (by lia) hu;rw[eu]
     refine⟨fun a ha=>?_,?_⟩
     ·rw[keep j u a (by lia) hu ha];exact h1 a ha
     ·rcases h2 with h2| ⟨a,ha,e⟩
      ·exact .inl h2
      ·exact .inr ⟨a,ha,by rw[keep j u a (by lia) hu ha];exact e⟩
 ·rintro τ C ⟨a,rfl,bs,rfl,yu,vc,cq⟩;simp_arith[if_true]
  refine⟨_,oY rfl,bs,rfl,yu,vc,fun p hpm=>?_,fun w ii=>?_⟩
  ·have h2:=(hw p hpm).2;have:=tp.all p.2.toNat (by lia);rw[b5 h2.1]at this;obtain⟨j,hj⟩:=bT.mp this
   exact(cq j p.2 (aR.mp hj).1 hj).1 p.1 hpm
  ·obtain⟨j,hj⟩:=bT.mp (tp.all w ii)
   exact(cq j w (aR.mp hj).1 hj).2
noncomputable def dones(bs hs:List Int):List Int:=(bs.zip hs).map fun p=>p.1+p.2
theorem aFB(e:mJ [.lst (hs.map T.int),.lst (ps.map pT)]=some (.lst (bs.map T.int)))(hl:bs.length<=1000):
 kI [.lst (hs.map T.int),.lst (ps.map pT)]=some (.int (lI 0 (dones bs hs))):=by
 have w1:∀{C Q},wpO (kE 2 mJ [.lst (hs.map T.int),.lst (ps.map pT)] C) Q↔Q (.lst (bs.map T.int)) C:=gC e rfl (by rw[fQ,fQ,gT,gK,gK,lU,iM];rfl);have w2:∀{C Q},wpO (kE 2 kP [.lst (bs.map T.int),.lst (hs.map T.int)] C) Q↔Q (.lst ((dones bs hs).map T.int)) C:=gC (aJs hl) rfl (by walk_at "c");apply iW;unfold aBJ;walk_at "b";simp_arith[↓w1,↓w2];rw[fU (t8 _)]
 exact iD gD
theorem nM(hl:bs.length=hs.length){x:Int}:x∈dones bs hs↔∃w:Nat,w<hs.length/\x=at0 bs w+at0 hs w:=by
 unfold dones;rw[bM];constructor
 ·rintro⟨p,hp,rfl⟩;obtain⟨w,hw⟩:=bT.mp hp;rw[dX]at hw;obtain⟨h1,e1⟩:=aR.mp hw.1;obtain⟨h2,e2⟩:=aR.mp hw.2
  exact⟨w,h2,by rw[mP h1,mP h2,e1,e2]⟩
 ·rintro⟨w,hw,rfl⟩
  refine⟨(bs[w]'(by lia),hs[w]),bF (i:=w) ?_,?_⟩
  ·rw[dX];exact⟨bA (by lia),bA hw⟩
  ·rw[mP (by lia),mP hw]
def Mx(S:Int->Prop)(d:Int):Prop:=0<=d/\(∀x,S x->x<=d)/\(d=0\/S d)
theorem Early.mxL(h:Early ps hs bs)(hp:∀x∈hs,0<=x):Mx (fun x=>∃w:Nat,w<hs.length/\x=at0 bs w+at0 hs w) (lI 0 (dones bs hs)):=by
 have hl:=h.len;have nn:∀w,0<=at0 bs w+at0 hs w:=fun w=>by
  have:=h.pos w;have:=wE (x:=w) hp (bP 0)
  lia
 refine⟨?_,fun x hx=>vT ((nM hl).mpr hx),?_⟩
 ·rcases qV (d:=0) (ns:=dones bs hs)with⟨_,e⟩|e
  ·rw[e];exact bP _
  ·obtain⟨w,_,e⟩:=(nM hl).mp e;rw[e];exact nn _
 ·rcases qV (d:=0) (ns:=dones bs hs)with⟨_,e⟩|e
  ·exact .inl e
  ·exact .inr ((nM hl).mp e)
end Lib
namespace Lib
open PySem L2 TL
def Chn(ps:List (Int×Int))(ws:List Int):Prop:=∀(j:Nat)(x y:Int),ws[j]?=some x->ws[j+1]?=some y->(x,y)∈ps
end Lib
set_option maxHeartbeats 4000000
namespace Lib
open PySem L2 TL
end Lib
namespace TL
open PySem L2
section
variable {τ:TSt}{C:Sto}{fo fi fe:FE}{fa:FN}{Q:T->Sto->Prop}{QS:Fl->TSt->Sto->Prop}
theorem fL:wpE (zC fa) τ C Q↔wpA fa τ C fun ts C1=>ts.length<=lim/\Q (.tup ts) C1:=by
 unfold wpE wpA zC oS;constructor
 ·rintro⟨t,C',e,q⟩;obtain⟨⟨ts,C1⟩,e1,e⟩:=aK.mp e;dsimp only at e;split at e
  ·cases e;exact⟨ts,_,e1,‹_›,q⟩
  ·cases e
 ·rintro⟨ts,C1,e1,h,q⟩
  exact⟨_,_,by rw[e1];exact if_pos h,q⟩
end
end TL
namespace Lib
open PySem L2 TL
end Lib
namespace Lib
open PySem L2 TL
theorem aHF{a:Int}{ws:List Int}:aAY (T.int a::ws.map T.int) (some 1) none=ws.map T.int:=by
 rw[show T.int a::ws.map T.int=(a::ws).map T.int from rfl,yX,aFm (by decide)];rfl
end Lib
namespace Lib
open PySem L2 TL
theorem aEe{f:T->Option T}:∀{ts us:List T},ts.length=us.length->(∀(i:Nat)(t u:T),ts[i]?=some t->us[i]?=some u->f t=some u)->mapO f ts=some us
 | [],[],_,_=>rfl
 |t::ts,u::us,hl,h=>iI (h 0 t u rfl rfl) (aEe (by simpa using hl) fun i t u e1 e2=>h (i+1) t u e1 e2)
end Lib
set_option maxHeartbeats 1000000
namespace Lib
open PySem L2 TL
end Lib
namespace Lib
open PySem L2 TL
end Lib
namespace Lib
open PySem L2 TL
end Lib
namespace Lib
open PySem L2 TL
end Lib
namespace Lib
open PySem L2 TL
end Lib
namespace Lib
open PySem L2 TL
theorem wD{α:Type}{xs:List α}{i:Int}(h0:0<=i)(h:i<xs.length):∃t∈xs,atI xs i=some t:=
 ⟨xs[i.toNat]'(by lia),dB _,by rw[qH h0,bA (by lia)]⟩
def Sm(n:Int):Prop:=0<=n/\n<2147483587
theorem Sm.bt{n:Int}(h:Sm n):Bt 31 n:=.of_lt h.1 (by have:=h.2;lia)
theorem rJ{a k:Int}(hk:Bt 20 k):∃t,lV [.int a,.int k]=some t/\∃r,t=.int r/\Sm r:=by
 apply lA;unfold aCa;walk_at "b";simp_arith[↓fL];have h1:=iO (x:=a*48271+k*k*69621+3) (m:=2147483647) (by lia);generalize (a*48271+k*k*69621+3)%2147483647=n1 at h1;have h2:=iO (x:=n1*n1) (m:=2147483629) (by lia);have b1:Bt 31 n1:=.of_lt h1.1 (by lia);generalize n1*n1%2147483629=n2 at h2;have h3:=iO (x:=n2*n2) (m:=2147483587) (by lia);have b2:Bt 31 n2:=.of_lt h2.1 (by lia)
 exact⟨gR (.of_lt (by decide) (by decide)),gH (hk.mono (by decide)),gR (.of_lt (by decide) (by decide)),by decide,gH (b1.mono (by decide)),by decide,gH (b2.mono (by decide)),by decide,_,iD gD,_,rfl,h3⟩
noncomputable def xW(a k:Int):Int:=if h:Bt 20 k then aP9 (dH (rJ (a:=a) h)).2 else 0
theorem aI9{a k:Int}(h:Bt 20 k):lV [.int a,.int k]=some (.int (xW a k)):=by
 unfold xW;rw[dif_pos h];have e:=(dH (rJ (a:=a) h)).1;have e2:=(dH (dH (rJ (a:=a) h)).2).1;rw[<-e2];exact e
theorem aGK{a k:Int}:Sm (xW a k):=by
 unfold xW;split
 ·rename_i h
  exact(dH (dH (rJ (a:=a) h)).2).2
 ·exact⟨by decide,by decide⟩
theorem xV{a k:Int}{C:Sto}{Q:T->Sto->Prop}(h:Bt 20 k):wpO (kE 2 lV [.int a,.int k] C) Q↔Q (.int (xW a k)) C:=gC (aI9 h) rfl (by walk_at "c")
theorem aCM{ns:List Int}(hl:ns.length<=63):∃t,n6 [.lst (ns.map T.int)]=some t/\∃xs:List Int,t=.lst (xs.map T.int)/\xs.length=40/\∀x∈xs,Sm x:=by
 apply lA;unfold yK;walk_at "b";simp_arith[↓fL,aS]
 refine⟨by lia,?_⟩
 rw[xM]
 refine iH (fun i=>T.int (xW (m8 ns 0) (90+(0+(i:Int))))) (fun i hi=>?_) ?_
 ·have hi:=cG.mp hi;have hb:Bt 20 (90+(0+(i:Int))):=.sml (by lia) (by lia) (by decide);simp only[scT,aX,aM,bC,aZ,aW,aY,cM,cU,dS];simp_arith[↓fL,↓nU,↓xV]
 rw[show(List.map (fun(i:Nat)=>T.int (xW (m8 ns 0) (90+(0+(i:Int))))) (bK (eO 40)))=((bK 40).map fun(i:Nat)=>xW (m8 ns 0) (90+(0+(i:Int)))).map T.int by simp];obtain⟨py,xh⟩:∃py,((bK 40).map fun(i:Nat)=>xW (m8 ns 0) (90+(0+(i:Int))))=py:=⟨_,rfl⟩;have yh:py.length=40:=by rw[<-xh];simp
 have om:∀x∈py,Sm x:=by
  rw[<-xh];intro x hx;obtain⟨i,_,rfl⟩:=bM.mp hx
  exact aGK
 rw[xh]
 refine⟨by lia,mO (fun i τ C=>∃a b:Option T,τ=[some (.lst (ns.map T.int)),some (.cell 0),a,b]/\∃xs:List Int,C=[(.l,xs.map T.int)]/\xs.length=40/\∀x∈xs,Sm x) ⟨_,_,rfl,py,rfl,yh,om⟩ ?_ ?_⟩
 ·rintro i τ C hi ⟨_,_,rfl,xs,rfl,jc,fj⟩;have hb:Bt 20 (2+(i:Int)):=.sml (by lia) (by lia) (by decide);have hq:=iO (x:=2+(i:Int)) (m:=40) (by lia);unfold tQ;generalize hqe:(2+(i:Int))%40=q at hq;have e1:=u5 (ns:=xs) (i:=q) hq.1 (by lia);have e2:=u5 (ns:=ns) (i:=2+(i:Int)) (by lia) (by lia);simp_arith[↓fL,hqe,↓fU e1,↓fU e2,↓xV]
  refine⟨by decide,?_⟩
  rw[fU (aGy hq.1 (by simp[jc];lia))]
  refine⟨_,_,rfl,xs.set q.toNat _,by rw[aC9 (f:=T.int)],by simpa using jc,fun x hx=>?_⟩
  rcases aOP hx with h|h
  ·exact fj x h
  ·rw[h];exact aGK
 ·rintro τ C ⟨_,_,rfl,xs,rfl,jc,fj⟩;simp_arith[↓fL]
  exact⟨_,oY rfl,xs,rfl,jc,fj⟩
theorem aFH{c:Int}{m:Nat}(hm:m<=8):∃t,tW [.int c,.int m]=some t/\∃rs:List Int,t=.lst (rs.map T.int)/\Rk m rs:=by
 apply lA;unfold aCX;walk_at "b";simp_arith[↓fL]
 refine⟨by walk_at "a",by lia,mO (fun i τ C=>∃(a:Option T),τ=[some (.int c),some (.int m),some (.cell 0),a]/\∃rs:List Int,C=[(.l,rs.map T.int)]/\Rk i rs) ⟨_,rfl,[],rfl,⟨rfl,.nil,by simp⟩⟩ ?_ ?_⟩
 ·rintro i τ C hi ⟨a,rfl,rs,rfl,hr⟩;have hb:Bt 20 (0+(i:Int)):=.sml (by lia) (by lia) (by decide);have ai:=hr.len;unfold wZ;simp_arith[↓fL,↓xV];have b2:=iO (x:=xW c (0+(i:Int))) (m:=0+(i:Int)+1) (by lia);generalize xW c (0+(i:Int))%(0+(i:Int)+1)=q at b2
  refine⟨by walk_at "a",⟨by walk_at "a",by lia,by lia⟩,_,rfl,insAt rs q (i:Int),by rw[eG,<-uD],hr.ins⟩
 ·rintro τ C ⟨a,rfl,rs,rfl,hr⟩;simp_arith[↓fL]
  exact⟨_,oY rfl,rs,rfl,by simpa using hr⟩
end Lib
namespace Lib
open PySem L2 TL
theorem aJD{ws:List (Int×Int×Int)}{a b c:Int}:ws.map w3++[T.lst [.int a,.int b,.int c]]=(ws++[(a,b,c)]).map w3:=by
 rw[bQ];rfl
theorem aLX{n:Nat}{C:Sto}{ts us:List T}(h:mapO (dr n C) ts=some us):dr (n+1) C (.tup ts)=some (.tup us):=by
 unfold dr;split
 ·rename_i hc;rw[aBp hc]at h;cases h;rfl
 ·rw[h];rfl
end Lib
namespace Lib
open PySem L2 TL
variable{ws:List (Int×Int×Int)}{w:Int×Int×Int}{Q:T->Sto->Prop}
theorem aLf{hs:List Int}{ps:List (Int×Int)}:CFs [.lst (hs.map T.int),.lst (ps.map pT)]=true:=by rw[fQ,fQ,gT,gK,gK,iM,lU];rfl
theorem zI(hl:ws.length<=1000):k7 [.lst (ws.map w3)]=some (.lst ((ws.map (·.2.1)).map T.int)):=by
 apply iW;unfold rT;walk_at "b";simp_arith[↓fL]
 refine⟨aHS (by simpa using hl),iH (fun w=>T.int w.2.1) (fun w _=>?_) ?_⟩
 ·simp only[scT,aX,aM,bC,aZ,aW,aY,cM,cU,dS];simp_arith[↓fL,w3,↓fU (aLe (α:=T))]
 ·rw[aBi,aIS]
theorem zK:l4 [w3 w]=some (.int (if w.2.2=0 then w.2.1 else w.1)):=by
 apply iW;unfold sM;walk_at "b";simp_arith[↓fL,w3,↓fU (aKT (α:=T)),↓fU (aLe (α:=T)),↓fU (aNA (α:=T))];by_cases h:w.2.2=0
 ·rw[if_pos (kX h),if_pos h];exact iD gD
 ·rw[if_neg (by simpa using h),if_neg h];exact iD gD
theorem vP{C:Sto}(hl:ws.length<=1000):wpO (kE 1 k7 [.lst (ws.map w3)] C) Q↔Q (.lst ((ws.map (·.2.1)).map T.int)) C:=gC (zI hl) rfl (by rw[fQ,gT,gK,r9];rfl)
theorem yT{C:Sto}:wpO (kE 1 l4 [w3 w] C) Q↔Q (.int (if w.2.2=0 then w.2.1 else w.1)) C:=gC zK rfl (by rw[fQ,gT,aLa];rfl)
def NoOrd(m:Nat)(ps:List (Int×Int)):Prop:=aBb [.int m,.lst (ps.map pT)]=some "NoOrder"
section
variable {ws:List (Int×Int×Int)}{ps:List (Int×Int)}{e:Int}(hl:ws.length<=1000)(h:NoOrd ws.length ps)
include hl h
end
end Lib
namespace Lib
open PySem L2 TL
variable{ws:List (Int×Int×Int)}{ps:List (Int×Int)}{z:Int}
noncomputable def kA(w:Int×Int×Int):Int:=if w.2.2=0 then w.2.1 else w.1
theorem aBw(hl:ws.length<=1000)(h:kI [.lst ((ws.map (·.2.1)).map T.int),.lst (ps.map pT)]=some (.int z)):mX [.lst (ws.map w3),.lst (ps.map pT)]=some (.int z):=by
 have w1:∀{C Q},wpO (kE 2 kI [.lst ((ws.map (·.2.1)).map T.int),.lst (ps.map pT)] C) Q↔Q (.int z) C:=gC h rfl aLf;apply iW;unfold u8;walk_at "b";simp_arith[↓fL,↓vP,↓w1]
 exact iD gD
theorem aCx(hl:ws.length<=1000)(h:kI [.lst ((ws.map kA).map T.int),.lst (ps.map pT)]=some (.int z)):nX [.lst (ws.map w3),.lst (ps.map pT)]=some (.int z):=by
 have w1:∀{C Q},wpO (kE 2 kI [.lst ((ws.map kA).map T.int),.lst (ps.map pT)] C) Q↔Q (.int z) C:=gC h rfl aLf;apply iW;unfold xB;walk_at "b";simp_arith[↓fL]
 refine⟨aHS (by simpa using hl),iH (fun w=>T.int (kA w)) (fun w _=>?_) ?_⟩
 ·simp only[scT,aX,aM,bC,aZ,aW,aY,cM,cU,dS];simp_arith[↓fL,↓yT]
  exact rfl
 ·rw[show(ws.map fun w=>T.int (kA w))=(ws.map kA).map T.int by simp];simp_arith[↓fL,↓w1]
  exact iD gD
end Lib
namespace NF
noncomputable def sm:Nat->(Nat->Int)->Int
 |0,_=>0
 |n+1,g=>sm n g+g n
theorem jX{n:Nat}{g g':Nat->Int}(h:∀k,k<n->g k=g' k):sm n g=sm n g':=by
 induction n with
 |zero=>rfl
 |succ n ih=>unfold sm;rw[ih fun k hk=>h k (by lia),h n (by lia)]
theorem tT{n:Nat}{g g':Nat->Int}(h:∀k,k<n->g k<=g' k):sm n g<=sm n g':=by
 induction n with
 |zero=>exact bP _
 |succ n ih=>unfold sm;have:=ih fun k hk=>h k (by lia);have:=h n (by lia);lia
theorem aMx{n:Nat}{g g':Nat->Int}:sm n (fun k=>g k+g' k)=sm n g+sm n g':=by
 induction n with
 |zero=>rfl
 |succ n ih=>unfold sm;rw[ih];dsimp only;lia
theorem aLT{n:Nat}{g g':Nat->Int}:sm n (fun k=>g k - g' k)=sm n g - sm n g':=by
 induction n with
 |zero=>rfl
 |succ n ih=>unfold sm;rw[ih];dsimp only;lia
theorem mR{n:Nat}{g:Nat->Int}(h:∀k,k<n->g k=0):sm n g=0:=by
 induction n with
 |zero=>rfl
 |succ n ih=>unfold sm;rw[ih fun k hk=>h k (by lia),h n (by lia)];rfl
theorem mK{n:Nat}{g:Nat->Int}(h:∀k,k<n->0<=g k):0<=sm n g:=by
 induction n with
 |zero=>exact bP _
 |succ n ih=>unfold sm;have:=ih fun k hk=>h k (by lia);have:=h n (by lia);lia
theorem aMc{n:Nat}{g:Nat->Int}(h:∀k,k<n->0<=g k){k:Nat}(hk:k<n):g k<=sm n g:=by
 induction n with
 |zero=>lia
 |succ n ih=>
  unfold sm;by_cases e:k=n
  ·subst e;have:=mK fun j hj=>h j (aOS hj);lia
  ·have:=ih (fun j hj=>h j (by lia)) (by lia);have:=h n (by lia);lia
noncomputable def up(f:Nat->Int)(k:Nat)(v:Int):Nat->Int:=fun j=>if j=k then v else f j
theorem jR{f:Nat->Int}{k:Nat}{v:Int}:up f k v k=v:=by unfold up;rw[if_pos rfl]
theorem uY{f:Nat->Int}{k j:Nat}{v:Int}(h:j≠k):up f k v j=f j:=by unfold up;rw[if_neg h]
theorem aKY{n:Nat}{f g:Nat->Int}{k:Nat}{v:Int}(hk:k<n):sm n (fun j=>up f k v j*g j)=sm n (fun j=>f j*g j)+(v - f k)*g k:=by
 induction n with
 |zero=>lia
 |succ n ih=>
  unfold sm;dsimp only;by_cases e:k=n
  ·subst e;rw[jR,jX (g':=fun j=>f j*g j) (fun j hj=>by rw[uY (by lia)]),aOV]
   lia
  ·rw[ih (by lia),uY (by lia)];lia
structure Nt where
 m:Nat
 t:Nat->Nat
 h:Nat->Nat
 d:Nat->Int
 c:Nat->Int
variable {N:Nt}{f f' p q:Nat->Int}{a b x:Int}
variable{r:List (Nat×Bool)}
def Pot(N:Nt)(f p:Nat->Int):Prop:=∀k,k<N.m->(f k<N.c k->p (N.t k)+N.d k<=p (N.h k))/\(0<f k->p (N.h k)<=p (N.t k)+N.d k)
def Flo(N:Nt)(f:Nat->Int)(a:Int):Prop:=∀p:Nat->Int,sm N.m (fun k=>f k*(p (N.h k) - p (N.t k)))=a*(p 1 - p 0)
def Cap(N:Nt)(f:Nat->Int):Prop:=∀k,k<N.m->0<=f k/\f k<=N.c k
noncomputable def pos(x:Int):Int:=if 0<x then x else 0
theorem aDC:0<=pos x:=by unfold pos;split<;>lia
theorem aMw:x<=pos x:=by unfold pos;split<;>lia
def len(N:Nt)(f:Nat->Int):Int:=sm N.m fun k=>f k*N.d k
def cost(N:Nt)(p:Nat->Int):Int:=sm N.m fun k=>N.c k*pos (N.d k - (p (N.h k) - p (N.t k)))
theorem gap(hf:Flo N f a)(p:Nat->Int):len N f - a*(p 1 - p 0)=sm N.m fun k=>f k*(N.d k - (p (N.h k) - p (N.t k))):=by
 unfold len;rw[<-hf p,<-aLT]
 exact jX fun k _=>by rw[<-cI]
theorem weak(hf:Flo N f a)(hc:Cap N f)(p:Nat->Int):len N f - a*(p 1 - p 0)<=cost N p:=by
 rw[gap hf]
 refine tT fun k hk=>?_
 obtain⟨h1,h2⟩:=hc k hk;have h3:f k*(N.d k - (p (N.h k) - p (N.t k)))<=f k*pos (N.d k - (p (N.h k) - p (N.t k))):=Int.mul_le_mul_of_nonneg_left aMw h1;have h4:f k*pos (N.d k - (p (N.h k) - p (N.t k)))<=N.c k*pos (N.d k - (p (N.h k) - p (N.t k))):=b9 h2 aDC
 lia
theorem strong(hf:Flo N f a)(hc:Cap N f)(hp:Pot N f p):len N f - a*(p 1 - p 0)=cost N p:=by
 rw[gap hf]
 refine jX fun k hk=>?_
 obtain⟨h1,h2⟩:=hc k hk;obtain⟨h3,h4⟩:=hp k hk;generalize hx:N.d k - (p (N.h k) - p (N.t k))=y;unfold pos;by_cases hy:0<y
 ·rw[if_pos hy];have:f k=N.c k:=by
   by_cases h:f k<N.c k
   ·have:=h3 h;lia
   ·lia
  rw[this]
 ·rw[if_neg hy,aOr];by_cases hz:y=0
  ·rw[hz,aOr]
  ·have:f k=0:=by
    by_cases h:0<f k
    ·have:=h4 h;lia
    ·lia
   rw[this,dI]
noncomputable def rt(N:Nt)(e:Nat×Bool):Nat:=if e.2 then N.t e.1 else N.h e.1
noncomputable def rh(N:Nt)(e:Nat×Bool):Nat:=if e.2 then N.h e.1 else N.t e.1
noncomputable def rd(N:Nt)(e:Nat×Bool):Int:=if e.2 then N.d e.1 else - N.d e.1
noncomputable def rr(N:Nt)(f:Nat->Int)(e:Nat×Bool):Int:=if e.2 then N.c e.1 - f e.1 else f e.1
def Walk(N:Nt):List (Nat×Bool)->Nat->Nat->Prop
 | [],u,v=>u=v
 |e::r,u,v=>e.1<N.m/\rt N e=u/\Walk N r (rh N e) v
def pr(r:List (Nat×Bool))(x:Int)(f:Nat->Int):Nat->Int:=match r with
 | []=>f
 |e::r=>pr r x (up f e.1 (f e.1+if e.2 then x else -x))
theorem aIh:∀{r:List (Nat×Bool)}{u v:Nat}{f:Nat->Int},Walk N r u v->∀p:Nat->Int,sm N.m (fun k=>pr r x f k*(p (N.h k) - p (N.t k)))=sm N.m (fun k=>f k*(p (N.h k) - p (N.t k)))+x*(p v - p u)
 | [],u,v,f,w,p=>by cases w;simp[pr]
 |e::r,u,v,f,⟨h1,h2,h3⟩,p=>by
  show sm N.m (fun k=>pr r x (up f e.1 _) k*_)=_;rw[aIh h3,aKY h1];subst h2;unfold rt rh;cases e.2
  ·simp only[b8,if_false];have:(f e.1+ -x - f e.1)*(p (N.h e.1) - p (N.t e.1))=x*p (N.t e.1) - x*p (N.h e.1):=by
    rw[show f e.1+ -x - f e.1= -x by lia,Int.neg_mul,cI];lia
   rw[this,cI,cI];lia
  ·simp only[if_true];have:(f e.1+x - f e.1)*(p (N.h e.1) - p (N.t e.1))=x*p (N.h e.1) - x*p (N.t e.1):=by
    rw[show f e.1+x - f e.1=x by lia,cI]
   rw[this,cI,cI];lia
theorem Flo.pour(hf:Flo N f a)(w:Walk N r 0 1):Flo N (pr r x f) (a+x):=fun p=>by
 rw[aIh w,hf p,eX]
theorem aHX:∀{r:List (Nat×Bool)}{f:Nat->Int}{k:Nat},(∀e∈r,e.1≠k)->pr r x f k=f k
 | [],_,_,_=>rfl
 |e::r,f,k,h=>by
  show pr r x (up f e.1 _) k=_;rw[aHX fun e' he=>h e' (aU _ he),uY (fun z=>h e bJ z.symm)]
theorem aLd:∀{r:List (Nat×Bool)}{f:Nat->Int}{e:Nat×Bool},(r.map (·.1)).Nodup->e∈r->pr r x f e.1=f e.1+if e.2 then x else -x
 | [],_,_,_,h=>by cases h
 |e::r,f,e',hn,h=>by
  rw[aM,bS]at hn;show pr r x (up f e.1 _) e'.1=_;rcases bE.mp h with rfl|h
  ·rw[aHX fun e hr z=>hn.1 (bM.mpr ⟨e,hr,z⟩),jR]
  ·rw[aLd hn.2 h,uY fun z=>hn.1 (bM.mpr ⟨e',h,z⟩)]
theorem aCj(hn:(r.map (·.1)).Nodup)(f:Nat->Int)(x:Int)(k:Nat):(pr r x f k=f k/\∀e∈r,e.1≠k)\/∃b,(k,b)∈r/\pr r x f k=f k+if b then x else -x:=by
 by_cases h:∃e∈r,e.1=k
 ·obtain⟨⟨k',b⟩,he,rfl⟩:=h
  exact .inr ⟨b,he,aLd (e:=(k',b)) hn he⟩
 ·exact .inl ⟨aHX fun e he z=>h ⟨e,he,z⟩,fun e he z=>h ⟨e,he,z⟩⟩
theorem Cap.pour(hc:Cap N f)(hn:(r.map (·.1)).Nodup)(hx:0<=x)(hr:∀e∈r,x<=rr N f e):Cap N (pr r x f):=fun k hk=>by
 obtain⟨h1,h2⟩:=hc k hk;rcases aCj hn f x k with⟨e,_⟩| ⟨b,hb,e⟩
 ·rw[e];exact⟨h1,h2⟩
 ·rw[e];have:=hr _ hb;unfold rr at this;cases b<;>simp at this|- <;>lia
def Tight(N:Nt)(p:Nat->Int)(r:List (Nat×Bool)):Prop:=∀e∈r,p (rt N e)+rd N e=p (rh N e)
theorem Pot.pour(hp:Pot N f p)(hn:(r.map (·.1)).Nodup)(ht:Tight N p r):Pot N (pr r x f) p:=fun k hk=>by
 obtain⟨h1,h2⟩:=hp k hk;rcases aCj hn f x k with⟨e,_⟩| ⟨b,hb,e⟩
 ·rw[e];exact⟨h1,h2⟩
 ·have:=ht _ hb;unfold rt rd rh at this;cases b<;>simp at this<;>exact⟨fun _=>by lia,fun _=>by lia⟩
theorem cut(hf:Flo N f a)(hc:Cap N f)(hp:Pot N f p)(W:Nat->Bool)(hq:∀k,k<N.m->W k=false->q (N.t k)+N.d k<=q (N.h k))(h0:p 0<=q 0)(h1:q 1<p 1):
 a<=sm N.m fun k=>if W k then N.c k else 0:=by
 have g:=hf fun v=>if q v<p v then 1 else 0
 simp only[if_pos h1,if_neg (Int.not_lt.mpr h0)]at g;rw[show a=a*(1 - 0)by lia,<-g]
 refine tT fun k hk=>?_
 obtain⟨c1,c2⟩:=hc k hk;obtain⟨h3,h4⟩:=hp k hk;by_cases z:f k=0
 ·rw[z,dI];split<;>lia
 ·have h4:=h4 (by lia);cases hw:W k
  ·have:=hq k hk hw;have:¬(¬q (N.t k)<p (N.t k)/\q (N.h k)<p (N.h k)):=by lia
   simp only[b8,if_false];by_cases e1:q (N.h k)<p (N.h k)
   ·by_cases e2:q (N.t k)<p (N.t k)
    ·rw[if_pos e1,if_pos e2];lia
    ·exact absurd ⟨e2,e1⟩ this
   ·rw[if_neg e1];by_cases e2:q (N.t k)<p (N.t k)
    ·rw[if_pos e2];lia
    ·rw[if_neg e2];lia
  ·rw[if_pos rfl];by_cases e1:q (N.h k)<p (N.h k)
   ·by_cases e2:q (N.t k)<p (N.t k)
    ·rw[if_pos e1,if_pos e2];lia
    ·rw[if_pos e1,if_neg e2];lia
   ·by_cases e2:q (N.t k)<p (N.t k)
    ·rw[if_neg e1,if_pos e2];lia
    ·rw[if_neg e1,if_neg e2];lia
theorem aDf(hf:Flo N f a)(hc:∀k,k<N.m->0<=f k)(ρ:Nat->Int)(hr:∀k,k<N.m->ρ (N.t k)<ρ (N.h k)){j:Nat}(hj:j<N.m)(h0:ρ 0<ρ (N.h j))(h1:ρ (N.h j)<=ρ 1):f j<=a:=by
 have g:=hf fun v=>if ρ (N.h j)<=ρ v then 1 else 0
 simp only[if_pos h1,if_neg (aP6.mpr h0)]at g;rw[show a=a*(1 - 0)by lia,<-g];have k0:∀k,k<N.m->0<=f k*((if ρ (N.h j)<=ρ (N.h k)then(1:Int)else 0) - if ρ (N.h j)<=ρ (N.t k)then 1 else 0):=fun k hk=>by
  refine dN (hc k hk) ?_
  have:=hr k hk;split<;>split<;>lia
 have hl:=hr j hj;have:=aMc k0 hj;rw[if_pos (bP _),if_neg (by lia)]at this
 lia
end NF
namespace NF
variable {N:Nt}{f p q st:Nat->Int}{a e x:Int}{n:Nat}
def In(N:Nt)(n:Nat):Prop:=∀k,k<N.m->N.t k<n/\N.h k<n
structure Least(N:Nt)(n:Nat)(f st p:Nat->Int):Prop where
 ge:∀v,v<n->st v<=p v
 pot:Pot N f p
 le:∀q,(∀v,v<n->st v<=q v)->Pot N f q->∀v,v<n->p v<=q v
def Open(N:Nt)(f:Nat->Int)(o:Nat×Bool):Prop:=o.1<N.m/\0<rr N f o
theorem pD:Pot N f p↔∀o,Open N f o->p (rt N o)+rd N o<=p (rh N o):=by
 constructor
 ·rintro h ⟨k,b⟩ ⟨hk,ho⟩;obtain⟨h1,h2⟩:=h k hk;unfold rr at ho;unfold rt rd rh;cases b
  ·simp only[b8,if_false]at ho|-;have:=h2 ho;lia
  ·simp only[if_true]at ho|-;exact h1 (by lia)
 ·intro h k hk
  refine⟨fun h1=>?_,fun h1=>?_⟩
  ·have:=h (k,true) ⟨hk,by unfold rr;simp only[if_true];lia⟩;simpa only[rt,rd,rh,if_true]using this
  ·have:=h (k,false) ⟨hk,by unfold rr;simp only[b8,if_false];lia⟩;simp only[rt,rd,rh,b8,if_false]at this
   lia
theorem aHc{o:Nat×Bool}(hq:Pot N f q)(ho:Open N f o)(hl:∀v,v<n->p v<=q v)(hi:rt N o<n):∀v,v<n->up p (rh N o) (p (rt N o)+rd N o) v<=q v:=fun v hv=>by
 unfold up;split
 ·rename_i z;subst z;have:=pD.mp hq o ho;have:=hl _ hi
  lia
 ·exact hl v hv
theorem reach(L:Least N n f st p)(hi:In N n)(h1:1<n)(R:Nat->Prop)(hz:∀v,v<n->p v=st v->R v)(hc:∀o,Open N f o->R (rt N o)->p (rt N o)+rd N o=p (rh N o)->R (rh N o)):R 1:=by
 by_cases hr:R 1
 ·exact hr
 ·exfalso;have key:=L.le (fun v=>open Classical in if R v then p v else p v - 1) (fun v hv=>?_) (pD.mpr fun o ho=>?_) 1 h1
  ·simp only[if_neg hr]at key;lia
  ·have:=L.ge v hv;try dsimp only
   split
   ·exact this
   ·rename_i z;have:p v≠st v:=fun w=>z (hz v hv w)
    lia
  ·have h:=pD.mp L.pot o ho;have h':=hc o ho;try dsimp only
   split
   ·rename_i z1;split
    ·exact h
    ·rename_i z2;have:p (rt N o)+rd N o≠p (rh N o):=fun w=>z2 (h' z1 w)
     lia
   ·split<;>lia
theorem aJO(h1:Pot N f p)(h2:Pot N f q)(x:Int):Pot N f fun v=>if p v<q v - x then q v - x else p v:=pD.mpr fun o ho=>by
 have:=pD.mp h1 o ho;have:=pD.mp h2 o ho;try dsimp only
 split<;>split<;>lia
end NF
namespace NF
structure Wk where
 u:Nat->Int
 l:Nat->Int
 p:Nat->Int
noncomputable def net(w:Wk)(n:Nat)(es:List (Nat×Nat))(P:Int):Nt where
 m:=4*n+es.length
 t k:=if k<4*n then(match k%4 with|0=>0|1=>2*(k/4)+2|2=>2*(k/4)+2|_=>2*(k/4)+3)else 2*((es[k - 4*n]?).getD (0,0)).1+3
 h k:=if k<4*n then(match k%4 with|0=>2*(k/4)+2|1=>2*(k/4)+3|2=>2*(k/4)+3|_=>1)else 2*((es[k - 4*n]?).getD (0,0)).2+2
 d k:=if k<4*n then(match k%4 with|1=>w.u (k/4)|2=>w.l (k/4)|_=>0)else 0
 c k:=if k<4*n/\k%4=1 then w.p (k/4)else P
variable {w:Wk}{n:Nat}{es:List (Nat×Nat)}{P:Int}{f p q:Nat->Int}{a:Int}
variable{r:Nat->Int}{i:Nat}
inductive Pipe(w:Wk)(n:Nat)(es:List (Nat×Nat))(P:Int)(k:Nat):Prop where
 |src (i:Nat) (hi:i<n) (e:k=4*i) (t:(net w n es P).t k=0) (h:(net w n es P).h k=2*i+2) (d:(net w n es P).d k=0) (c:(net w n es P).c k=P)
 |usu (i:Nat) (hi:i<n) (e:k=4*i+1) (t:(net w n es P).t k=2*i+2) (h:(net w n es P).h k=2*i+3) (d:(net w n es P).d k=w.u i) (c:(net w n es P).c k=w.p i)
 |lea (i:Nat) (hi:i<n) (e:k=4*i+2) (t:(net w n es P).t k=2*i+2) (h:(net w n es P).h k=2*i+3) (d:(net w n es P).d k=w.l i) (c:(net w n es P).c k=P)
 |snk (i:Nat) (hi:i<n) (e:k=4*i+3) (t:(net w n es P).t k=2*i+3) (h:(net w n es P).h k=1) (d:(net w n es P).d k=0) (c:(net w n es P).c k=P)
 |nee (x y:Nat) (j:Nat) (hj:es[j]?=some (x,y)) (e:k=4*n+j) (t:(net w n es P).t k=2*x+3) (h:(net w n es P).h k=2*y+2) (d:(net w n es P).d k=0) (c:(net w n es P).c k=P)
theorem pipe{k:Nat}(hk:k<(net w n es P).m):Pipe w n es P k:=by
 have hk:k<4*n+es.length:=hk;by_cases h4:k<4*n
 ·have hi:k/4<n:=by lia
  have hm:k%4=0\/k%4=1\/k%4=2\/k%4=3:=by lia
  rcases hm with hm|hm|hm|hm
  ·exact .src (k/4) hi (by lia) (by simp[net,h4,hm]) (by simp[net,h4,hm]) (by simp[net,h4,hm]) (by simp[net,h4,hm])
  ·exact .usu (k/4) hi (by lia) (by simp[net,h4,hm]) (by simp[net,h4,hm]) (by simp[net,h4,hm]) (by simp[net,h4,hm])
  ·exact .lea (k/4) hi (by lia) (by simp[net,h4,hm]) (by simp[net,h4,hm]) (by simp[net,h4,hm]) (by simp[net,h4,hm])
  ·exact .snk (k/4) hi (by lia) (by simp[net,h4,hm]) (by simp[net,h4,hm]) (by simp[net,h4,hm]) (by simp[net,h4,hm])
 ·have hj:k - 4*n<es.length:=by lia
  have e:es[k - 4*n]?=some (es[k - 4*n]):=bA hj
  exact .nee es[k - 4*n].1 es[k - 4*n].2 (k - 4*n) e (by lia) (by simp[net,h4,e]) (by simp[net,h4,e]) (by simp[net,h4,e]) (by simp[net,h4,e])
theorem uG(he:∀e∈es,e.1<n/\e.2<n):In (net w n es P) (2*n+2):=fun k hk=>by
 cases pipe hk with
 |src i hi e t h d c=>rw[t,h];lia
 |usu i hi e t h d c=>rw[t,h];lia
 |lea i hi e t h d c=>rw[t,h];lia
 |snk i hi e t h d c=>rw[t,h];lia
 |nee x y j hj e t h d c=>have:=he _ (bF hj);rw[t,h];lia
noncomputable def rk(n:Nat)(r:Nat->Int)(v:Nat):Int:=if v=0 then -1 else if v=1 then 2*n else if v%2=0 then 2*r (v/2 - 1)else 2*r (v/2 - 1)+1
theorem zE:rk n r (2*i+2)=2*r i:=by
 unfold rk;rw[if_neg (by lia),if_neg (by lia),if_pos (by lia),show(2*i+2)/2 - 1=i by lia]
theorem vI:rk n r (2*i+3)=2*r i+1:=by
 unfold rk;rw[if_neg (by lia),if_neg (by lia),if_neg (by lia),show(2*i+3)/2 - 1=i by lia]
theorem aLb(hr:∀i,i<n->0<=r i/\r i<n)(he:∀e∈es,r e.1<r e.2):∀k,k<(net w n es P).m->rk n r ((net w n es P).t k)<rk n r ((net w n es P).h k):=fun k hk=>by
 cases pipe hk with
 |src i hi e t h d c=>rw[t,h,zE];have:=hr i hi;show(-1:Int)<_;lia
 |usu i hi e t h d c=>rw[t,h,zE,vI];lia
 |lea i hi e t h d c=>rw[t,h,zE,vI];lia
 |snk i hi e t h d c=>rw[t,h,vI];have:=hr i hi;show _<(2*n:Int);lia
 |nee x y j hj e t h d c=>have:=he _ (bF hj);rw[t,h,zE,vI];simp only at this;lia
theorem aIW(hf:Flo (net w n es P) f a)(hc:Cap (net w n es P) f)(hr:∀i,i<n->0<=r i/\r i<n)(he:∀e∈es,r e.1<r e.2)(hn:∀e∈es,e.1<n/\e.2<n){k:Nat}(hk:k<(net w n es P).m):f k<=a:=by
 have up:=aLb (w:=w) (P:=P) hr he;have hu:=up k hk
 refine aDf hf (fun k hk=>(hc k hk).1) (rk n r) up hk ?_ ?_
 ·cases pipe hk with
  |src i hi e t h d c=>rw[t]at hu;exact hu
  |usu i hi e t h d c=>rw[h,vI];have:=hr i hi;show(-1:Int)<_;lia
  |lea i hi e t h d c=>rw[h,vI];have:=hr i hi;show(-1:Int)<_;lia
  |snk i hi e t h d c=>rw[h];show(-1:Int)<2*n;lia
  |nee x y j hj e t h d c=>rw[h,zE];have:=hr y (hn _ (bF hj)).2;show(-1:Int)<_;lia
 ·show _<=(2*n:Int);cases pipe hk with
  |src i hi e t h d c=>rw[h,zE];have:=hr i hi;lia
  |usu i hi e t h d c=>rw[h,vI];have:=hr i hi;lia
  |lea i hi e t h d c=>rw[h,vI];have:=hr i hi;lia
  |snk i hi e t h d c=>rw[h];exact bP _
  |nee x y j hj e t h d c=>rw[h,zE];have:=hr y (hn _ (bF hj)).2;lia
noncomputable def isU(n:Nat)(k:Nat):Bool:=decide (k<4*n/\k%4=1)
theorem aBr{g:Nat->Int}{n:Nat}:sm (4*n) g=sm n fun i=>g (4*i)+g (4*i+1)+g (4*i+2)+g (4*i+3):=by
 induction n with
 |zero=>rfl
 |succ n ih=>
  show sm (4*n) g+g (4*n)+g (4*n+1)+g (4*n+2)+g (4*n+3)=sm n (fun i=>g (4*i)+g (4*i+1)+g (4*i+2)+g (4*i+3))+(g (4*n)+g (4*n+1)+g (4*n+2)+g (4*n+3));rw[ih]
  lia
theorem v3{g:Nat->Int}{n:Nat}:∀{j:Nat},sm (n+j) g=sm n g+sm j fun i=>g (n+i)
 |0=>by show sm n g=sm n g+0;lia
 |j+1=>by
  show sm (n+j) g+g (n+j)=sm n g+(sm j (fun i=>g (n+i))+g (n+j));rw[v3];lia
theorem aL6:(sm (net w n es P).m fun k=>if isU n k then(net w n es P).c k else 0)=sm n w.p:=by
 show sm (4*n+es.length) _=_;rw[v3,aBr];rw[mR (n:=es.length) (fun i hi=>if_neg (by simp[isU];lia)),aOG]
 refine jX fun i hi=>?_
 have h0:isU n (4*i)=false:=by simp[isU]
 have h1:isU n (4*i+1)=true:=by simp[isU];lia
 have h2:isU n (4*i+2)=false:=by simp[isU]
 have h3:isU n (4*i+3)=false:=by simp[isU]
 rw[h0,h1,h2,h3];simp only[b8,if_false,if_true];have:(net w n es P).c (4*i+1)=w.p i:=by
  show(if 4*i+1<4*n/\(4*i+1)%4=1 then w.p ((4*i+1)/4)else P)=_;rw[if_pos (by lia),show(4*i+1)/4=i by lia]
 rw[this];lia
end NF
namespace NF
variable {w:Wk}{n:Nat}{es:List (Nat×Nat)}{P E:Int}{f p q b h:Nat->Int}{a:Int}
noncomputable def pf(E:Int)(b h:Nat->Int)(v:Nat):Int:=if v=0 then 0 else if v=1 then E else if v%2=0 then b (v/2 - 1)else b (v/2 - 1)+h (v/2 - 1)
theorem aF2{i:Nat}:pf E b h (2*i+2)=b i:=by
 unfold pf;rw[if_neg (by lia),if_neg (by lia),if_pos (by lia),show(2*i+2)/2 - 1=i by lia]
theorem aFf{i:Nat}:pf E b h (2*i+3)=b i+h i:=by
 unfold pf;rw[if_neg (by lia),if_neg (by lia),if_neg (by lia),show(2*i+3)/2 - 1=i by lia]
theorem aNu:pf E b h 0=0:=rfl
theorem aNH:pf E b h 1=E:=rfl
structure Tim(n:Nat)(es:List (Nat×Nat))(E:Int)(b h:Nat->Int):Prop where
 b0:∀i,i<n->0<=b i
 e:∀i,i<n->b i+h i<=E
 ne:∀x∈es,b x.1+h x.1<=b x.2
theorem aA0(T:Tim n es E b h)(hl:∀i,i<n->w.l i<=h i):∀k,k<(net w n es P).m->isU n k=false->pf E b h ((net w n es P).t k)+(net w n es P).d k<=pf E b h ((net w n es P).h k):=fun k hk hu=>by
 cases pipe hk with
 |src i hi e t h' d c=>rw[t,h',d,aF2,aNu];have:=T.b0 i hi;lia
 |usu i hi e t h' d c=>
  have:isU n k=true:=by unfold isU;rw[decide_eq_true_iff];lia
  rw[this]at hu;cases hu
 |lea i hi e t h' d c=>rw[t,h',d,aF2,aFf];have:=hl i hi;lia
 |snk i hi e t h' d c=>rw[t,h',d,aFf,aNH];have:=T.e i hi;lia
 |nee x y j hj e t h' d c=>rw[t,h',d,aF2,aFf];have:=T.ne _ (bF hj);simp only at this;lia
theorem aDM(hf:Flo (net w n es P) f a)(hc:Cap (net w n es P) f)(hp:Pot (net w n es P) f p)(h0:p 0<=0)(T:Tim n es E b w.l)(h1:E<p 1):a<=sm n w.p:=by
 rw[<-aL6 (w:=w) (n:=n) (es:=es) (P:=P)]
 exact cut hf hc hp (isU n) (aA0 T fun i _=>bP _) h0 h1
theorem plenty(hf:Flo (net w n es P) f a)(hc:Cap (net w n es P) f){r:Nat->Int}(hr:∀i,i<n->0<=r i/\r i<n)(he:∀e∈es,r e.1<r e.2)(hn:∀e∈es,e.1<n/\e.2<n)(ha:a<P){k:Nat}(hk:k<(net w n es P).m)(hu:isU n k=false):f k<(net w n es P).c k:=by
 have:=aIW hf hc hr he hn hk;have hP:(net w n es P).c k=P:=by
  show(if k<4*n/\k%4=1 then _ else P)=P;rw[if_neg];intro z;rw[show isU n k=true from decide_eq_true z]at hu;cases hu
 lia
theorem aBq(hp:Pot (net w n es P) f p)(ho:∀k,k<(net w n es P).m->isU n k=false->f k<(net w n es P).c k)(h0:p 0=0)(hn:∀e∈es,e.1<n/\e.2<n):
 (∀i,i<n->0<=p (2*i+2))/\(∀i,i<n->p (2*i+2)+w.l i<=p (2*i+3))/\(∀i,i<n->p (2*i+3)<=p 1)/\∀e∈es,p (2*e.1+3)<=p (2*e.2+2):=by
 have key:∀k,k<(net w n es P).m->isU n k=false->p ((net w n es P).t k)+(net w n es P).d k<=p ((net w n es P).h k):=fun k hk hu=>(hp k hk).1 (ho k hk hu)
 have hm:(net w n es P).m=4*n+es.length:=rfl
 refine⟨fun i hi=>?_,fun i hi=>?_,fun i hi=>?_,fun e he=>?_⟩
 ·have hk:4*i<(net w n es P).m:=by rw[hm];lia
  have:=key (4*i) hk (by simp[isU]);cases pipe hk with
  |src j hj e t h' d c=>obtain rfl:j=i:=by lia
                        rw[t,h',d,h0]at this;lia
  |usu j hj e=>lia
  |lea j hj e=>lia
  |snk j hj e=>lia
  |nee x y j hj e=>lia
 ·have hk:4*i+2<(net w n es P).m:=by rw[hm];lia
  have:=key (4*i+2) hk (by simp[isU]);cases pipe hk with
  |src j hj e=>lia
  |usu j hj e=>lia
  |lea j hj e t h' d c=>obtain rfl:j=i:=by lia
                        rw[t,h',d]at this;exact this
  |snk j hj e=>lia
  |nee x y j hj e=>lia
 ·have hk:4*i+3<(net w n es P).m:=by rw[hm];lia
  have:=key (4*i+3) hk (by simp[isU]);cases pipe hk with
  |src j hj e=>lia
  |usu j hj e=>lia
  |lea j hj e=>lia
  |snk j hj e t h' d c=>obtain rfl:j=i:=by lia
                        rw[t,h',d]at this;lia
  |nee x y j hj e=>lia
 ·obtain⟨j,hj⟩:=bT.mp he;have bi:=(aR.mp hj).1;have hk:4*n+j<(net w n es P).m:=by rw[hm];lia
  have:=key (4*n+j) hk (by unfold isU;rw[decide_eq_false_iff_not];lia);cases pipe hk with
  |src i hi e=>lia
  |usu i hi e=>lia
  |lea i hi e=>lia
  |snk i hi e=>lia
  |nee x y j' kn e' t h' d c=>
   obtain rfl:j'=j:=by lia
   rw[hj]at kn;cases kn;rw[t,h',d]at this;dsimp only;lia
theorem aF6{x:Int}(h:x<=0):pos x=0:=by unfold pos;rw[if_neg (by lia)]
theorem aHl(hq:∀k,k<(net w n es P).m->isU n k=false->p ((net w n es P).t k)+(net w n es P).d k<=p ((net w n es P).h k)):cost (net w n es P) p=sm n fun i=>w.p i*pos (w.u i - (p (2*i+3) - p (2*i+2))):=by
 have z:∀k,k<(net w n es P).m->isU n k=false->(net w n es P).c k*pos ((net w n es P).d k - (p ((net w n es P).h k) - p ((net w n es P).t k)))=0:=fun k hk hu=>by
  have:=hq k hk hu;rw[aF6 (by lia),aOr]
 have hm:(net w n es P).m=4*n+es.length:=rfl;unfold cost;show sm (4*n+es.length) _=_;rw[v3,aBr,mR (n:=es.length) (fun i hi=>z _ (by rw[hm];lia) (by unfold isU;rw[decide_eq_false_iff_not];lia)),aOG]
 refine jX fun i hi=>?_
 rw[z (4*i) (by rw[hm];lia) (by simp[isU]),z (4*i+2) (by rw[hm];lia) (by simp[isU]),z (4*i+3) (by rw[hm];lia) (by simp[isU])];have hk:4*i+1<(net w n es P).m:=by rw[hm];lia
 cases pipe hk with
 |src j hj e=>lia
 |usu j hj e t h' d c=>obtain rfl:j=i:=by lia
                       rw[t,h',d,c];lia
 |lea j hj e=>lia
 |snk j hj e=>lia
 |nee x y j hj e=>lia
end NF
namespace NF
variable {w:Wk}{n:Nat}{es:List (Nat×Nat)}{P E:Int}{f p q b h:Nat->Int}{a x:Int}
structure Good(w:Wk)(n:Nat)(es:List (Nat×Nat))(P:Int)(f:Nat->Int)(a:Int)(p:Nat->Int):Prop where
 flo:Flo (net w n es P) f a
 cap:Cap (net w n es P) f
 pot:Pot (net w n es P) f p
 p0:p 0=0
 ge:∀v,v<2*n+2->0<=p v
theorem Good.pour{r:List (Nat×Bool)}(G:Good w n es P f a p)(wk:Walk (net w n es P) r 0 1)(nd:(r.map (·.1)).Nodup)(tg:Tight (net w n es P) p r)(hx:0<=x)(hr:∀o∈r,x<=rr (net w n es P) f o):Good w n es P (pr r x f) (a+x) p:=
 ⟨G.flo.pour wk,G.cap.pour nd hx hr,G.pot.pour nd tg,G.p0,G.ge⟩
theorem Good.least(G:Good w n es P f a p)(L:Least (net w n es P) (2*n+2) f (fun _=>0) q):Good w n es P f a q/\∀v,v<2*n+2->q v<=p v:=by
 have h:=L.le p (fun v hv=>G.ge v hv) G.pot
 refine⟨⟨G.flo,G.cap,L.pot,?_,L.ge⟩,h⟩
 have h1:=h 0 (by lia);have h2:=L.ge 0 (by lia);rw[G.p0]at h1;try dsimp only at h2
 lia
theorem Good.bound(G:Good w n es P f a p)(T:Tim n es E b w.l)(h1:E<p 1):a<=sm n w.p:=aDM G.flo G.cap G.pot (by rw[G.p0];exact bP _) T h1
theorem Good.route(G:Good w n es P f a p)(L:Least (net w n es P) (2*n+2) f (fun _=>0) p)(ho:∀k,k<(net w n es P).m->isU n k=false->f k<(net w n es P).c k)(hn:∀e∈es,e.1<n/\e.2<n)(hl:∀i,i<n->0<=w.l i)(h0:0<n)
 (R:Nat->Prop)(r0:R 0)(hc:∀o,Open (net w n es P) f o->R (rt (net w n es P) o)->p (rt (net w n es P) o)+rd (net w n es P) o=p (rh (net w n es P) o)->R (rh (net w n es P) o)):R 1:=by
 obtain⟨q1,q2,q3,q4⟩:=aBq G.pot ho G.p0 hn;have hm:(net w n es P).m=4*n+es.length:=rfl;have fw:∀k,k<(net w n es P).m->isU n k=false->R ((net w n es P).t k)->p ((net w n es P).t k)+(net w n es P).d k=p ((net w n es P).h k)->R ((net w n es P).h k):=fun k hk hu hr ht=>by
  have:=hc (k,true) ⟨hk,by unfold rr;simp only[if_true];have:=ho k hk hu;lia⟩;simp only[rt,rh,rd,if_true]at this
  exact this hr ht
 have hb:∀i,i<n->p (2*i+2)=0->R (2*i+2):=fun i hi hz=>by
  have hk:4*i<(net w n es P).m:=by rw[hm];lia
  have:=fw (4*i) hk (by simp[isU]);cases pipe hk with
  |src j hj e t h' d c=>
   obtain rfl:j=i:=by lia
   rw[t,h',d,G.p0,hz]at this
   exact this r0 rfl
  |usu j hj e=>lia
  |lea j hj e=>lia
  |snk j hj e=>lia
  |nee x y j hj e=>lia
 have hd:∀i,i<n->p (2*i+3)=0->R (2*i+3):=fun i hi hz=>by
  have g1:=q1 i hi;have g2:=q2 i hi;have g3:=hl i hi;have hk:4*i+2<(net w n es P).m:=by rw[hm];lia
  have:=fw (4*i+2) hk (by simp[isU]);cases pipe hk with
  |src j hj e=>lia
  |usu j hj e=>lia
  |lea j hj e t h' d c=>
   obtain rfl:j=i:=by lia
   rw[t,h',d]at this
   exact this (hb j hi (by lia)) (by lia)
  |snk j hj e=>lia
  |nee x y j hj e=>lia
 refine reach L (uG hn) (by lia) R (fun v hv hz=>?_) hc
 try dsimp only at hz
 by_cases v0:v=0
 ·rw[v0];exact r0
 ·by_cases v1:v=1
  ·subst v1;have g1:=q1 0 h0;have g2:=q2 0 h0;have g3:=q3 0 h0;have g4:=hl 0 h0;have hk:3<(net w n es P).m:=by rw[hm];lia
   have:=fw 3 hk (by simp[isU]);cases pipe hk with
   |src j hj e=>lia
   |usu j hj e=>lia
   |lea j hj e=>lia
   |snk j hj e t h' d c=>
    obtain rfl:j=0:=by lia
    rw[t,h',d]at this
    exact this (hd 0 h0 (by lia)) (by lia)
   |nee x y j hj e=>lia
  ·by_cases ve:v%2=0
   ·obtain⟨i,rfl⟩:∃i,v=2*i+2:=⟨v/2 - 1,by lia⟩
    exact hb i (by lia) hz
   ·obtain⟨i,rfl⟩:∃i,v=2*i+3:=⟨v/2 - 1,by lia⟩
    exact hd i (by lia) hz
theorem Good.price(G:Good w n es P f a p)(ho:∀k,k<(net w n es P).m->isU n k=false->f k<(net w n es P).c k):len (net w n es P) f - a*p 1=sm n fun i=>w.p i*pos (w.u i - (p (2*i+3) - p (2*i+2))):=by
 have:=strong G.flo G.cap G.pot;rw[G.p0,dJ]at this;rw[this]
 exact aHl fun k hk hu=>(G.pot k hk).1 (ho k hk hu)
theorem best(hf:Flo (net w n es P) f a)(hc:Cap (net w n es P) f)(T:Tim n es E b h)(hl:∀i,i<n->w.l i<=h i):len (net w n es P) f - a*E<=sm n fun i=>w.p i*pos (w.u i - h i):=by
 have:=weak hf hc (pf E b h);rw[aNu,aNH,dJ,aHl (aA0 T hl)]at this
 refine dZ this (aPW (jX fun i _=>?_))
 rw[aF2,aFf,show b i+h i - b i=h i by lia]
end NF
namespace NF
variable{e:(Nat×Nat)×Int}{L:Fl}
noncomputable abbrev Fl:=List ((Nat×Nat)×Int)
noncomputable def sl(L:Fl)(g:Nat×Nat->Int):Int:=(L.map fun e=>e.2*g e.1).sum
theorem aLw{g:Nat×Nat->Int}:sl [] g=0:=rfl
theorem nB{g:Nat×Nat->Int}:sl (e::L) g=e.2*g e.1+sl L g:=by unfold sl;rw[aM,eP]
def Con(L:Fl)(a:Int):Prop:=∀p:Nat->Int,sl L (fun s=>p s.2 - p s.1)=a*(p 1 - p 0)
theorem aGX{g:Nat×Nat->Int}:∀{L:Fl},(∀e∈L,0<=e.2*g e.1)->0<=sl L g
 | [],_=>bP _
 |e::L,h=>by
  rw[nB];have:=h e bJ;have:=aGX fun e he=>h e (aU _ he)
  lia
theorem aDp{g:Nat×Nat->Int}:∀{L:Fl},(∀e∈L,0<=e.2*g e.1)->∀e∈L,e.2*g e.1<=sl L g
 | [],_,_,he=>by cases he
 |e::L,h,e',he=>by
  rw[nB];have h0:=aGX fun e he=>h e (aU _ he)
  rcases bE.mp he with rfl|he
  ·lia
  ·have:=aDp (fun e he=>h e (aU _ he)) e' he;have:=h e bJ
   lia
theorem aKn{a:Int}(hc:Con L a)(h0:∀e∈L,0<=e.2){v:Nat}(hv0:v≠0)(lm:v≠1)(he:e∈L)(hv:e.1.2=v)(hp:0<e.2):∃e'∈L,e'.1.1=v/\0<e'.2:=by
 have hh:¬∀e'∈L,e'.1.1=v->¬0<e'.2:=fun no=>by
  have k:=hc fun u=>if u=v then 1 else 0
  rw[if_neg (Ne.symm lm),if_neg (Ne.symm hv0)]at k;have nn:∀e'∈L,0<=e'.2*((if e'.1.2=v then(1:Int)else 0) - if e'.1.1=v then 1 else 0):=fun e' iw=>by
   have z:=h0 e' iw;by_cases ht:e'.1.1=v
   ·have:e'.2=0:=by have:=no e' iw ht;lia
    rw[this,dI];exact bP _
   ·rw[if_neg ht,dJ];split
    ·lia
    ·lia
  have:=aDp (g:=fun s=>(if s.2=v then(1:Int)else 0) - if s.1=v then 1 else 0) nn e he;rw[if_pos hv]at this;by_cases ht:e.1.1=v
  ·exact no e he ht hp
  ·rw[if_neg ht]at this;simp only[aPX,aOr]at k;have k':sl L (fun s=>(if s.2=v then(1:Int)else 0) - if s.1=v then 1 else 0)=0:=k
   lia
 apply cX;intro h
 exact hh fun e' iw ht hp'=>h ⟨e',iw,ht,hp'⟩
theorem aJ5{a:Int}(hc:Con L a)(h0:∀e∈L,0<=e.2)(hz:∀e∈L,e.1.2≠0)(ha:0<a):∃e∈L,e.1.1=0/\0<e.2:=by
 apply cX;intro h;have k:=hc fun u=>if u=0 then 1 else 0
 rw[if_neg (by lia),if_pos rfl]at k;have k':sl L (fun s=>(if s.2=0 then(1:Int)else 0) - if s.1=0 then 1 else 0)=a*(0 - 1):=k;have:0<=sl L (fun s=>(if s.2=0 then(1:Int)else 0) - if s.1=0 then 1 else 0):=aGX fun e he=>by
  rw[if_neg (hz e he)];by_cases ht:e.1.1=0
  ·have z:=h0 e he;have:¬0<e.2:=fun hp=>h ⟨e,he,ht,hp⟩
   have:e.2=0:=by lia
   rw[this,dI];exact bP _
  ·rw[if_neg ht];simp
 lia
noncomputable def tk(x:Int)(s:Nat×Nat)(L:Fl):Fl:=L.map fun e=>if e.1=s then(e.1,e.2 - x)else e
theorem aKP{x:Int}{s:Nat×Nat}{g:Nat×Nat->Int}:∀{L:Fl},(L.map (·.1)).Nodup->s∈L.map (·.1)->sl (tk x s L) g=sl L g - x*g s
 | [],_,h=>by cases h
 |e::L,hn,h=>by
  rw[aM,bS]at hn;unfold tk;rw[aM,nB,nB];by_cases hs:e.1=s
  ·rw[if_pos hs];have hk:(L.map fun e=>if e.1=s then(e.1,e.2 - x)else e)=L:=by
    conv=>rhs;rw[<-List.map_id L]
    refine cR fun e' iw=>?_
    rw[if_neg fun z=>hn.1 (by rw[hs,<-z];exact cK iw)];rfl
   rw[hk];subst hs;dsimp only;rw[aOV];lia
  ·rw[if_neg hs];have hm:s∈L.map (·.1):=by
    rcases bE.mp h with z|z
    ·exact absurd z.symm hs
    ·exact z
   have:=aKP (x:=x) (g:=g) hn.2 hm;unfold tk at this;rw[this];lia
theorem wI{x:Int}{s:Nat×Nat}:(tk x s L).map (·.1)=L.map (·.1):=by
 unfold tk;rw[b6]
 refine cR fun e _=>?_
 show(if e.1=s then(e.1,e.2 - x)else e).1=e.1;split<;>rfl
end NF
namespace NF
variable {L:Fl}{a x:Int}
def SW:List (Nat×Nat)->Nat->Nat->Prop
 | [],u,v=>u=v
 |s::r,u,v=>s.1=u/\SW r s.2 v
def tks(x:Int):List (Nat×Nat)->Fl->Fl
 | [],L=>L
 |s::r,L=>tks x r (tk x s L)
theorem o0:∀{r:List (Nat×Nat)}{L:Fl},(tks x r L).map (·.1)=L.map (·.1)
 | [],_=>rfl
 |s::r,L=>by unfold tks;rw[o0,wI]
theorem aIz{p:Nat->Int}:∀{r:List (Nat×Nat)}{L:Fl}{u v:Nat},(L.map (·.1)).Nodup->(∀s∈r,s∈L.map (·.1))->SW r u v->sl (tks x r L) (fun s=>p s.2 - p s.1)=sl L (fun s=>p s.2 - p s.1) - x*(p v - p u)
 | [],L,u,v,_,_,h=>by cases h;unfold tks;rw[aPX,aOr,dJ]
 |s::r,L,u,v,hn,hm,⟨h1,h2⟩=>by
  unfold tks;rw[aIz (by rw[wI];exact hn) (fun s' hs=>by rw[wI];exact hm s' (aU _ hs)) h2,aKP hn (hm s bJ)];subst h1;rw[cI,cI,cI];lia
theorem Con.take{r:List (Nat×Nat)}(hc:Con L a)(hn:(L.map (·.1)).Nodup)(hm:∀s∈r,s∈L.map (·.1))(w:SW r 0 1):Con (tks x r L) (a - x):=fun p=>by
 rw[aIz hn hm w,hc p,aOV]
noncomputable def at_(L:Fl)(s:Nat×Nat):Int:=(L.lookup s).getD 0
theorem aK6{s s':Nat×Nat}:∀{L:Fl},at_ (tk x s L) s'=if s'=s/\s∈L.map (·.1)then at_ L s' - x else at_ L s'
 | []=>by unfold tk at_;simp
 |e::L=>by
  have ih:=aK6 (s:=s) (s':=s') (L:=L);unfold tk at_ at ih|-;rw[aM];by_cases h1:s'=e.1
  ·subst h1;have hl:dL e.1 (e::L)=some e.2:=by rw[bY,beq_self_eq_true]
   by_cases h2:e.1=s
   ·subst h2;rw[if_pos rfl,if_pos ⟨rfl,by simp⟩,hl,bY,beq_self_eq_true];rfl
   ·have:¬(e.1=s/\s∈(e::L).map (·.1)):=fun z=>h2 z.1
    rw[if_neg h2,if_neg this,hl,bY,beq_self_eq_true]
  ·have hb:(s'==e.1)=false:=beq_eq_false_iff_ne.mpr h1;have hl:dL s' ((if e.1=s then(e.1,e.2 - x)else e)::L.map fun e=>if e.1=s then(e.1,e.2 - x)else e)=dL s' (L.map fun e=>if e.1=s then(e.1,e.2 - x)else e):=by
    rw[bY];split
    ·rename_i z;exfalso;by_cases h2:e.1=s
     ·rw[if_pos h2]at z;rw[hb]at z;cases z
     ·rw[if_neg h2]at z;rw[hb]at z;cases z
    ·rfl
   rw[hl,ih];rw[show dL s' (e::L)=dL s' L from by rw[bY,hb]];by_cases h3:s'=s
   ·subst h3;simp only[true_and,aM,bE,h1,false_or]
   ·simp only[h3,false_and]
theorem aG1{s':Nat×Nat}:∀{r:List (Nat×Nat)}{L:Fl},(∀s∈r,s∈L.map (·.1))->at_ (tks x r L) s'=at_ L s' - x*(r.count s':Int)
 | [],L,_=>by unfold tks;simp
 |s::r,L,hm=>by
  unfold tks;rw[aG1 (fun s' hs=>by rw[wI];exact hm s' (aU _ hs)),aK6,aOC];by_cases h:s'=s
  ·subst h;rw[if_pos ⟨rfl,hm s' bJ⟩];simp only[beq_self_eq_true,if_true,Int.natCast_add,aP5]
   lia
  ·rw[if_neg (fun z=>h z.1),if_neg (by simpa using Ne.symm h)];simp
theorem aKK(hc:Con L a)(h0:∀e∈L,0<=e.2)(ρ:Nat->Int)(hr:∀e∈L,ρ e.1.1<ρ e.1.2){e:(Nat×Nat)×Int}(he:e∈L)(h1:ρ 0<ρ e.1.2)(h2:ρ e.1.2<=ρ 1):e.2<=a:=by
 have k:=hc fun v=>if ρ e.1.2<=ρ v then 1 else 0
 rw[if_pos h2,if_neg (aP6.mpr h1)]at k;have k':sl L (fun s=>(if ρ e.1.2<=ρ s.2 then(1:Int)else 0) - if ρ e.1.2<=ρ s.1 then 1 else 0)=a*(1 - 0):=k;have:=aDp (L:=L) (g:=fun s=>(if ρ e.1.2<=ρ s.2 then(1:Int)else 0) - if ρ e.1.2<=ρ s.1 then 1 else 0) (fun e' iw=>by
  refine dN (h0 e' iw) ?_
  have:=hr e' iw;split<;>split<;>lia) e he
 have hl:=hr e he;rw[if_pos (bP _),if_neg (by lia)]at this
 lia
end NF
namespace NF
variable {N:Nt}{f:Nat->Int}{a v:Int}{s:Nat×Nat}{g:Nat×Nat->Int}
noncomputable def ad(s:Nat×Nat)(v:Int):Fl->Fl
 | []=>[(s,v)]
 |e::L=>if e.1=s then(e.1,e.2+v)::L else e::ad s v L
theorem aK5:∀{L:Fl},sl (ad s v L) g=sl L g+v*g s
 | []=>by unfold ad;rw[nB,aLw];dsimp only;lia
 |e::L=>by
  unfold ad;split
  ·rename_i h;rw[nB,nB];subst h;dsimp only;rw[eX];lia
  ·rw[nB,nB,aK5];lia
theorem aDS{s':Nat×Nat}:∀{L:Fl},s'∈(ad s v L).map (·.1)↔s'=s\/s'∈L.map (·.1)
 | []=>by unfold ad;simp
 |e::L=>by
  unfold ad;split
  ·rename_i h;subst h;simp only[aM,bE];constructor
   ·exact .inr
   ·rintro(h|h)
    ·exact .inl h
    ·exact h
  ·simp only[aM,bE];rw[aDS];constructor
   ·rintro(h|h|h)
    ·exact .inr (.inl h)
    ·exact .inl h
    ·exact .inr (.inr h)
   ·rintro(h|h|h)
    ·exact .inr (.inl h)
    ·exact .inl h
    ·exact .inr (.inr h)
theorem aBZ:∀{L:Fl},(L.map (·.1)).Nodup->((ad s v L).map (·.1)).Nodup
 | [],_=>by unfold ad;simp
 |e::L,h=>by
  unfold ad;rw[aM,bS]at h;split
  ·rw[aM,bS];exact h
  ·rename_i hs;rw[aM,bS]
   refine⟨fun z=>?_,aBZ h.2⟩
   rcases aDS.mp z with z|z
   ·exact hs z
   ·exact h.1 z
theorem aAn(hv:0<=v):∀{L:Fl},(∀e∈L,0<=e.2)->∀e∈ad s v L,0<=e.2
 | [],_,e,he=>by
   unfold ad at he;rw[bR.mp he];exact hv
 |e'::L,h,e,he=>by
  unfold ad at he;split at he
  ·rcases bE.mp he with rfl|he
   ·have:=h e' bJ;dsimp only;lia
   ·exact h e (aU _ he)
  ·rcases bE.mp he with rfl|he
   ·exact h e bJ
   ·exact aAn hv (fun e he=>h e (aU _ he)) e he
theorem aK7{s':Nat×Nat}:∀{L:Fl},at_ (ad s v L) s'=at_ L s'+if s'=s then v else 0
 | []=>by
   unfold ad at_;by_cases h:s'=s
   ·rw[bY,beq_iff_eq.mpr h,if_pos h];simp
   ·rw[bY,beq_eq_false_iff_ne.mpr h,if_neg h];simp
 |e::L=>by
  have ih:=aK7 (s':=s') (L:=L);unfold ad;by_cases h1:s'=e.1
  ·subst h1;have l1:∀M:Fl,at_ (e::M) e.1=e.2:=fun M=>by unfold at_;rw[bY,beq_self_eq_true];rfl
   by_cases h2:e.1=s
   ·rw[if_pos h2,if_pos h2,l1];unfold at_;rw[bY,beq_self_eq_true];rfl
   ·rw[if_neg h2,if_neg h2,l1,l1];lia
  ·have l1:∀(y:Int)(M:Fl),at_ ((e.1,y)::M) s'=at_ M s':=fun y M=>by unfold at_;rw[bY,beq_eq_false_iff_ne.mpr h1]
   have l2:∀M:Fl,at_ (e::M) s'=at_ M s':=fun M=>l1 e.2 M
   by_cases h2:e.1=s
   ·rw[if_pos h2,l1,l2,if_neg (fun z=>h1 (z.trans h2.symm))];lia
   ·rw[if_neg h2,l2,l2,ih]
def stp(N:Nt)(f:Nat->Int):Nat->Fl
 |0=>[]
 |k+1=>ad (N.t k,N.h k) (f k) (stp N f k)
theorem aHW:∀{k:Nat},sl (stp N f k) g=sm k fun j=>f j*g (N.t j,N.h j)
 |0=>rfl
 |k+1=>by
  show sl (ad _ _ _) g=sm k _+_;rw[aK5,aHW]
theorem aL2(hf:Flo N f a):Con (stp N f N.m) a:=fun p=>by rw[aHW];exact hf p
theorem uI:∀{k:Nat},((stp N f k).map (·.1)).Nodup
 |0=>List.Pairwise.nil
 |k+1=>aBZ uI
theorem xU(h:∀k,k<N.m->0<=f k):∀{k:Nat},k<=N.m->∀e∈stp N f k,0<=e.2
 |0,_,e,he=>by cases he
 |k+1,hk,e,he=>aAn (h k (by lia)) (xU h (by lia)) e he
theorem aHJ{s:Nat×Nat}:∀{k:Nat},at_ (stp N f k) s=sm k fun j=>if s=(N.t j,N.h j)then f j else 0
 |0=>rfl
 |k+1=>by
  show at_ (ad _ _ _) s=sm k _+_;rw[aK7,aHJ]
theorem wX{s:Nat×Nat}:∀{k:Nat},s∈(stp N f k).map (·.1)->∃j,j<k/\s=(N.t j,N.h j)
 |0,h=>by cases h
 |k+1,h=>by
  rcases aDS.mp h with h|h
  ·exact⟨k,by lia,h⟩
  ·obtain⟨j,hj,e⟩:=wX h
   exact⟨j,by lia,e⟩
end NF
namespace NF
variable {w:Wk}{n:Nat}{es:List (Nat×Nat)}{P:Int}{f p:Nat->Int}{a:Int}
theorem aN0:len (net w n es P) f=sm n fun i=>f (4*i+1)*w.u i+f (4*i+2)*w.l i:=by
 have hm:(net w n es P).m=4*n+es.length:=rfl;unfold len;show sm (4*n+es.length) _=_;rw[v3,aBr,mR (n:=es.length) (fun j hj=>?_),aOG]
 ·refine jX fun i hi=>?_
  have e0:(net w n es P).d (4*i)=0:=by
   cases pipe (w:=w) (es:=es) (P:=P) (show 4*i<(net w n es P).m by rw[hm];lia)with
   |src j hj e t h d c=>exact d
   |usu j hj e=>lia
   |lea j hj e=>lia
   |snk j hj e=>lia
   |nee x y j hj e=>lia
  have e1:(net w n es P).d (4*i+1)=w.u i:=by
   cases pipe (w:=w) (es:=es) (P:=P) (show 4*i+1<(net w n es P).m by rw[hm];lia)with
   |src j hj e=>lia
   |usu j hj e t h d c=>obtain rfl:j=i:=by lia
                        exact d
   |lea j hj e=>lia
   |snk j hj e=>lia
   |nee x y j hj e=>lia
  have e2:(net w n es P).d (4*i+2)=w.l i:=by
   cases pipe (w:=w) (es:=es) (P:=P) (show 4*i+2<(net w n es P).m by rw[hm];lia)with
   |src j hj e=>lia
   |usu j hj e=>lia
   |lea j hj e t h d c=>obtain rfl:j=i:=by lia
                        exact d
   |snk j hj e=>lia
   |nee x y j hj e=>lia
  have e3:(net w n es P).d (4*i+3)=0:=by
   cases pipe (w:=w) (es:=es) (P:=P) (show 4*i+3<(net w n es P).m by rw[hm];lia)with
   |src j hj e=>lia
   |usu j hj e=>lia
   |lea j hj e=>lia
   |snk j hj e t h d c=>exact d
   |nee x y j hj e=>lia
  rw[e0,e1,e2,e3];lia
 ·have:(net w n es P).d (4*n+j)=0:=by
   cases pipe (w:=w) (es:=es) (P:=P) (show 4*n+j<(net w n es P).m by rw[hm];lia)with
   |src i hi e=>lia
   |usu i hi e=>lia
   |lea i hi e=>lia
   |snk i hi e=>lia
   |nee x y i hi e t h d c=>exact d
  rw[this,aOr]
theorem aKA{f1 f2 u l pr:Int}(h1:0<=f1)(h2:f1<=pr)(h3:0<=f2)(h:0<f2->f1=pr\/u=l):f1*u+f2*l=if f1+f2<=pr then(f1+f2)*u else pr*u+(f1+f2 - pr)*l:=by
 by_cases z:f2=0
 ·subst z;rw[aOG,if_pos h2,dI,aOG]
 ·rcases h (by lia)with e|e
  ·subst e;rw[if_neg (by lia),show f1+f2 - f1=f2 by lia]
  ·subst e;split
   ·rw[eX]
   ·rw[<-eX,<-eX];congr 1;lia
theorem aA5(hc:Cap (net w n es P) f)(hp:Pot (net w n es P) f p)(jf:∀i,i<n->w.l i<=w.u i){i:Nat}(hi:i<n):0<f (4*i+2)->f (4*i+1)=w.p i\/w.u i=w.l i:=fun h2=>by
 have hm:(net w n es P).m=4*n+es.length:=rfl;have k1:4*i+1<(net w n es P).m:=by rw[hm];lia
 have k2:4*i+2<(net w n es P).m:=by rw[hm];lia
 have a1:=hp _ k1;have a2:=(hp _ k2).2 h2;have b1:=(hc _ k1).2;have hl:=jf i hi;cases pipe k2 with
 |src j hj e=>lia
 |usu j hj e=>lia
 |lea j hj e t h d c=>
  obtain rfl:j=i:=by lia
  rw[t,h,d]at a2;cases pipe k1 with
  |src j' kn e'=>lia
  |usu j' kn e' t' h' d' c'=>
   obtain rfl:j'=j:=by lia
   rw[t',h',d',c']at a1;rw[c']at b1;by_cases z:f (4*j'+1)<w.p j'
   ·have:=a1.1 z
    exact .inr (by lia)
   ·exact .inl (by lia)
  |lea j' kn e'=>lia
  |snk j' kn e'=>lia
  |nee x y j' kn e'=>lia
 |snk j hj e=>lia
 |nee x y j hj e=>lia
noncomputable def thr(f:Nat->Int)(i:Nat):Int:=f (4*i+1)+f (4*i+2)
theorem aGv(G:Good w n es P f a p)(jf:∀i,i<n->w.l i<=w.u i):len (net w n es P) f=sm n fun i=>if thr f i<=w.p i then thr f i*w.u i else w.p i*w.u i+(thr f i - w.p i)*w.l i:=by
 have hm:(net w n es P).m=4*n+es.length:=rfl;rw[aN0]
 refine jX fun i hi=>?_
 have k1:4*i+1<(net w n es P).m:=by rw[hm];lia
 have k2:4*i+2<(net w n es P).m:=by rw[hm];lia
 have c1:=G.cap _ k1;have c2:=G.cap _ k2;have hP:(net w n es P).c (4*i+1)=w.p i:=by
  show(if 4*i+1<4*n/\(4*i+1)%4=1 then w.p ((4*i+1)/4)else P)=_;rw[if_pos (by lia),show(4*i+1)/4=i by lia]
 rw[hP]at c1
 exact aKA c1.1 c1.2 c2.1 (aA5 G.cap G.pot jf hi)
end NF
namespace NF
variable {w:Wk}{n:Nat}{es:List (Nat×Nat)}{P P':Int}{f f' p q m:Nat->Int}{a a' e:Int}
theorem yW(G:Good w n es P f a p)(G':Good w n es P f' a' q)(h1:p 1=e)(h2:q 1=e):len (net w n es P) f - a*e=len (net w n es P) f' - a'*e:=by
 have s1:=strong G.flo G.cap G.pot;have s2:=strong G'.flo G'.cap G'.pot;have w1:=weak G.flo G.cap q;have w2:=weak G'.flo G'.cap p;rw[G.p0,h1,dJ]at s1 w2;rw[G'.p0,h2,dJ]at s2 w1
 lia
theorem Good.amid(G:Good w n es P f a m)(G':Good w n es P f a q)(h1:m 1<=e)(h2:e<=q 1):∃p,Good w n es P f a p/\p 1=e:=by
 refine⟨fun v=>if m v<q v - (q 1 - e)then q v - (q 1 - e)else m v,⟨G.flo,G.cap,aJO G.pot G'.pot _,?_,fun v hv=>?_⟩,?_⟩
 ·show(if m 0<q 0 - (q 1 - e)then q 0 - (q 1 - e)else m 0)=0;rw[G.p0,G'.p0,if_neg (by lia)]
 ·have:=G.ge v hv;show 0<=if m v<q v - (q 1 - e)then q v - (q 1 - e)else m v
  split<;>lia
 ·show(if m 1<q 1 - (q 1 - e)then q 1 - (q 1 - e)else m 1)=e;split<;>lia
end NF
namespace NF
variable {N:Nt}{n:Nat}{f st x p:Nat->Int}
variable{o:Nat×Bool}{r:List (Nat×Bool)}
structure Ris(N:Nt)(n:Nat)(f st x:Nat->Int):Prop where
 ge:∀v,v<n->st v<=x v
 le:∀q,(∀v,v<n->st v<=q v)->Pot N f q->∀v,v<n->x v<=q v
theorem Ris.start:Ris N n f st st:=⟨fun _ _=>bP _,fun q h _=>h⟩
theorem Ris.raise(R:Ris N n f st x)(ho:Open N f o)(hi:rt N o<n)(hr:x (rh N o)<x (rt N o)+rd N o):Ris N n f st (up x (rh N o) (x (rt N o)+rd N o)):=by
 refine⟨fun v hv=>?_,fun q hq hp=>aHc hp ho (R.le q hq hp) hi⟩
 have:=R.ge v hv;unfold up;split
 ·rename_i z;subst z;lia
 ·exact this
theorem Ris.done(R:Ris N n f st x)(h:∀o,Open N f o->x (rt N o)+rd N o<=x (rh N o)):Least N n f st x:=⟨R.ge,pD.mpr h,R.le⟩
theorem aH2{n:Nat}{x:Nat->Int}{k:Nat}{v:Int}(hk:k<n):sm n (up x k v)=sm n x+(v - x k):=by
 have:=aKY (f:=x) (g:=fun _=>1) (v:=v) hk;simpa using this
theorem Ris.sum_le(R:Ris N n f st x){q:Nat->Int}(hq:∀v,v<n->st v<=q v)(hp:Pot N f q):sm n x<=sm n q:=tT fun v hv=>R.le q hq hp v hv
theorem aAw(hh:rh N o<n)(hr:x (rh N o)<x (rt N o)+rd N o):sm n x<sm n (up x (rh N o) (x (rt N o)+rd N o)):=by
 rw[aH2 hh];lia
structure Rte(N:Nt)(f p:Nat->Int)(r:List (Nat×Bool))(v:Nat):Prop where
 wk:Walk N r 0 v
 tg:Tight N p r
 op:∀o∈r,Open N f o
 nd:(0::r.map (rh N)).Nodup
theorem Walk.snoc:∀{r:List (Nat×Bool)}{u v:Nat}{o:Nat×Bool},Walk N r u v->o.1<N.m->rt N o=v->Walk N (r++[o]) u (rh N o)
 | [],u,v,o,h,h1,h2=>by cases h;exact⟨h1,h2,rfl⟩
 |e::r,u,v,o,⟨a,b,c⟩,h1,h2=>⟨a,b,Walk.snoc c h1 h2⟩
theorem Rte.nil:Rte N f p [] 0:=⟨rfl,(fun e h=>by cases h),(fun e h=>by cases h),by simp⟩
theorem Rte.snoc{v:Nat}(R:Rte N f p r v)(ho:Open N f o)(ht:rt N o=v)(tg:p (rt N o)+rd N o=p (rh N o))(hn:rh N o∉0::r.map (rh N)):Rte N f p (r++[o]) (rh N o):=by
 refine⟨R.wk.snoc ho.1 ht,fun e he=>?_,fun e he=>?_,?_⟩
 ·rcases bL.mp he with he|he
  ·exact R.tg e he
  ·rw[bR.mp he];exact tg
 ·rcases bL.mp he with he|he
  ·exact R.op e he
  ·rw[bR.mp he];exact ho
 ·rw[bQ,<-aW]
  refine dO.mpr ⟨R.nd,by simp,fun a ha b hb=>?_⟩
  simp only[aM,bC,bR]at hb;rintro rfl;subst hb
  exact hn ha
theorem xZ:∀{r:List (Nat×Bool)}{u v:Nat},Walk N r u v->(u::r.map (rh N)).Nodup->(r.map (·.1)).Nodup
 | [],_,_,_,_=>List.Pairwise.nil
 |e::r,u,v,⟨_,h2,h3⟩,hn=>by
  rw[aM,bS]at hn;rw[aM,bS]
  refine⟨fun z=>?_,xZ h3 hn.2⟩
  obtain⟨e',iw,z⟩:=bM.mp z;have hm:rh N e'∈r.map (rh N):=cK iw;have h4:=(bS.mp hn.2).1;by_cases hb:e'.2=e.2
  ·have:e'=e:=aP1 z hb;subst this
   exact h4 hm
  ·have:rh N e'=rt N e:=by
    unfold rh rt;rw[z];cases h5:e'.2<;>cases h6:e.2<;>simp_all
   rw[this,h2]at hm
   exact hn.1 (aU _ hm)
theorem Rte.pipes{v:Nat}(R:Rte N f p r v):(r.map (·.1)).Nodup:=xZ R.wk R.nd
end NF
namespace NF
variable {n:Nat}{es:List (Nat×Nat)}
noncomputable def od{α:Type}:List α->List α
 |_::y::r=>y::od r
 |_=>[]
inductive Ky(n:Nat)(es:List (Nat×Nat))(s:Nat×Nat):Prop where
 |src (i:Nat) (hi:i<n) (e:s=(0,2*i+2))
 |wk (i:Nat) (hi:i<n) (e:s=(2*i+2,2*i+3))
 |snk (i:Nat) (hi:i<n) (e:s=(2*i+3,1))
 |nee (x y:Nat) (h:(x,y)∈es) (e:s=(2*x+3,2*y+2))
theorem aNk{w:Wk}{P:Int}{f:Nat->Int}{s:Nat×Nat}(h:s∈(stp (net w n es P) f (net w n es P).m).map (·.1)):Ky n es s:=by
 obtain⟨j,hj,rfl⟩:=wX h;cases pipe hj with
 |src i hi e t h d c=>exact .src i hi (by rw[t,h])
 |usu i hi e t h d c=>exact .wk i hi (by rw[t,h])
 |lea i hi e t h d c=>exact .wk i hi (by rw[t,h])
 |snk i hi e t h d c=>exact .snk i hi (by rw[t,h])
 |nee x y i hi e t h d c=>exact .nee x y (bF hi) (by rw[t,h])
noncomputable def stw(i:Nat):Nat×Nat:=(2*i+2,2*i+3)
def Chn(es:List (Nat×Nat)):Option Nat->List Nat->Prop
 |_,[]=>True
 |b,i::r=>(∀a,b=some a->(a,i)∈es)/\Chn es (some i) r
theorem aJw{i j:Nat}(h:stw i=stw j):i=j:=by
 unfold stw at h;have:=(aP7.inj h).1
 lia
theorem aHi:∀(r:List (Nat×Nat))(b:Option Nat),SW r (match b with|none=>0|some a=>2*a+3) 1->(∀s∈r,Ky n es s)->
 ∃is:List Nat,od r=is.map stw/\(∀i∈is,i<n)/\Chn es b is/\(b=none->is≠[])/\∀i,r.count (stw i)=is.count i
 | [],b,h,_=>by
   exfalso;have h:(match b with|none=>0|some a=>2*a+3)=1:=h;cases b<;>simp at h
 | [s],b,⟨h1,h2⟩,hk=>by
   have h2:s.2=1:=h2
   refine⟨[],rfl,by simp,trivial,fun hb=>?_,fun i=>?_⟩
   ·subst hb;exfalso;cases hk s bJ with
    |src i hi e=>rw[e]at h2;simp at h2
    |wk i hi e=>rw[e]at h1;simp at h1
    |snk i hi e=>rw[e]at h1;simp at h1
    |nee x y h e=>rw[e]at h1;simp at h1
   ·rw[List.count_singleton,List.count_nil,if_neg];intro z;have:s=stw i:=by simpa using z
    rw[this]at h2;unfold stw at h2;simp at h2
 |s::s2::r,b,⟨h1,h2,h3⟩,hk=>by
  have k1:=hk s bJ;have k2:=hk s2 (aU _ bJ);have key:∃i,i<n/\s2=stw i/\(∀a,b=some a->(a,i)∈es)/\∀j,s≠stw j:=by
   cases k1 with
   |src i hi e=>
    subst e;have hb:b=none:=by cases b<;>simp_all
    cases k2 with
    |src j hj e=>subst e;simp at h2
    |wk j hj e=>
     subst e
     refine⟨j,hj,rfl,fun a ha=>?_,fun j' z=>?_⟩
     ·rw[hb]at ha;cases ha
     ·unfold stw at z;simp at z
    |snk j hj e=>subst e;simp at h2;lia
    |nee x y h e=>subst e;simp at h2;lia
   |wk i hi e=>subst e;cases b<;>simp at h1<;>lia
   |snk i hi e=>
    subst e;cases k2 with
    |src j hj e=>subst e;simp at h2
    |wk j hj e=>subst e;simp at h2
    |snk j hj e=>subst e;simp at h2
    |nee x y h e=>subst e;simp at h2
   |nee x y h e=>
    subst e;cases k2 with
    |src j hj e=>subst e;simp at h2
    |wk j hj e=>
     subst e;have hjy:j=y:=by simp at h2;lia
     subst hjy
     refine⟨j,hj,rfl,fun a ha=>?_,fun j' z=>?_⟩
     ·subst ha;have:x=a:=by simp at h1;lia
      subst this;exact h
     ·unfold stw at z;simp at z;lia
    |snk j hj e=>subst e;simp at h2;lia
    |nee x' y' h' e=>subst e;simp at h2;lia
  obtain⟨i,hi,e2,hb,hs⟩:=key;subst e2;obtain⟨is,q1,q2,q3,_,q5⟩:=aHi r (some i) h3 fun s hs=>hk s (aU _ (aU _ hs))
  refine⟨i::is,?_,?_,⟨hb,q3⟩,fun _=>by simp,fun j=>?_⟩
  ·show stw i::od r=_;rw[q1];rfl
  ·intro j hj;rcases bE.mp hj with rfl|hj
   ·exact hi
   ·exact q2 j hj
  ·have c1:(s==stw j)=false:=beq_eq_false_iff_ne.mpr (hs j);rw[aOC,aOC,q5,aOC,c1];by_cases ko:i=j
   ·subst ko;simp
   ·have c2:(stw i==stw j)=false:=beq_eq_false_iff_ne.mpr fun z=>ko (aJw z)
    have c3:(i==j)=false:=beq_eq_false_iff_ne.mpr ko;rw[c2,c3];simp
end NF
namespace TL
open PySem L2
section
variable {τ:TSt}{C:Sto}{Q:T->Sto->Prop}{QL:List T->Sto->Prop}{QS:Fl->TSt->Sto->Prop}{a b c fo fk fv:FE}{fa:FN}{F:FS}
variable{cls:String}{ks:List (List Key)}{i j:Int}{G:List T->Sto->Option (T×Sto)}{td tk:T}
theorem aGd{c:Nat}{ns:List Str}{ts:List T}(e:C[c]?=some (.o cls ns,ts)):oc cls C (.cell c)=some (c,ns,ts):=by
 show(C[c]?).bind _=_;rw[e,aV]
 exact if_pos rfl
theorem uC{c:Nat}{ks:List Key}{ts:List T}(e:C[c]?=some (.dk ks,ts)):dkc C (.cell c)=some (c,ks,ts):=by
 show(C[c]?).bind _=_;rw[e];rfl
theorem aIu{c:Nat}{ts:List T}(e:C[c]?=some (.dt ks,ts)):dtc C (.cell c)=some (c,ks,ts):=by
 show(C[c]?).bind _=_;rw[e];rfl
theorem aGY{c:Nat}{ts:List T}(e:C[c]?=some (.dt ks,ts)\/C[c]?=some (.dz ks,ts)):dzc C (.cell c)=some (c,ks,ts):=by
 show(C[c]?).bind _=_;rcases e with e|e<;>(rw[e];rfl)
theorem aHz{c:Nat}{ts:List T}(e:C[c]?=some (.dt ks,ts)\/C[c]?=some (.dz ks,ts)):dkc C (.cell c)=none:=by
 show(C[c]?).bind _=_;rcases e with e|e<;>(rw[e];rfl)
def oQ(cls:String)(f:Str)(C:Sto)(t:T):Option T:=(oc cls C t).bind fun x=>getN f x.2.1 x.2.2
theorem v7{f:Str}:wpE (kY cls f a) τ C Q↔wpE a τ C fun t C1=>∃u,oQ cls f C1 t=some u/\Q u C1:=by
 rw[aDG];unfold wpE;constructor
 ·rintro⟨t,C1,e,u,C2,e2,q⟩;unfold aFO at e2;obtain⟨x,e3,e2⟩:=aK.mp e2;obtain⟨y,e4,e2⟩:=aL.mp e2;cases e2
  exact⟨t,_,e,u,by unfold oQ;rw[e3];exact e4,q⟩
 ·rintro⟨t,C1,e,u,e2,q⟩;unfold oQ at e2;obtain⟨x,e3,e2⟩:=aK.mp e2
  exact⟨t,C1,e,u,C1,by unfold aFO;rw[e3,aV,e2];rfl,q⟩
theorem aJd{f:Str}{t:T}:wpO (aFO cls f t C) Q↔∃u,oQ cls f C t=some u/\Q u C:=by
 unfold wpO aFO oQ;constructor
 ·rintro⟨u,C2,e2,q⟩;obtain⟨x,e3,e2⟩:=aK.mp e2;obtain⟨y,e4,e2⟩:=aL.mp e2;cases e2
  exact⟨u,by rw[e3];exact e4,q⟩
 ·rintro⟨u,e2,q⟩;obtain⟨x,e3,e2⟩:=aK.mp e2
  exact⟨u,C,by rw[e3,aV,e2];rfl,q⟩
def aEW(cls:String)(f:Str)(x:T)(C:Sto)(t:T):Option Sto:=(oc cls C t).bind fun y=>if y.2.1.length<900 then some (C.set y.1 (.o cls (pn f y.2.1),pv f x y.2.1 y.2.2))else none
theorem nG{f:Str}(h:wpE a τ C fun x C1=>wpE fo τ C1 fun t C2=>∃C3,aEW cls f x C2 t=some C3/\QS .nx τ C3):wpS (oI cls f fo a) τ C QS:=by
 obtain⟨x,C1,e1,t,C2,e2,C3,e3,q⟩:=h
 refine⟨.nx,τ,C3,?_,q⟩
 unfold oI;rw[e1,aV,e2,aV];unfold aEW at e3;obtain⟨y,e4,e3⟩:=aK.mp e3;rw[e4,aV];try dsimp only at e3|-
 split at e3
 ·rename_i h;cases e3;rw[if_pos h]
 ·cases e3
theorem xA{f:Str}{g:Int->Int->Int}(h:wpE fo τ C fun t C1=>oQ cls f C1 t=some (.int i)/\wpE a τ C1 fun x C2=>x=.int j/\∃C3,aEW cls f (.int (g i j)) C2 t=some C3/\QS .nx τ C3):wpS (vC cls f g fo a) τ C QS:=by
 obtain⟨t,C1,e1,e2,x,C2,e3,rfl,C3,e4,q⟩:=h
 refine⟨.nx,τ,C3,?_,q⟩
 unfold vC;rw[e1,aV];unfold oQ at e2;obtain⟨y,e5,e2⟩:=aK.mp e2;rw[e5,aV];try dsimp only at e2|-
 rw[e2,aV];try dsimp only
 rw[e3,aV];try dsimp only
 unfold aEW at e4;obtain⟨z,e6,e4⟩:=aK.mp e4;rw[e6,aV];try dsimp only at e4|-
 split at e4
 ·rename_i h;cases e4;rw[if_pos h]
 ·cases e4
theorem i7{n:Nat}:wpE (kU n G fa) τ C Q↔wpA fa τ C fun ts C1=>ts.length=n/\wpO (G ts C1) Q:=by
 rw[fV];unfold wpA wpO qG;constructor
 ·rintro⟨ts,C1,e,t,C2,e2,q⟩;split at e2
  ·exact⟨ts,C1,e,‹_›,t,C2,e2,q⟩
  ·cases e2
 ·rintro⟨ts,C1,e,h,t,C2,e2,q⟩
  exact⟨ts,C1,e,t,C2,by rw[if_pos h];exact e2,q⟩
def noAt(cls:String)(m:Str)(C:Sto)(t:T):Prop:=∃x,oc cls C t=some x/\getN m x.2.1 x.2.2=none
theorem jI{m:Str}{n:Nat}(h:wpE fo τ C fun t C1=>noAt cls m C1 t/\wpA fa τ C1 fun ts C2=>ts.length+1=n/\wpO (G (t::ts) C2) Q):wpE (jW cls m n G fo fa) τ C Q:=by
 obtain⟨t,C1,e1,⟨x,e2,e3⟩,ts,C2,e4,hl,r,C3,e5,q⟩:=h
 refine⟨r,C3,?_,q⟩
 unfold jW;rw[e1,aV];try dsimp only
 rw[e2,aV];try dsimp only
 rw[e3];try dsimp only
 rw[e4,aV];unfold qG;rw[if_pos (by simpa using hl)]
 exact e5
theorem sV{n:Nat}{gp:List T}(h:wpA fa τ C fun ts C1=>(ts++gp).length+1=n/\wpO (G (.cell C1.length::(ts++gp)) (C1++[(.o cls [],[])])) fun r C2=>r=.non/\Q (.cell C1.length) C2):wpE (sS cls n G gp fa) τ C Q:=by
 obtain⟨ts,C1,e1,hl,r,C2,e2,rfl,q⟩:=h
 refine⟨_,C2,?_,q⟩
 unfold sS;rw[e1,aV];try dsimp only
 unfold qG;rw[if_pos (by simpa using hl),e2];rfl
theorem iN{B:FS}{m:Nat}{ts:List T}(h:wpS B (st0 m ts) C fun l ag C'=>match l with
 | .nx=>Q .non C'
 | .rt r=>Q r C'
 |_=>False):wpO (nA B m ts C) Q:=by
 obtain⟨l,ag,C',e,q⟩:=h;cases l with
 |nx=>exact⟨_,C',by unfold nA;rw[e],q⟩
 |rt r=>exact⟨_,C',by unfold nA;rw[e],q⟩
 |bk=>exact q.elim
 |ct=>exact q.elim
 |ex c=>exact q.elim
theorem aCo{kd:Kd}:wpE (uW kd) τ C Q↔Q (.cell C.length) (C++[(kd,[])]):=by
 unfold wpE uW;constructor
 ·rintro⟨_,_,e,q⟩;cases e;exact q
 ·exact fun q=>⟨_,_,rfl,q⟩
theorem tM:wpO (aEC td tk C) Q↔∃t,dval C td tk=some (some t)/\Q t C:=by
 unfold wpO aEC;constructor
 ·rintro⟨t,C',e,q⟩;split at e
  ·rename_i u hu;cases e;exact⟨_,hu,q⟩
  ·cases e
 ·rintro⟨t,e,q⟩
  exact⟨t,C,by rw[e],q⟩
theorem aBt{n:Bool}:wpO (xD n tk td C) Q↔∃o,dval C td tk=some o/\Q (.bl (o.isSome==n)) C:=by
 unfold wpO xD;constructor
 ·rintro⟨t,C',e,q⟩;obtain⟨o,e1,e⟩:=aL.mp e;cases e
  exact⟨o,e1,q⟩
 ·rintro⟨o,e,q⟩
  exact⟨_,C,by rw[e];rfl,q⟩
theorem aFd(h:wpE fo τ C fun td C1=>isDc C1 td=true/\wpE fk τ C1 fun tk C2=>wpE fv τ C2 fun tx C3=>∃o,dval C3 td tk=some o/\Q (o.getD tx) C3):wpE (uP fo fk fv) τ C Q:=by
 obtain⟨td,C1,e1,hd,tk,C2,e2,tx,C3,e3,o,e4,q⟩:=h
 refine⟨_,C3,?_,q⟩
 unfold uP;rw[e1,aV];try dsimp only
 rw[if_pos hd,e2,aV];try dsimp only
 rw[e3,aV];try dsimp only
 rw[e4];rfl
theorem aBR(h:wpE fv τ C fun tv C1=>wpE fo τ C1 fun td C2=>wpE fk τ C2 fun tk C3=>∃C4,dput C3 td tk tv=some C4/\QS .nx τ C4):wpS (zH fo fk fv) τ C QS:=by
 obtain⟨tv,C1,e1,td,C2,e2,tk,C3,e3,C4,e4,q⟩:=h
 refine⟨.nx,τ,C4,?_,q⟩
 unfold zH;rw[e1,aV];try dsimp only
 rw[e2,aV];try dsimp only
 rw[e3,aV];try dsimp only
 rw[e4];rfl
theorem aHf{g:Int->Int->Int}(h:wpE fo τ C fun td C1=>wpE fk τ C1 fun tk C2=>dval C2 td tk=some (some (.int i))/\wpE fv τ C2 fun tv C3=>tv=.int j/\∃C4,dput C3 td tk (.int (g i j))=some C4/\QS .nx τ C4):wpS (aAL g fo fk fv) τ C QS:=by
 obtain⟨td,C1,e1,tk,C2,e2,e3,tv,C3,e4,rfl,C4,e5,q⟩:=h
 refine⟨.nx,τ,C4,?_,q⟩
 unfold aAL;rw[e1,aV];try dsimp only
 rw[e2,aV];try dsimp only
 rw[e3];try dsimp only
 rw[e4,aV];try dsimp only
 rw[e5];rfl
theorem aFI{k:Key}{x:T}(h:wpE fk τ (C++[(.dk [],[])]) fun tk C1=>kyT tk=some k/\wpE fv τ C1 fun tv C2=>tv=x/\C2[C.length]?=some (.dk [],[])/\Q (.cell C.length) (C2.set C.length (.dk [k],[x]))):wpE (uB fk fv) τ C Q:=by
 obtain⟨tk,C1,e1,e2,tv,C2,e3,rfl,e4,q⟩:=h
 refine⟨_,_,?_,q⟩
 unfold uB;rw[e1,aV];try dsimp only
 rw[e3,aV];try dsimp only
 rw[e2,aV];have:=uC e4;rw[this]
theorem aHa{c1 c2:Nat}{ks ks':List Key}{ts ci:List T}(h:wpE fo τ C fun td C1=>td=.cell c1/\isDc C1 td=true/\wpE fv τ C1 fun te C2=>te=.cell c2/\C2[c1]?=some (.dk ks,ts)/\C2[c2]?=some (.dk ks',ci)/\c1≠c2/\ks.length+ks'.length<=lim/\
 Q .non (C2.set c1 (.dk (mrgK ks' ci (ks,ts)).1,(mrgK ks' ci (ks,ts)).2))):wpE (wO fo fv) τ C Q:=by
 obtain⟨td,C1,e1,rfl,hd,te,C2,e2,rfl,e3,e4,hn,hl,q⟩:=h
 refine⟨_,_,?_,q⟩
 unfold wO;rw[e1,aV];try dsimp only
 rw[if_pos hd,e2,aV];try dsimp only
 have h1:=uC e3;have h2:=uC e4;rw[h1,h2,aV,aV];try dsimp only
 rw[if_pos ⟨hn,hl⟩]
theorem aJt:wpA (aEX a) τ C QL↔wpE a τ C fun t C1=>∃ts,liT C1 t=some ts/\QL (od ts) C1:=by
 unfold wpA wpE aEX;constructor
 ·rintro⟨us,C',e,q⟩;obtain⟨⟨t,C1⟩,e1,e⟩:=aK.mp e;obtain⟨ts,e2,e⟩:=aL.mp e;cases e
  exact⟨t,_,e1,ts,e2,q⟩
 ·rintro⟨t,C1,e1,ts,e2,q⟩
  exact⟨_,_,by rw[e1,aV,e2];rfl,q⟩
theorem aCA{g:FG}:wpS (wR a g F) τ C QS↔wpE a τ C fun t C1=>∃ts,liT C1 t=some ts/\wpS (kR (stays t ts) g F (aBx ts)) τ C1 QS:=by
 unfold wpS wpE wR;constructor
 ·rintro⟨l,ag,C',e,q⟩;obtain⟨⟨t,C1⟩,e1,e⟩:=aK.mp e;obtain⟨ts,e2,e⟩:=aK.mp e
  exact⟨t,C1,e1,ts,e2,l,ag,C',e,q⟩
 ·rintro⟨t,C1,e1,ts,e2,l,ag,C',e,q⟩
  exact⟨l,ag,C',by rw[e1,aV];try dsimp only;rw[e2,aV];exact e,q⟩
theorem aCt{α:Type}{f:α->T}{xs:List α}:aBx (xs.map f)=(xs.zipIdx).map fun p=>.tup [.int p.2,f p.1]:=by
 unfold aBx;rw[List.zipIdx_map,b6];rfl
theorem aFv{k:Nat}{is:List Nat}{g:FG}{fb:FB}{fe:FE}{c:Nat}{ts:List T}
 (h:wpE a τ C fun t C1=>t=.cell c/\C1[c]?=some (.dt ks,ts)/\ks.length=ts.length/\ks.length<lim/\wpC (j3 g fb fe (scT k is τ) (ks.map aHw) (C1.set c (.dz ks,ts))) fun us C2=>C2=C1.set c (.dz ks,ts)/\QL us C1):wpA (uU a k is g fb fe) τ C QL:=by
 obtain⟨t,C1,e1,rfl,e2,hl,fu,us,C2,e3,rfl,q⟩:=h;have hc:c<C1.length:=(aR.mp e2).1
 refine⟨us,C1,?_,q⟩
 unfold uU;rw[e1,aV];try dsimp only
 have h1:=aIu e2;rw[h1,aV];try dsimp only
 rw[if_pos ⟨fu,hl⟩,e3,aV];try dsimp only
 rw[bO hc];try dsimp only
 rw[eI,<-(aR.mp e2).2,eT]
end
end TL
namespace TL
open PySem L2
variable{c:Nat}{cls:String}{ns:List Str}
noncomputable def pnm:List Str:=["tail","head","hours","room","back"]
noncomputable def nnm:List Str:=["pipes","places"]
theorem m6{C:Sto}{x:Cl}(h:c<C.length):(C.set c x)[c]?=some x:=bO h
theorem lL{C:Sto}{x:Cl}(h:C[c]?=some x):c<C.length:=(aR.mp h).1
theorem lX{f:Str}{x:T}{C:Sto}{ns':List Str}{ts ci:List T}(e:C[c]?=some (.o cls ns,ts))(h:ns.length<900)(h1:pn f ns=ns')(h2:pv f x ns ts=ci):aEW cls f x C (.cell c)=some (C.set c (.o cls ns',ci)):=by
 unfold aEW;rw[aGd e,aV];dsimp only;rw[if_pos h,h1,h2]
theorem kZ{f:Str}{C:Sto}{ts:List T}{u:T}(e:C[c]?=some (.o cls ns,ts))(h:getN f ns ts=some u):oQ cls f C (.cell c)=some u:=by
 unfold oQ;rw[aGd e];exact h
theorem jZ{m:Str}{C:Sto}{ts:List T}(e:C[c]?=some (.o cls ns,ts))(h:getN m ns ts=none):noAt cls m C (.cell c):=⟨_,aGd e,h⟩
end TL
namespace Lib
open PySem L2 TL
variable{c:Nat}{h d r:T}{Q:T->Sto->Prop}
theorem aBU{C:Sto}{t:T}(e:C[c]?=some (.o "Pipe" [],[]))(q:Q .non (C.set c (.o "Pipe" pnm,[t,h,d,r,.non]))):wpO (mI [.cell c,t,h,d,r] C) Q:=by
 have hc:=lL e
 refine iN ?_
 unfold x9;walk_at "b"
 refine fJ.mpr (nG ?_)
 try simp_arith[if_true]
 refine⟨_,lX e (by decide) rfl rfl,?_⟩
 refine nG ?_
 try simp_arith[if_true]
 refine⟨_,lX (m6 hc) (by decide) rfl rfl,?_⟩
 rw[eI]
 refine nG ?_
 try simp_arith[if_true]
 refine⟨_,lX (m6 hc) (by decide) rfl rfl,?_⟩
 rw[eI]
 refine nG ?_
 try simp_arith[if_true]
 refine⟨_,lX (m6 hc) (by decide) rfl rfl,?_⟩
 rw[eI]
 refine nG ?_
 try simp_arith[if_true]
 refine⟨_,lX (m6 hc) (by decide) rfl rfl,?_⟩
 rw[eI]
 exact q
theorem q8{C:Sto}{t:T}(q:Q .non (C++[(.o "Pipe" pnm,[t,h,d,r,.non])])):wpO (mI [.cell C.length,t,h,d,r] (C++[(.o "Pipe" [],[])])) Q:=by
 refine aBU (by simp) ?_
 rw[b7 _ _ (bD _),dE]
 exact q
theorem aME{C:Sto}{d:Nat}{ps:List T}{pl:T}{t h x r:Int}(e1:C[c]?=some (.o "Net" nnm,[.cell d,pl]))(e2:C[d]?=some (.l,ps))(hl:ps.length<lim)
 (q:Q .non (C.set d (.l,ps++[.cell C.length])++[(.o "Pipe" pnm,[.int t,.int h,.int x,.int r,.cell (C.length+1)]),(.o "Pipe" pnm,[.int h,.int t,.int (-x),.int 0,.cell C.length])])):
 wpO (jL [.cell c,.int t,.int h,.int x,.int r] C) Q:=by
 have hc:=lL e1;have hd:=lL e2
 refine iN ?_
 unfold aAd;walk_at "b"
 refine fJ.mpr (f6.mpr (sV ?_))
 try simp_arith[if_true]
 first|refine q8 ⟨rfl,?_⟩|refine⟨rfl,q8 ⟨rfl,?_⟩⟩
 try simp_arith[if_true]
 refine sV ?_
 try simp_arith[if_true]
 first|refine q8 ⟨rfl,?_⟩|refine⟨rfl,q8 ⟨rfl,?_⟩⟩
 try simp_arith[if_true]
 have l1:(C++[(Kd.o "Pipe" pnm,[T.int t,T.int h,T.int x,T.int r,T.non])]).length=C.length+1:=by simp
 rw[l1];have f1:(C++[(Kd.o "Pipe" pnm,[T.int t,T.int h,T.int x,T.int r,T.non])]++[(Kd.o "Pipe" pnm,[T.int h,T.int t,T.int (-x),T.int 0,T.non])])[C.length]?=some (Kd.o "Pipe" pnm,[T.int t,T.int h,T.int x,T.int r,T.non]):=by simp
 refine nG ?_
 try simp_arith[if_true]
 refine⟨_,lX f1 (by decide) rfl rfl,?_⟩
 have f2:((C++[(Kd.o "Pipe" pnm,[T.int t,T.int h,T.int x,T.int r,T.non])]++[(Kd.o "Pipe" pnm,[T.int h,T.int t,T.int (-x),T.int 0,T.non])]).set C.length (Kd.o "Pipe" pnm,[T.int t,T.int h,T.int x,T.int r,T.cell (C.length+1)]))=C++[(Kd.o "Pipe" pnm,[T.int t,T.int h,T.int x,T.int r,T.cell (C.length+1)]),(Kd.o "Pipe" pnm,[T.int h,T.int t,T.int (-x),T.int 0,T.non])]:=by
  rw[cS,b7 _ _ (bD _),dE];rfl
 rw[show(pv ("back":Str) (T.cell (C.length+1)) pnm [T.int t,T.int h,T.int x,T.int r,T.non])=[T.int t,T.int h,T.int x,T.int r,T.cell (C.length+1)]from rfl,show pn ("back":Str) pnm=pnm from rfl,f2];try simp_arith[if_true]
 refine nG ?_
 try simp_arith[if_true]
 have f3:(C++[(Kd.o "Pipe" pnm,[T.int t,T.int h,T.int x,T.int r,T.cell (C.length+1)]),(Kd.o "Pipe" pnm,[T.int h,T.int t,T.int (-x),T.int 0,T.non])])[C.length+1]?=some (Kd.o "Pipe" pnm,[T.int h,T.int t,T.int (-x),T.int 0,T.non]):=by
  rw[bI (by lia)];simp
 refine⟨_,lX f3 (by decide) rfl rfl,?_⟩
 have f4:((C++[(Kd.o "Pipe" pnm,[T.int t,T.int h,T.int x,T.int r,T.cell (C.length+1)]),(Kd.o "Pipe" pnm,[T.int h,T.int t,T.int (-x),T.int 0,T.non])]).set (C.length+1) (Kd.o "Pipe" pnm,[T.int h,T.int t,T.int (-x),T.int 0,T.cell C.length]))=C++[(Kd.o "Pipe" pnm,[T.int t,T.int h,T.int x,T.int r,T.cell (C.length+1)]),(Kd.o "Pipe" pnm,[T.int h,T.int t,T.int (-x),T.int 0,T.cell C.length])]:=by
  rw[b7 _ _ (by lia),show C.length+1 - C.length=1 by lia];rfl
 rw[show(pv ("back":Str) (T.cell C.length) pnm [T.int h,T.int t,T.int (-x),T.int 0,T.non])=[T.int h,T.int t,T.int (-x),T.int 0,T.cell C.length]from rfl,show pn ("back":Str) pnm=pnm from rfl,f4];simp only[aJd];have g1:(C++[(Kd.o "Pipe" pnm,[T.int t,T.int h,T.int x,T.int r,T.cell (C.length+1)]),(Kd.o "Pipe" pnm,[T.int h,T.int t,T.int (-x),T.int 0,T.cell C.length])])[c]?=some (.o "Net" nnm,[.cell d,pl]):=by rw[aT hc];exact e1
 have g2:lc (C++[(Kd.o "Pipe" pnm,[T.int t,T.int h,T.int x,T.int r,T.cell (C.length+1)]),(Kd.o "Pipe" pnm,[T.int h,T.int t,T.int (-x),T.int 0,T.cell C.length])]) d=some ps:=by rw[f9,aT hd];exact e2
 refine⟨_,kZ g1 rfl,d,rfl,by rw[g2];rfl,ps,g2,hl,?_⟩
 rw[aPg _ _ hd]
 exact q
end Lib
namespace Lib
open PySem L2 TL NF
variable{c:Nat}{nd:List (List Int)}
noncomputable def pc(c:Nat)(o:Nat×Bool):Nat:=c+2+2*o.1+if o.2 then 0 else 1
theorem aNl{k:Nat}:pc c (k,true)=c+2+2*k:=rfl
theorem aMZ{k:Nat}:pc c (k,false)=c+2+2*k+1:=rfl
def pcell(N:Nt)(f:Nat->Int)(c:Nat)(o:Nat×Bool):Cl:=(.o "Pipe" pnm,[.int (rt N o),.int (rh N o),.int (rd N o),.int (rr N f o),.cell (pc c (o.1,!o.2))])
structure Pre(N:Nt)(k:Nat)(C0:Sto)(pl:Int)(C:Sto):Prop where
 pre:∀i,i<C0.length->C[i]?=C0[i]?
 len:C.length=C0.length+2+2*k
 net:C[C0.length]?=some (.o "Net" nnm,[.cell (C0.length+1),.int pl])
 lst:C[C0.length+1]?=some (.l,(bK k).map fun j=>.cell (pc C0.length (j,true)))
 pip:∀o:Nat×Bool,o.1<k->C[pc C0.length o]?=some (pcell N (fun _=>0) C0.length o)
theorem Pre.lay{N:Nt}{k:Nat}{C0 C:Sto}{pl:Int}(P:Pre N k C0 pl C)(hk:k<90000){t h d r:Int}(ht:t=N.t k)(hh:h=N.h k)(hd:d=N.d k)(hr:r=N.c k){Q:T->Sto->Prop}(q:∀C',Pre N (k+1) C0 pl C'->Q .non C'):
 wpO (jL [.cell C0.length,.int t,.int h,.int d,.int r] C) Q:=by
 subst ht hh hd hr
 refine aME P.net P.lst (by simp[lim];lia) (q _ ?_)
 have hl:=P.len;have kl:C0.length+1<C.length:=by lia
 have old:∀i,i<C.length->i≠C0.length+1->(C.set (C0.length+1) (Kd.l,(bK k).map (fun j=>T.cell (pc C0.length (j,true)))++[T.cell C.length])++
  [(Kd.o "Pipe" pnm,[T.int (N.t k),T.int (N.h k),T.int (N.d k),T.int (N.c k),T.cell (C.length+1)]),(Kd.o "Pipe" pnm,[T.int (N.h k),T.int (N.t k),T.int (-N.d k),T.int 0,T.cell C.length])])[i]?=C[i]?:=fun i hi hn=>by
  rw[aT (by simpa using hi),aQ (Ne.symm hn)]
 refine⟨fun i hi=>?_,by simp;lia,?_,?_,fun o ho=>?_⟩
 ·rw[old i (by lia) (by lia)];exact P.pre i hi
 ·rw[old _ (by lia) (by lia)];exact P.net
 ·rw[aT (by simpa using kl),bO kl,aPa,bQ,hl];rfl
 ·by_cases hok:o.1<k
  ·rw[old _ (by unfold pc;split<;>lia) (by unfold pc;lia)]
   exact P.pip o hok
  ·have:o.1=k:=by lia
   obtain⟨j,b⟩:=o;cases this;cases b with
   |true=>
    rw[aNl,bI (by simp;lia)];simp only[cL,hl,dE,cM];unfold pcell rt rh rd rr;simp[aMZ]
   |false=>
    rw[aMZ,bI (by simp;lia)];simp only[cL,hl];rw[show C0.length+2+2*j+1 - (C0.length+2+2*j)=1 by lia];unfold pcell rt rh rd rr;simp[aNl]
noncomputable def fP(ws:List (Int×Int×Int)):Wk:=⟨fun i=>((ws[i]?).getD (0,0,0)).1,fun i=>((ws[i]?).getD (0,0,0)).2.1,fun i=>((ws[i]?).getD (0,0,0)).2.2⟩
noncomputable def iA:Nat->List (List Int)->List (Nat×Nat)
 |_,[]=>[]
 |s,l::r=>(l.map fun a=>(a.toNat,s))++iA (s+1) r
theorem aBo:∀{nd:List (List Int)}{s b j:Nat}{l:List Int}{a:Int},nd[b]?=some l->l[j]?=some a->(iA s nd)[(iA s (nd.take b)).length+j]?=some (a.toNat,s+b)
 | [],s,b,j,l,a,h,_=>by simp at h
 |x::nd,s,0,j,l,a,h,h2=>by
  simp at h;subst h;show((x.map fun a=>(a.toNat,s))++iA (s+1) nd)[0+j]?=_;rw[aOh,aT (by simpa using(aR.mp h2).1),bH,h2];rfl
 |x::nd,s,b+1,j,l,a,h,h2=>by
  have ih:=aBo (s:=s+1) (b:=b) (nd:=nd) (by simpa using h) h2;show((x.map fun a=>(a.toNat,s))++iA (s+1) nd)[((x.map fun a=>(a.toNat,s))++iA (s+1) (nd.take b)).length+j]?=_;rw[bB,aOW,bI (by lia),Nat.add_sub_cancel_left,ih];congr 2;lia
theorem aE6:∀{s b:Nat}{l:List Int},nd[b]?=some l->(iA s (nd.take (b+1))).length=(iA s (nd.take b)).length+l.length:=by
 induction nd with
 |nil=>intro s b l h;simp at h
 |cons x nd ih=>
  intro s b l h;cases b with
  |zero=>simp at h;subst h;simp[iA]
  |succ b=>
   have:=ih (s:=s+1) (b:=b) (by simpa using h);simp only[aPl,iA,bB,aS]at this|-
   lia
theorem aCw{z:Nat}(h:∀l∈nd,l.length<=z):∀{s:Nat},(iA s nd).length<=nd.length*z:=by
 induction nd with
 |nil=>intro s;simp[iA]
 |cons x nd ih=>
  intro s;have h1:=h x bJ;have h2:=ih (fun l hl=>h l (aU _ hl)) (s:=s+1);simp only[iA,bB,aS,aN,Nat.add_mul,Nat.one_mul]
  lia
theorem aGh{e:Nat×Nat}:∀{s:Nat},e∈iA s nd->∃b l a,nd[b]?=some l/\a∈l/\e=(a.toNat,s+b):=by
 induction nd with
 |nil=>intro s h;simp[iA]at h
 |cons x nd ih=>
  intro s h;rcases bL.mp (show e∈(x.map fun a=>(a.toNat,s))++iA (s+1) nd from h)with h|h
  ·obtain⟨a,ha,rfl⟩:=bM.mp h
   exact⟨0,x,a,rfl,ha,rfl⟩
  ·obtain⟨b,l,a,h1,h2,h3⟩:=ih h
   exact⟨b+1,l,a,by simpa using h1,h2,by rw[h3];congr 1;lia⟩
theorem aIZ{b:Nat}{l:List Int}{a:Int}(h:nd[b]?=some l)(ha:a∈l):(a.toNat,b)∈iA 0 nd:=by
 obtain⟨j,hj⟩:=bT.mp ha;have:=aBo (s:=0) h hj;rw[aOh]at this
 exact bF this
end Lib
namespace Lib
open PySem L2 TL NF
variable{i:Nat}{w:Wk}{es:List (Nat×Nat)}{P:Int}
theorem yQ:iS [.int i]=some (.int (2*i+2)):=by
 apply iW;unfold rO;walk_at "b";simp_arith[if_true]
 refine⟨gW (by lia) (by lia),?_⟩
 rfl
theorem zU:jC [.int i]=some (.int (2*i+3)):=by
 apply iW;unfold tU;walk_at "b";simp_arith[if_true]
 refine⟨gW (by lia) (by lia),?_⟩
 rfl
theorem aDP:rA [.int (2*i+2)]=some (.int i):=by
 apply iW;unfold aAI;walk_at "b";simp_arith[if_true]
 refine⟨by decide,?_⟩
 show some (T.int ((2*(i:Int)+2)/2 - 1))=_;congr 2;lia
theorem aKg{n:Nat}(hi:i<n):(net w n es P).t (4*i)=0/\(net w n es P).h (4*i)=2*i+2/\(net w n es P).d (4*i)=0/\(net w n es P).c (4*i)=P:=by
 have h4:4*i<4*n:=by lia
 have hm:4*i%4=0:=by lia
 have hd:4*i/4=i:=by lia
 refine⟨?_,?_,?_,?_⟩<;>simp[net,h4,hm,hd]
theorem aJU{n:Nat}(hi:i<n):(net w n es P).t (4*i+1)=2*i+2/\(net w n es P).h (4*i+1)=2*i+3/\(net w n es P).d (4*i+1)=w.u i/\(net w n es P).c (4*i+1)=w.p i:=by
 have h4:4*i+1<4*n:=by lia
 have hm:(4*i+1)%4=1:=by lia
 have hd:(4*i+1)/4=i:=by lia
 refine⟨?_,?_,?_,?_⟩<;>simp[net,h4,hm,hd]
theorem aKm{n:Nat}(hi:i<n):(net w n es P).t (4*i+2)=2*i+2/\(net w n es P).h (4*i+2)=2*i+3/\(net w n es P).d (4*i+2)=w.l i/\(net w n es P).c (4*i+2)=P:=by
 have h4:4*i+2<4*n:=by lia
 have hm:(4*i+2)%4=2:=by lia
 have hd:(4*i+2)/4=i:=by lia
 refine⟨?_,?_,?_,?_⟩<;>simp[net,h4,hm,hd]
theorem aKL{n:Nat}(hi:i<n):(net w n es P).t (4*i+3)=2*i+3/\(net w n es P).h (4*i+3)=1/\(net w n es P).d (4*i+3)=0/\(net w n es P).c (4*i+3)=P:=by
 have h4:4*i+3<4*n:=by lia
 have hm:(4*i+3)%4=3:=by lia
 have hd:(4*i+3)/4=i:=by lia
 refine⟨?_,?_,?_,?_⟩<;>simp[net,h4,hm,hd]
theorem aJY{n:Nat}{j a b:Nat}(hj:es[j]?=some (a,b)):(net w n es P).t (4*n+j)=2*a+3/\(net w n es P).h (4*n+j)=2*b+2/\(net w n es P).d (4*n+j)=0/\(net w n es P).c (4*n+j)=P:=by
 have h4:¬4*n+j<4*n:=by lia
 have hs:4*n+j - 4*n=j:=by lia
 refine⟨?_,?_,?_,?_⟩<;>simp[net,h4,hs,hj]
noncomputable def plenty(ws:List (Int×Int×Int))(bonus:Int):Int:=(ws.map (·.2.2)).sum+bonus+1
def hJ(ws:List (Int×Int×Int))(nd:List (List Int))(bonus:Int):Nt:=net (fP ws) ws.length (iA 0 nd) (plenty ws bonus)
theorem aGe{C:Sto}{c:Nat}{t h d r:Int}{τ:TSt}{QS:TL.Fl->TSt->Sto->Prop}{ft fh fd fr:FE}{pl:T}{e:Nat}(h0:τ[0]?=some (some (.cell c)))(h1:C[c]?=some (.o "Net" nnm,[.cell e,pl]))
 (ht:ft τ C=some (.int t,C))(hh:fh τ C=some (.int h,C))(hd:fd τ C=some (.int d,C))(hr:fr τ C=some (.int r,C))(q:wpO (jL [.cell c,.int t,.int h,.int d,.int r] C) fun _ C'=>QS .nx τ C'):
 wpS (mB (jW "Net" "lay" 5 jL Y0 (e7 ft (e7 fh (e7 fd (e7 fr fG)))))) τ C QS:=by
 refine mW.mpr (jI ?_)
 refine e9.mpr ⟨_,h0,jZ h1 rfl,?_⟩
 refine fB.mpr ⟨_,_,ht,fB.mpr ⟨_,_,hh,fB.mpr ⟨_,_,hd,fB.mpr ⟨_,_,hr,fH.mpr ⟨rfl,q⟩⟩⟩⟩⟩
theorem pK{τ:TSt}{C:Sto}{k:Nat}(h:τ[k]?=some (some (.int i))):f7 1 iS (e7 (iY k) fG) τ C=some (.int (2*i+2),C):=by
 have:wpE (f7 1 iS (e7 (iY k) fG)) τ C fun t C'=>t=.int (2*i+2)/\C'=C:=by
  refine fV.mpr (fB.mpr (e9.mpr ⟨_,h,fH.mpr ?_⟩))
  exact(gC yQ rfl rfl).mpr ⟨rfl,rfl⟩
 obtain⟨t,C',e,rfl,rfl⟩:=this
 exact e
theorem rG{τ:TSt}{C:Sto}{k:Nat}(h:τ[k]?=some (some (.int i))):f7 1 jC (e7 (iY k) fG) τ C=some (.int (2*i+3),C):=by
 have:wpE (f7 1 jC (e7 (iY k) fG)) τ C fun t C'=>t=.int (2*i+3)/\C'=C:=by
  refine fV.mpr (fB.mpr (e9.mpr ⟨_,h,fH.mpr ?_⟩))
  exact(gC zU rfl rfl).mpr ⟨rfl,rfl⟩
 obtain⟨t,C',e,rfl,rfl⟩:=this
 exact e
theorem wL{τ:TSt}{C:Sto}{k:Nat}{t:T}(h:τ[k]?=some (some t)):iY k τ C=some (t,C):=by unfold iY;rw[h]
theorem aGx{τ:TSt}{C:Sto}{k:Nat}{w:Int×Int×Int}(h:τ[k]?=some (some (w3 w))):fIx (iY k) (fI 0) τ C=some (.int w.1,C)/\fIx (iY k) (fI 1) τ C=some (.int w.2.1,C)/\fIx (iY k) (fI 2) τ C=some (.int w.2.2,C):=by
 refine⟨?_,?_,?_⟩<;>(show(iY k τ C).bind _=_;rw[wL h];rfl)
end Lib
namespace Lib
open PySem L2 TL NF
variable{C0:Sto}{pl bonus:Int}{QS:TL.Fl->TSt->Sto->Prop}{ws:List (Int×Int×Int)}{nd:List (List Int)}
theorem Pre.step{N:Nt}{k:Nat}{C:Sto}(P:Pre N k C0 pl C)(hk:k<90000){t h d r:Int}{τ:TSt}{ft fh fd fr:FE}(h0:τ[0]?=some (some (.cell C0.length)))
 (ht:ft τ C=some (.int t,C))(hh:fh τ C=some (.int h,C))(hd:fd τ C=some (.int d,C))(hr:fr τ C=some (.int r,C))(e:t=N.t k/\h=N.h k/\d=N.d k/\r=N.c k)(q:∀C',Pre N (k+1) C0 pl C'->QS .nx τ C'):
 wpS (mB (jW "Net" "lay" 5 jL Y0 (e7 ft (e7 fh (e7 fd (e7 fr fG)))))) τ C QS:=
 aGe h0 P.net ht hh hd hr (P.lay hk e.1 e.2.1 e.2.2.1 e.2.2.2 fun C' h=>q C' h)
theorem aGq{C:Sto}{i:Nat}{w:Int×Int×Int}{τ:TSt}(hw:ws[i]?=some w)(hl:ws.length<=8)(P:Pre (hJ ws nd bonus) (4*i) C0 pl C)
 (h0:τ[0]?=some (some (.cell C0.length)))(h4:τ[4]?=some (some (.int (plenty ws bonus))))(h5:τ[5]?=some (some (.int i)))(h6:τ[6]?=some (some (w3 w)))(q:∀C',Pre (hJ ws nd bonus) (4*(i+1)) C0 pl C'->QS .nx τ C'):wpS n9 τ C QS:=by
 have hi:i<ws.length:=(aR.mp hw).1;have eu:(fP ws).u i=w.1:=by simp[fP,hw]
 have el:(fP ws).l i=w.2.1:=by simp[fP,hw]
 have ep:(fP ws).p i=w.2.2:=by simp[fP,hw]
 unfold n9;obtain⟨a1,a2,a3,a4⟩:=aKg (w:=fP ws) (es:=iA 0 nd) (P:=plenty ws bonus) hi
 refine fJ.mpr (P.step (t:=0) (h:=2*i+2) (d:=0) (r:=plenty ws bonus) (by lia) h0 rfl (pK h5) rfl (wL h4) ⟨by rw[show(hJ ws nd bonus).t (4*i)=0 from a1];rfl,by rw[show(hJ ws nd bonus).h (4*i)=_ from a2];simp,by rw[show(hJ ws nd bonus).d (4*i)=_ from a3],by rw[show(hJ ws nd bonus).c (4*i)=_ from a4]⟩ fun C1 P1=>?_)
 obtain⟨a1,a2,a3,a4⟩:=aJU (w:=fP ws) (es:=iA 0 nd) (P:=plenty ws bonus) hi
 refine fW.mpr (fJ.mpr (P1.step (t:=2*i+2) (h:=2*i+3) (d:=w.1) (r:=w.2.2) (by lia) h0 (pK h5) (rG h5) (aGx h6).1 (aGx h6).2.2 ⟨by rw[show(hJ ws nd bonus).t (4*i+1)=_ from a1];simp,by rw[show(hJ ws nd bonus).h (4*i+1)=_ from a2];simp,by rw[show(hJ ws nd bonus).d (4*i+1)=_ from a3,eu],by rw[show(hJ ws nd bonus).c (4*i+1)=_ from a4,ep]⟩ fun C2 P2=>?_))
 obtain⟨a1,a2,a3,a4⟩:=aKm (w:=fP ws) (es:=iA 0 nd) (P:=plenty ws bonus) hi
 refine fW.mpr (fJ.mpr (P2.step (t:=2*i+2) (h:=2*i+3) (d:=w.2.1) (r:=plenty ws bonus) (by lia) h0 (pK h5) (rG h5) (aGx h6).2.1 (wL h4) ⟨by rw[show(hJ ws nd bonus).t (4*i+1+1)=_ from a1];simp,by rw[show(hJ ws nd bonus).h (4*i+1+1)=_ from a2];simp,by rw[show(hJ ws nd bonus).d (4*i+1+1)=_ from a3,el],by rw[show(hJ ws nd bonus).c (4*i+1+1)=_ from a4]⟩ fun C3 P3=>?_))
 obtain⟨a1,a2,a3,a4⟩:=aKL (w:=fP ws) (es:=iA 0 nd) (P:=plenty ws bonus) hi
 refine fW.mpr (P3.step (t:=2*i+3) (h:=1) (d:=0) (r:=plenty ws bonus) (by lia) h0 (rG h5) rfl rfl (wL h4) ⟨by rw[show(hJ ws nd bonus).t (4*i+1+1+1)=_ from a1];simp,by rw[show(hJ ws nd bonus).h (4*i+1+1+1)=_ from a2];rfl,by rw[show(hJ ws nd bonus).d (4*i+1+1+1)=_ from a3],by rw[show(hJ ws nd bonus).c (4*i+1+1+1)=_ from a4]⟩ fun C4 P4=>q C4 ?_)
 rw[show 4*(i+1)=4*i+1+1+1+1 by lia];exact P4
theorem aFe{C:Sto}{b:Nat}{l:List Int}{τ:TSt}(hb:nd[b]?=some l)(hnn:∀a∈l,0<=a)(hsz:4*ws.length+(iA 0 nd).length<90000)(P:Pre (hJ ws nd bonus) (4*ws.length+(iA 0 (nd.take b)).length) C0 pl C)
 (oh:τ.length=10)(h0:τ[0]?=some (some (.cell C0.length)))(h4:τ[4]?=some (some (.int (plenty ws bonus))))(h7:τ[7]?=some (some (.int b)))(h8:τ[8]?=some (some (iT l)))
 (q:∀ag C',(∀i,i<7->ag[i]?=τ[i]?)->ag.length=10->Pre (hJ ws nd bonus) (4*ws.length+(iA 0 (nd.take (b+1))).length) C0 pl C'->QS .nx ag C'):wpS oA τ C QS:=by
 unfold oA
 refine nK.mpr (e9.mpr ⟨_,h8,l.map T.int,rfl,?_⟩)
 refine j0 (en:=T.int) (xs:=l) (fun j ag C'=>(∀i,i<9->ag[i]?=τ[i]?)/\ag.length=10/\Pre (hJ ws nd bonus) (4*ws.length+(iA 0 (nd.take b)).length+j) C0 pl C') ⟨fun _ _=>rfl,oh,P⟩ ?_ ?_
 ·rintro j a ag C' hj ⟨e1,e2,P'⟩;have he:=aBo (s:=0) hb hj;rw[aOh]at he;have bi:(iA 0 (nd.take b)).length+j<(iA 0 nd).length:=(aR.mp he).1;have ha:0<=a:=hnn a (bF hj);obtain⟨a1,a2,a3,a4⟩:=aJY (w:=fP ws) (n:=ws.length) (P:=plenty ws bonus) he
  refine gB.mpr ?_
  have g0:(ag.set 9 (some (T.int a)))[0]?=some (some (.cell C0.length)):=by rw[aQ (by decide),e1 0 (by decide)];exact h0
  have g4:(ag.set 9 (some (T.int a)))[4]?=some (some (.int (plenty ws bonus))):=by rw[aQ (by decide),e1 4 (by decide)];exact h4
  have g7:(ag.set 9 (some (T.int a)))[7]?=some (some (.int b)):=by rw[aQ (by decide),e1 7 (by decide)];exact h7
  have g9:(ag.set 9 (some (T.int a)))[9]?=some (some (.int (a.toNat:Int))):=by rw[bO (by rw[e2];decide),b5 ha]
  unfold u0
  refine P'.step (t:=2*a.toNat+3) (h:=2*b+2) (d:=0) (r:=plenty ws bonus) (by lia) g0 (rG g9) (pK g7) rfl (wL g4) ?_ fun C2 P2=>⟨trivial,fun i hi=>?_,by simpa using e2,by rw[aOW]at P2;exact P2⟩
  ·rw[aOW]
   exact⟨by rw[show(hJ ws nd bonus).t _=_ from a1];simp,by rw[show(hJ ws nd bonus).h _=_ from a2];simp,by rw[show(hJ ws nd bonus).d _=_ from a3],by rw[show(hJ ws nd bonus).c _=_ from a4]⟩
  ·rw[aQ (by lia)];exact e1 i hi
 ·rintro ag C' ⟨e1,e2,P'⟩
  refine q ag C' (fun i hi=>e1 i (by lia)) e2 ?_
  rw[aE6 hb,<-aOW];exact P'
end Lib
namespace Lib
open PySem L2 TL NF
theorem yO{ws:List (Int×Int×Int)}{ps:List (Int×Int)}{nd:List (List Int)}{bonus:Int}{C0:Sto}(hl:ws.length<=8)(hp:ps.length<=1000)(hw:InW ws.length ps)(hN:gQ [.int ws.length,.lst (ps.map pT)]=some (.lst (nd.map iT)))(gy:Nd ps ws.length nd){Q:T->Sto->Prop}
 (q:∀C',Pre (hJ ws nd bonus) (hJ ws nd bonus).m C0 (2*ws.length+2) C'->Q .non C'):wpO (lK [.cell C0.length,.lst (ws.map w3),.lst (ps.map pT),.int bonus] (C0++[(.o "Net" [],[])])) Q:=by
 have hsz:4*ws.length+(iA 0 nd).length<90000:=by
  have:=aCw (nd:=nd) (z:=1000) (fun l hl=>?_) (s:=0)
  ·rw[gy.1]at this;have h2:ws.length*1000<=8*1000:=aPi _ hl
   lia
  ·obtain⟨b,hb⟩:=bT.mp hl
   exact cA (gy.2 b l hb).1 hp
 refine iN ?_
 unfold aAy;walk_at "b"
 refine fJ.mpr (nG ?_)
 try simp_arith[if_true]
 refine⟨by decide,?_⟩
 have f1:(C0++[(Kd.o "Net" [],[])]++[(Kd.l,[])])[C0.length]?=some (Kd.o "Net" [],[]):=by simp
 refine⟨_,lX f1 (by decide) rfl rfl,?_⟩
 have f2:(C0++[(Kd.o "Net" [],[])]++[(Kd.l,[])]).set C0.length (Kd.o "Net" ["pipes"],[T.cell (C0.length+1)])=C0++[(Kd.o "Net" ["pipes"],[T.cell (C0.length+1)]),(Kd.l,[])]:=by
  rw[cS,b7 _ _ (bD _),dE];rfl
 have f0:(C0++[(Kd.o "Net" [],([]:List T))]).length=C0.length+1:=by simp
 rw[f0];rw[show pn ("pipes":Str) []=[("pipes":Str)]from rfl,show TL.pv ("pipes":Str) (T.cell (C0.length+1)) [] []=[T.cell (C0.length+1)]from rfl,f2]
 refine nG ?_
 try simp_arith[if_true]
 refine⟨gW (by lia) (by lia),?_⟩
 have f3:(C0++[(Kd.o "Net" ["pipes"],[T.cell (C0.length+1)]),(Kd.l,[])])[C0.length]?=some (Kd.o "Net" ["pipes"],[T.cell (C0.length+1)]):=by simp
 refine⟨_,lX f3 (by decide) rfl rfl,?_⟩
 have f4:∀x:T,(C0++[(Kd.o "Net" ["pipes"],[T.cell (C0.length+1)]),(Kd.l,[])]).set C0.length (Kd.o "Net" (pn ("places":Str) ["pipes"]),TL.pv ("places":Str) x ["pipes"] [T.cell (C0.length+1)])=C0++[(Kd.o "Net" nnm,[T.cell (C0.length+1),x]),(Kd.l,[])]:=fun x=>by
  rw[b7 _ _ (bD _),dE];rfl
 rw[f4];try simp_arith[if_true]
 rw[aS]
 refine⟨by simp[lim];lia,?_⟩
 refine iH (xs:=ws) (en:=w3) (fun w=>T.int w.2.2) (fun w _=>?_) ?_
 ·try simp_arith[if_true]
  exact⟨_,rfl,_,rfl,_,rfl,rfl⟩
 refine⟨_,lT (f:=fun w:Int×Int×Int=>w.2.2),?_⟩
 have P0:Pre (hJ ws nd bonus) (4*0) C0 (2*ws.length+2) (C0++[(Kd.o "Net" nnm,[T.cell (C0.length+1),T.int (2*ws.length+2)]),(Kd.l,[])]):=by
  refine⟨fun i hi=>aT hi,by simp,by simp,?_,fun o ho=>by lia⟩
  rw[bI (by lia),show C0.length+1 - C0.length=1 by lia];rfl
 refine aCA.mpr ?_
 try simp_arith[if_true]
 rw[aCt]
 refine j0 (xs:=ws.zipIdx) (fun i τ C=>τ.length=10/\τ[0]?=some (some (.cell C0.length))/\τ[1]?=some (some (.lst (ws.map w3)))/\τ[2]?=some (some (.lst (ps.map pT)))/\τ[4]?=some (some (.int (plenty ws bonus)))/\Pre (hJ ws nd bonus) (4*i) C0 (2*ws.length+2) C) ⟨rfl,rfl,rfl,rfl,rfl,P0⟩ ?_ ?_
 ·rintro i ⟨w,k⟩ τ C hi ⟨t1,t2,t3,t4,t5,P⟩;rw[aOy]at hi;obtain⟨w',ii,e⟩:=aL.mp hi;cases e;rw[aOh]
  refine wS.mpr ⟨_,rfl,rfl,?_⟩
  show wpS n9 ((τ.set 5 (some (T.int i))).set 6 (some (w3 w))) C _
  refine aGq ii hl P ?_ ?_ ?_ ?_ fun C' P'=>⟨?_,?_,?_,?_,?_,?_,P'⟩
  ·rw[aQ (by decide),aQ (by decide)];exact t2
  ·rw[aQ (by decide),aQ (by decide)];exact t5
  ·rw[aQ (by decide),bO (by rw[t1];decide)]
  ·rw[bO (by rw[cL,t1];decide)]
  ·trivial
  ·simpa using t1
  ·rw[aQ (by decide),aQ (by decide)];exact t2
  ·rw[aQ (by decide),aQ (by decide)];exact t3
  ·rw[aQ (by decide),aQ (by decide)];exact t4
  ·rw[aQ (by decide),aQ (by decide)];exact t5
 ·rintro τ C ⟨t1,t2,t3,t4,t5,P⟩;rw[aPq]at P
  refine fW.mpr (aCA.mpr ?_)
  refine fV.mpr (fB.mpr ?_)
  refine fV.mpr (fB.mpr (e9.mpr ⟨_,t3,fH.mpr ?_⟩))
  refine lP.mpr ⟨_,rfl,fB.mpr (e9.mpr ⟨_,t4,fH.mpr ?_⟩)⟩
  rw[aS]
  refine(gC hN rfl (by walk_at "c";rw[lU];rfl)).mpr ⟨_,rfl,?_⟩
  rw[aCt]
  refine j0 (xs:=nd.zipIdx) (fun b τ C=>τ.length=10/\τ[0]?=some (some (.cell C0.length))/\τ[4]?=some (some (.int (plenty ws bonus)))/\Pre (hJ ws nd bonus) (4*ws.length+(iA 0 (nd.take b)).length) C0 (2*ws.length+2) C) ⟨t1,t2,t5,P⟩ ?_ ?_
  ·rintro b ⟨l,k⟩ τ C hi ⟨t1,t2,t5,P⟩;rw[aOy]at hi;obtain⟨l',gk,e⟩:=aL.mp hi;cases e;rw[aOh]
   refine wS.mpr ⟨_,rfl,rfl,?_⟩
   show wpS oA ((τ.set 7 (some (T.int b))).set 8 (some (iT l))) C _
   refine aFe gk (fun a ha=>?_) hsz P (by simpa using t1) ?_ ?_ ?_ ?_ fun ag C' e1 e2 P'=>⟨trivial,e2,?_,?_,P'⟩
   ·exact(hw _ (((gy.2 b l gk).2 a).mp ha)).1.1
   ·rw[aQ (by decide),aQ (by decide)];exact t2
   ·rw[aQ (by decide),aQ (by decide)];exact t5
   ·rw[aQ (by decide),bO (by rw[t1];decide)]
   ·rw[bO (by rw[cL,t1];decide)]
   ·rw[e1 0 (by decide),aQ (by decide),aQ (by decide)];exact t2
   ·rw[e1 4 (by decide),aQ (by decide),aQ (by decide)];exact t5
  ·rintro τ C ⟨t1,t2,t5,P⟩;rw[aPq,dU]at P
   exact q C P
end Lib
namespace Lib
open PySem L2 TL NF
variable{N:Nt}{pl:Int}{c:Nat}{C':Sto}{o:Nat×Bool}{Q:T->Sto->Prop}
structure gS(N:Nt)(f:Nat->Int)(c:Nat)(pl:Int)(C:Sto):Prop where
 net:C[c]?=some (.o "Net" nnm,[.cell (c+1),.int pl])
 lst:C[c+1]?=some (.l,(bK N.m).map fun j=>.cell (pc c (j,true)))
 pip:∀o:Nat×Bool,o.1<N.m->C[pc c o]?=some (pcell N f c o)
theorem Pre.at{C0 C:Sto}(P:Pre N N.m C0 pl C):gS N (fun _=>0) C0.length pl C:=⟨P.net,P.lst,P.pip⟩
theorem gS.mono{f:Nat->Int}{C:Sto}(A:gS N f c pl C)(h:∀i,c<=i->i<c+2+2*N.m->C'[i]?=C[i]?):gS N f c pl C':=
 ⟨by rw[h c (by lia) (by lia)];exact A.net,by rw[h (c+1) (by lia) (by lia)];exact A.lst,fun o ho=>by rw[h _ (by unfold pc;lia) (by unfold pc;split<;>lia)];exact A.pip o ho⟩
theorem gS.app{f:Nat->Int}{C G:Sto}(A:gS N f c pl C)(hc:c+2+2*N.m<=C.length):gS N f c pl (C++G):=A.mono fun i _ h=>aT (by lia)
theorem gS.len{f:Nat->Int}{C:Sto}(A:gS N f c pl C):c+2+2*N.m<=C.length:=by
 by_cases h:N.m=0
 ·have:=lL A.lst;lia
 ·have:=lL (A.pip (N.m - 1,false) (by show N.m - 1<N.m;lia));rw[aMZ]at this;lia
theorem gS.fld{f:Nat->Int}{C:Sto}(A:gS N f c pl C)(ho:o.1<N.m):oQ "Pipe" "tail" C (.cell (pc c o))=some (.int (rt N o))/\oQ "Pipe" "head" C (.cell (pc c o))=some (.int (rh N o))/\
 oQ "Pipe" "hours" C (.cell (pc c o))=some (.int (rd N o))/\oQ "Pipe" "room" C (.cell (pc c o))=some (.int (rr N f o))/\oQ "Pipe" "back" C (.cell (pc c o))=some (.cell (pc c (o.1,!o.2))):=
 ⟨kZ (A.pip o ho) rfl,kZ (A.pip o ho) rfl,kZ (A.pip o ho) rfl,kZ (A.pip o ho) rfl,kZ (A.pip o ho) rfl⟩
noncomputable def both(N:Nt):List (Nat×Bool):=(bK N.m).map (fun k=>(k,true))++(bK N.m).map fun k=>(k,false)
def opn(N:Nt)(f:Nat->Int):List (Nat×Bool):=(both N).filter fun o=>decide (0<rr N f o)
theorem aEh:o∈both N↔o.1<N.m:=by
 obtain⟨k,b⟩:=o;unfold both;cases b<;>simp
theorem pG{f:Nat->Int}:o∈opn N f↔Open N f o:=by
 unfold opn Open;rw[c8,aEh,decide_eq_true_iff]
theorem fR{f:FE}{τ:TSt}{C:Sto}{t:T}(e:f τ C=some (t,C'))(q:Q t C'):wpE f τ C Q:=⟨t,C',e,q⟩
theorem iV{cls:String}{f:Str}{τ:TSt}{C:Sto}{k:Nat}{t u:T}(h:τ[k]?=some (some t))(e:oQ cls f C t=some u):kY cls f (iY k) τ C=some (u,C):=by
 have:wpE (kY cls f (iY k)) τ C fun x C'=>x=u/\C'=C:=v7.mpr (e9.mpr ⟨_,h,_,e,rfl,rfl⟩)
 obtain⟨_,_,e',rfl,rfl⟩:=this
 exact e'
theorem oT{f:Nat->Int}{C:Sto}(A:gS N f c pl C)(hm:N.m<40000)(q:Q (.lst ((opn N f).map fun o=>.cell (pc c o))) C):wpO (iG [.cell c] C) Q:=by
 have hf:oQ "Net" "pipes" C (.cell c)=some (.cell (c+1)):=kZ A.net rfl;have hl:lc C (c+1)=some ((bK N.m).map fun j=>.cell (pc c (j,true))):=f9.mpr A.lst
 refine iN ?_
 unfold oW;walk_at "b"
 refine fJ.mpr (f6.mpr (gA.mpr (tD.mpr ?_)))
 refine fR (iV rfl hf) (gA.mpr (jF.mpr (fR (iV rfl hf) ⟨_,hl,by simp[lim];lia,?_⟩)))
 refine iH (xs:=bK N.m) (en:=fun j=>T.cell (pc c (j,true))) (fun j=>T.cell (pc c (j,false))) (fun j hj=>?_) ?_
 ·refine gB.mpr (fR (iV (t:=.cell (pc c (j,true))) rfl (A.fld (o:=(j,true)) (cG.mp hj)).2.2.2.2) ⟨rfl,rfl⟩)
 refine vZ.mpr ⟨_,hl,_,rfl,by simp[lim];lia,?_⟩
 refine gB.mpr (fW.mpr (iJ.mpr (gA.mpr (jF.mpr (e9.mpr ⟨_,rfl,_,rfl,by simp[lim];lia,?_⟩)))))
 have eb:((bK N.m).map (fun j=>T.cell (pc c (j,true)))++(bK N.m).map fun j=>T.cell (pc c (j,false)))=(both N).map fun o=>T.cell (pc c o):=by
  unfold both;rw[bQ,b6,b6];rfl
 rw[eb]
 refine rH (xs:=both N) (en:=fun o=>T.cell (pc c o)) (fun o=>decide (0<rr N f o)) (fun o=>T.cell (pc c o)) (fun o ho=>?_) q
 have hr:=(A.fld (aEh.mp ho)).2.2.2.1
 refine gB.mpr (g8.mpr (fK.mpr (fR (iV (t:=.cell (pc c o)) rfl hr) (gL.mpr (jH.mpr ⟨_,rfl,rfl,?_,fun _=>e9.mpr ⟨_,rfl,rfl,rfl⟩⟩)))))
 rfl
end Lib
namespace TL
open PySem L2
theorem sF{τ:TSt}{C:Sto}{c:FB}{F:FS}{Q:Fl->TSt->Sto->Prop}(J:Nat->TSt->Sto->Prop){n m:Nat}(hm:m<n)(h0:J m τ C)
 (hs:∀m τ C,J m τ C->wpB c τ C fun b C1=>if b=true then wpS F τ C1 (fun l ap C2=>match l with
  | .nx=>∃m',m'<m/\J m' ap C2
  | .ct=>∃m',m'<m/\J m' ap C2
  | .bk=>Q .nx ap C2
  | .rt v=>Q (.rt v) ap C2
  | .ex v=>Q (.ex v) ap C2)else Q .nx τ C1):wpS (lN c F n) τ C Q:=by
 induction n generalizing m τ C with
 |zero=>lia
 |succ d ih=>
  obtain⟨b,C1,e1,h⟩:=hs m τ C h0;cases b with
  |false=>
   rw[if_neg (by simp)]at h
   exact⟨.nx,τ,C1,by unfold lN;rw[e1];rfl,h⟩
  |true=>
   rw[if_pos rfl]at h;obtain⟨l,ap,C2,e2,h⟩:=h;cases l with
   |nx=>
    obtain⟨m',h1,h2⟩:=h;obtain⟨l,ag,C',e,q⟩:=ih (m:=m') (by lia) h2
    exact⟨l,ag,C',by unfold lN;rw[e1,aV,if_pos rfl,e2,aV];exact e,q⟩
   |ct=>
    obtain⟨m',h1,h2⟩:=h;obtain⟨l,ag,C',e,q⟩:=ih (m:=m') (by lia) h2
    exact⟨l,ag,C',by unfold lN;rw[e1,aV,if_pos rfl,e2,aV];exact e,q⟩
   |bk=>exact⟨.nx,ap,C2,by unfold lN;rw[e1,aV,if_pos rfl,e2];rfl,h⟩
   |rt v=>exact⟨.rt v,ap,C2,by unfold lN;rw[e1,aV,if_pos rfl,e2];rfl,h⟩
   |ex v=>exact⟨.ex v,ap,C2,by unfold lN;rw[e1,aV,if_pos rfl,e2];rfl,h⟩
end TL
namespace Lib
open PySem L2 TL NF
variable{N:Nt}{c mq:Nat}{pl:Int}
noncomputable def kH(n:Nat)(x:Nat->Int):List T:=(bK n).map fun v=>T.int (x v)
theorem tE{n:Nat}{x:Nat->Int}:(kH n x).length=n:=by simp[kH]
theorem tN{n:Nat}{x:Nat->Int}{v:Nat}(h:v<n):(kH n x)[v]?=some (.int (x v)):=by simp[kH,h]
theorem aBu{n:Nat}{x:Nat->Int}{v:Nat}(h:v<n):atI (kH n x) (v:Int)=some (.int (x v)):=aEj (tN h)
theorem aEQ{n:Nat}{x:Nat->Int}{v:Nat}(h:v<n):ixN (kH n x).length (v:Int)=some v:=by
 unfold ixN;rw[tE];simp[h]
theorem aC6{n:Nat}{x:Nat->Int}{v:Nat}{y:Int}:(kH n x).set v (.int y)=kH n (up x v y):=by
 apply List.ext_getElem?;intro i;by_cases hi:i<n
 ·by_cases hv:v=i
  ·subst hv;rw[bO (by rw[tE];exact hi),tN hi,jR]
  ·rw[aQ hv,tN hi,tN hi,uY (Ne.symm hv)]
 ·rw[dG (by rw[cL,tE];lia),dG (by rw[tE];lia)]
theorem gS.mom{f:Nat->Int}{C:Sto}(A:gS N f c pl C)(h:mq<c\/c+2+2*N.m<=mq)(y:Cl):gS N f c pl (C.set mq y):=A.mono fun i h1 h2=>aQ (by lia)
theorem r6{f:FE}{τ:TSt}{C:Sto}{t:T}(h:wpE f τ C fun t' C'=>t'=t/\C'=C):f τ C=some (t,C):=by
 obtain⟨_,_,e,rfl,rfl⟩:=h
 exact e
theorem aAS{τ:TSt}{C:Sto}{a k n v:Nat}{x:Nat->Int}{p:T}{fl:Str}(h0:τ[a]?=some (some (.cell mq)))(h3:τ[k]?=some (some p))(hl:lc C mq=some (kH n x))(hf:oQ "Pipe" fl C p=some (.int v))(hv:v<n):
 fIx (iY a) (kY "Pipe" fl (iY k)) τ C=some (.int (x v),C):=
 r6 (fK.mpr (e9.mpr ⟨_,h0,fR (iV h3 hf) (kQ.mpr ⟨_,hl,_,aBu hv,rfl,rfl⟩)⟩))
theorem aIv{f:Nat->Int}{n:Nat}{C:Sto}{x:Nat->Int}{os:List (Nat×Bool)}(A:gS N f c pl C)(hi:In N n)(ot:mq<c\/c+2+2*N.m<=mq)(e:C[mq]?=some (.l,kH n x))(ho:∀o∈os,Open N f o){Q:T->Sto->Prop}
 (q:∀r x',(∀s0,Ris N n f s0 x->Ris N n f s0 x')->(r=false->x'=x/\∀o∈os,x (rt N o)+rd N o<=x (rh N o))->(r=true->sm n x<sm n x')->Q (.bl r) (C.set mq (.l,kH n x'))):
 wpO (lB [.cell mq,.lst (os.map fun o=>.cell (pc c o))] C) Q:=by
 have bi:=lL e
 refine iN ?_
 unfold pU;walk_at "b";simp_arith[if_true]
 refine j0 (xs:=os) (en:=fun o=>T.cell (pc c o)) (fun j τ C'=>∃x' r a b,τ=[some (.cell mq),some (.lst (os.map fun o=>.cell (pc c o))),some (.bl r),a,b]/\C'=C.set mq (.l,kH n x')/\(∀s0,Ris N n f s0 x->Ris N n f s0 x')/\
  (r=false->x'=x/\∀o∈os.take j,x (rt N o)+rd N o<=x (rh N o))/\(r=true->sm n x<sm n x')/\sm n x<=sm n x') ?_ ?_ ?_
 ·refine⟨x,false,_,_,rfl,?_,fun s0 h=>h,fun _=>⟨rfl,by simp⟩,(fun h=>by cases h),bP _⟩
  obtain⟨h1,h2⟩:=aR.mp e;rw[<-h2,eT]
 ·rintro j o τ C' hj ⟨x',r,a,b,rfl,rfl,h1,h2,h3,h4⟩;have bj:=ho o (bF hj);have hk:rt N o<n/\rh N o<n:=by
   obtain⟨k,d⟩:=o;have:=hi k bj.1;unfold rt rh;cases d<;>simp<;>lia
  have A':=A.mom ot (.l,kH n x');obtain⟨f1,f2,f3,f4,f5⟩:=A'.fld bj.1;have gj:lc (C.set mq (.l,kH n x')) mq=some (kH n x'):=f9.mpr (m6 bi);have tk:∀P:Nat×Bool->Prop,(∀o∈os.take j,P o)->P o->∀o∈os.take (j+1),P o:=fun P ha hb z hz=>by
   rw[aOs,hj]at hz;rcases bL.mp hz with hz|hz
   ·exact ha z hz
   ·have:z=o:=by simpa using hz
    rw[this];exact hb
  unfold oN
  refine gB.mpr (fJ.mpr (f6.mpr (fK.mpr ?_)))
  refine fR (aAS (k:=3) (p:=.cell (pc c o)) rfl rfl gj f1 hk.1) ?_
  refine fR (iV rfl f3) (jH.mpr (gB.mpr (fW.mpr (mE.mpr (g8.mpr (fK.mpr ?_))))))
  refine e9.mpr ⟨_,rfl,?_⟩
  refine fR (aAS (k:=3) (p:=.cell (pc c o)) rfl rfl gj f2 hk.2) (jH.mpr ⟨_,rfl,?_⟩)
  by_cases hr:x' (rh N o)<x' (rt N o)+rd N o
  ·rw[if_pos (decide_eq_true hr)]
   refine fJ.mpr (xH.mpr (e9.mpr ⟨_,rfl,e9.mpr ⟨_,rfl,fR (iV rfl f2) ⟨_,_,rfl,rfl,_,gj,_,aEQ hk.2,?_⟩⟩⟩))
   refine fW.mpr (f6.mpr (gL.mpr (gB.mpr ⟨trivial,_,true,_,_,rfl,?_,fun s0 h=>(h1 s0 h).raise bj hk.1 hr,(fun z=>by cases z),fun _=>?_,?_⟩)))
   ·rw[aC6,eI]
   ·have:=aAw (N:=N) (x:=x') (o:=o) hk.2 hr;lia
   ·have:=aAw (N:=N) (x:=x') (o:=o) hk.2 hr;lia
  ·rw[if_neg (by rw[decide_eq_false hr];simp)]
   refine gY.mpr ⟨trivial,x',r,_,_,rfl,rfl,h1,fun z=>⟨(h2 z).1,tk _ (h2 z).2 ?_⟩,h3,h4⟩
   have:=(h2 z).1;subst this
   lia
 ·rintro τ C' ⟨x',r,a,b,rfl,rfl,h1,h2,h3,h4⟩;rw[dU]at h2;simp_arith[if_true]
  exact q r x' h1 h2 h3
end Lib
namespace Lib
open PySem L2 TL NF
noncomputable def st1(e:Int)(v:Nat):Int:=if v=1 then e else 0
theorem aDl{N:Nt}{f:Nat->Int}{c n:Nat}{C:Sto}{e:Int}(A:gS N f c n C)(hm:N.m<40000)(hi:In N n)(hn:1<n)(yc:n<50000){y:Nat->Int}(hy:∀v,v<n->st1 e v<=y v)(hp:Pot N f y)(hb:sm n y - sm n (st1 e)<10^199){Q:T->Sto->Prop}
 (q:∀p,Least N n f (st1 e) p->Q (.cell C.length) (C++[(.l,kH n p)])):wpO (iL [.cell c,.int e] C) Q:=by
 have ai:=A.len;have hf:oQ "Net" "places" C (.cell c)=some (.int n):=kZ A.net rfl
 refine iN ?_
 unfold rR;walk_at "b"
 refine fJ.mpr (f6.mpr (jN.mpr (rX.mpr (fR (iV rfl hf) ⟨_,rfl,⟨by lia,by lia⟩,?_⟩))))
 rw[xM,cN]
 refine iH (xs:=bK n) (fun _=>T.int 0) (fun j _=>gB.mpr (gL.mpr ⟨rfl,rfl⟩)) ?_
 have e0:(bK n).map (fun _=>T.int 0)=kH n fun _=>0:=rfl
 rw[e0];have yh:lc (C++[(Kd.l,kH n fun _=>0)]) C.length=some (kH n fun _=>0):=f9.mpr (by simp)
 refine gB.mpr (fW.mpr (fJ.mpr (xH.mpr (e9.mpr ⟨_,rfl,e9.mpr ⟨_,rfl,gL.mpr ⟨_,_,rfl,rfl,_,yh,_,aEQ (v:=1) hn,?_⟩⟩⟩))))
 have e1:(C++[(Kd.l,kH n fun _=>0)]).set C.length (Kd.l,(kH n fun _=>0).set 1 (.int e))=C++[(Kd.l,kH n (st1 e))]:=by
  rw[b7 _ _ (bD _),dE,aC6];rfl
 rw[e1];have A1:gS N f c n (C++[(Kd.l,kH n (st1 e))]):=A.app ai
 refine fW.mpr (fJ.mpr (f6.mpr (jI (e9.mpr ⟨_,rfl,jZ A1.net rfl,fH.mpr ⟨rfl,oT A1 hm ?_⟩⟩))))
 refine gB.mpr (fW.mpr (fJ.mpr ?_))
 refine sF (fun m τ C'=>∃x,τ=[some (.cell c),some (.int e),some (.cell C.length),some (.lst ((opn N f).map fun o=>.cell (pc c o)))]/\C'=C++[(Kd.l,kH n x)]/\Ris N n f (st1 e) x/\sm n y - sm n x<=(m:Int)) (m:=(sm n y - sm n (st1 e)).toNat) (by
  have:(sm n y - sm n (st1 e)).toNat<10^199:=by lia
  exact bN this (dY (by decide) (by decide))) ⟨st1 e,rfl,rfl,Ris.start,by lia⟩ ?_
 rintro m τ C' ⟨x,rfl,rfl,hR,sk⟩;have A2:gS N f c n (C++[(Kd.l,kH n x)]):=A.app ai
 refine jO.mpr (i7.mpr (fB.mpr (e9.mpr ⟨_,rfl,fB.mpr (e9.mpr ⟨_,rfl,fH.mpr ⟨rfl,?_⟩⟩)⟩)))
 refine aIv (x:=x) A2 hi (.inr ai) (by simp) (fun o ho=>pG.mp ho) fun r x' h1 h2 h3=>⟨r,rfl,?_⟩
 have e2:(C++[(Kd.l,kH n x)]).set C.length (Kd.l,kH n x')=C++[(Kd.l,kH n x')]:=by
  rw[b7 _ _ (bD _),dE];rfl
 rw[e2];cases r with
 |true=>
  rw[if_pos rfl];have s1:=h3 rfl;have s2:=(h1 _ hR).sum_le hy hp
  refine gY.mpr ⟨(sm n y - sm n x').toNat,by lia,x',rfl,rfl,h1 _ hR,by lia⟩
 |false=>
  rw[if_neg (by simp)];obtain⟨rfl,h5⟩:=h2 rfl
  exact fW.mpr (iJ.mpr (e9.mpr ⟨_,rfl,q _ (hR.done fun o ho=>h5 o (pG.mpr ho))⟩))
end Lib
namespace Lib
open PySem L2 TL NF
section
variable {α β κ:Type}[DecidableEq α][DecidableEq κ]{kf:α->κ}{vf:β->T}
variable{p:α×β}{rs:List (α×β)}{b:β}
noncomputable def lk(rs:List (α×β))(a:α):Option β:=(rs.find? fun p=>decide (p.1=a)).map (·.2)
noncomputable def mY(rs:List (α×β))(a:α)(b:β):List (α×β):=if a∈rs.map (·.1)then rs.map (fun p=>if p.1=a then(p.1,b)else p)else rs++[(a,b)]
theorem aMU{a:α}:lk ([]:List (α×β)) a=none:=rfl
theorem nH{a:α}:lk (p::rs) a=if p.1=a then some p.2 else lk rs a:=by
 unfold lk;rw[c9];by_cases h:p.1=a
 ·rw[if_pos h,decide_eq_true h];rfl
 ·rw[if_neg h,decide_eq_false h]
theorem aBk{a:α}{b:β}:∀{rs:List (α×β)},lk rs a=some b->(a,b)∈rs
 | [],h=>by cases h
 |p::rs,h=>by
  rw[nH]at h;split at h
  ·rename_i e;cases h;subst e;exact bJ
  ·exact aU _ (aBk h)
theorem pO{a:α}:∀{rs:List (α×β)},(lk rs a).isSome=true↔a∈rs.map (·.1)
 | []=>by simp[aMU]
 |p::rs=>by
  rw[nH,aM,bE];by_cases h:p.1=a
  ·rw[if_pos h];simp[h]
  ·rw[if_neg h,pO];constructor
   ·exact .inr
   ·rintro(z|z)
    ·exact absurd z.symm h
    ·exact z
theorem aDt(inj:∀a b,kf a=kf b->a=b){a:α}:∀{rs:List (α×β)},vl ((rs.map fun p=>kf p.1).zip (rs.map fun p=>vf p.2)) (kf a)=(lk rs a).map vf
 | []=>rfl
 |p::rs=>by
  rw[aM,aM,cC,nH];unfold vl;rw[c9];by_cases h:p.1=a
  ·rw[if_pos h,show decide ((kf p.1,vf p.2).1=kf a)=true from decide_eq_true (by rw[h])];rfl
  ·rw[if_neg h,show decide ((kf p.1,vf p.2).1=kf a)=false from decide_eq_false (fun z=>h (inj _ _ z))]
   exact aDt inj
theorem aBC(inj:∀a b,kf a=kf b->a=b){a:α}:kf a∈(rs.map fun p=>kf p.1)↔a∈rs.map (·.1):=by
 constructor
 ·intro h;obtain⟨p,hp,e⟩:=bM.mp h
  exact bM.mpr ⟨p,hp,inj _ _ e⟩
 ·intro h;obtain⟨p,hp,e⟩:=bM.mp h
  exact bM.mpr ⟨p,hp,by rw[e]⟩
theorem aBG(inj:∀a b,kf a=kf b->a=b){a:α}:pkK (kf a) (rs.map fun p=>kf p.1)=((mY rs a b).map fun p=>kf p.1)/\pvK (kf a) (vf b) (rs.map fun p=>kf p.1) (rs.map fun p=>vf p.2)=(mY rs a b).map fun p=>vf p.2:=by
 unfold pkK pvK mY;by_cases h:a∈rs.map (·.1)
 ·rw[if_pos ((aBC inj).mpr h),if_pos ((aBC inj).mpr h),if_pos h];have hz:∀rs:List (α×β),(rs.map fun p=>kf p.1).zip (rs.map fun p=>vf p.2)=rs.map fun p=>(kf p.1,vf p.2):=fun rs=>by rw[List.zip_map']
  constructor
  ·rw[b6];apply cR;intro p _;simp only[d3];split<;>rfl
  ·rw[hz,b6,b6];apply cR;intro p _;simp only[d3];by_cases e:p.1=a
   ·rw[if_pos e,if_pos (by rw[e])]
   ·rw[if_neg e,if_neg (fun z=>e (inj _ _ z))]
 ·rw[if_neg (fun z=>h ((aBC inj).mp z)),if_neg (fun z=>h ((aBC inj).mp z)),if_neg h,bQ,bQ]
  exact⟨rfl,rfl⟩
theorem aAq{a:α}:(mY rs a b).map (·.1)=if a∈rs.map (·.1)then rs.map (·.1)else rs.map (·.1)++[a]:=by
 unfold mY;split
 ·rw[b6];apply cR;intro p _;simp only[d3];split<;>rfl
 ·rw[bQ];rfl
theorem aJL{a:α}(h:(rs.map (·.1)).Nodup):((mY rs a b).map (·.1)).Nodup:=by
 rw[aAq];split
 ·exact h
 ·rename_i hn
  refine dO.mpr ⟨h,by simp,fun x hx y hy=>?_⟩
  rw[bR.mp hy];rintro rfl;exact hn hx
theorem aIa{a:α}(h:p∈mY rs a b):p=(a,b)\/p∈rs:=by
 unfold mY at h;split at h
 ·obtain⟨q,hq,e⟩:=bM.mp h;split at e
  ·rename_i z;rw[<-e,z];exact .inl rfl
  ·rw[<-e];exact .inr hq
 ·rcases bL.mp h with h|h
  ·exact .inr h
  ·exact .inl (bR.mp h)
theorem yR{a x:α}:x∈(mY rs a b).map (·.1)↔x=a\/x∈rs.map (·.1):=by
 rw[aAq];split
 ·rename_i h;constructor
  ·exact .inr
  ·rintro(z|z)
   ·rw[z];exact h
   ·exact z
 ·rw[bL,bR,or_comm]
end
variable{c d:Nat}{rs:List (Nat×List (Nat×Bool))}
theorem aEP{α β:Type}[DecidableEq α]{kf:α->Key}{vf:β->T}(inj:∀a b,kf a=kf b->a=b):∀{fs rs:List (α×β)},(fs.map (·.1)).Nodup->(∀a∈fs.map (·.1),a∉rs.map (·.1))->
 mrgK (fs.map fun p=>kf p.1) (fs.map fun p=>vf p.2) ((rs.map fun p=>kf p.1),(rs.map fun p=>vf p.2))=(((rs++fs).map fun p=>kf p.1),((rs++fs).map fun p=>vf p.2))
 | [],rs,_,_=>by simp[mrgK]
 |p::fs,rs,hn,hd=>by
  rw[aM,bS]at hn;rw[aM,aM];unfold mrgK;dsimp only;obtain⟨e1,e2⟩:=aBG (vf:=vf) inj (a:=p.1) (b:=p.2) (rs:=rs);have hp:p.1∉rs.map (·.1):=hd _ (by simp);rw[e1,e2];have e3:mY rs p.1 p.2=rs++[p]:=by unfold mY;rw[if_neg hp]
  rw[e3,aEP inj hn.2 (fun a ha=>?_),cS]
  ·rfl
  ·rw[bQ,bL,aM,bC,bR];rintro(z|z)
   ·exact hd a (by rw[aM];exact aU _ ha) z
   ·rw[z]at ha;exact hn.1 ha
noncomputable def kyN(v:Nat):Key:=.inl (v:Int)
theorem tF(a b:Nat)(h:kyN a=kyN b):a=b:=by
 have:(a:Int)=b:=Sum.inl.inj h
 lia
def rtT(c:Nat)(r:List (Nat×Bool)):T:=.lst (r.map fun o=>.cell (pc c o))
def nE(c:Nat)(rs:List (Nat×List (Nat×Bool))):Cl:=(.dk (rs.map fun p=>kyN p.1),rs.map fun p=>rtT c p.2)
theorem wA{C:Sto}{v:Nat}(e:C[d]?=some (nE c rs)):dval C (.cell d) (.int v)=some ((lk rs v).map (rtT c)):=by
 unfold dval;rw[uC e];show some (vl _ (kyN v))=_;rw[aDt tF]
theorem aI8{C:Sto}{v:Nat}{r:List (Nat×Bool)}(e:C[d]?=some (nE c rs))(hl:rs.length<lim):dput C (.cell d) (.int v) (rtT c r)=some (C.set d (nE c (mY rs v r))):=by
 unfold dput;rw[uC e];show(if _ then some (C.set d (.dk (pkK (kyN v) _),pvK (kyN v) _ _ _))else none)=_;rw[if_pos (by simpa using hl)];obtain⟨e1,e2⟩:=aBG (vf:=rtT c) tF (a:=v) (b:=r) (rs:=rs);rw[e1,e2];rfl
end Lib
namespace Lib
open PySem L2 TL NF
theorem aHj{α β:Type}[DecidableEq α]{rs:List (α×β)}{a:α}{b:β}:(mY rs a b).length<=rs.length+1:=by
 unfold mY;split
 ·simp
 ·simp
theorem x8{N:Nt}{f:Nat->Int}{c d:Nat}{pl:Int}{C:Sto}{rs:List (Nat×List (Nat×Bool))}{ts:List (Nat×Bool)}(A:gS N f c pl C)(e:C[d]?=some (nE c rs))(ht:∀o∈ts,o.1<N.m)(hl:ts.length<90000)(hr:∀p∈rs,p.2.length<=1000){Q:T->Sto->Prop}
 (q:∀fs:List (Nat×List (Nat×Bool)),(fs.map (·.1)).Nodup->(∀a∈fs.map (·.1),a∉rs.map (·.1))->(∀p∈fs,∃o∈ts,∃r0,(rt N o,r0)∈rs/\p=(rh N o,r0++[o]))->(∀o∈ts,rt N o∈rs.map (·.1)->rh N o∉rs.map (·.1)->rh N o∈fs.map (·.1))->Q (.cell C.length) (C++[nE c fs])):
 wpO (mQ [.cell d,.lst (ts.map fun o=>.cell (pc c o))] C) Q:=by
 have ai:=A.len;have hd:=lL e
 refine iN ?_
 unfold rM;walk_at "b"
 refine fJ.mpr (f6.mpr (aCo.mpr (gB.mpr (fW.mpr (fJ.mpr (nK.mpr (e9.mpr ⟨_,rfl,_,rfl,?_⟩)))))))
 refine j0 (xs:=ts) (en:=fun o=>T.cell (pc c o)) (fun j τ C'=>∃fs a,τ=[some (.cell d),some (.lst (ts.map fun o=>.cell (pc c o))),some (.cell C.length),a]/\C'=C++[nE c fs]/\fs.length<=j/\(fs.map (·.1)).Nodup/\(∀a∈fs.map (·.1),a∉rs.map (·.1))/\
  (∀p∈fs,∃o∈ts,∃r0,(rt N o,r0)∈rs/\p=(rh N o,r0++[o]))/\∀o∈ts.take j,rt N o∈rs.map (·.1)->rh N o∉rs.map (·.1)->rh N o∈fs.map (·.1)) ?_ ?_ ?_
 ·exact⟨[],_,rfl,rfl,bD _,by simp,by simp,by simp,by simp⟩
 ·rintro j o τ C' hj ⟨fs,a,rfl,rfl,h1,h2,h3,h4,h5⟩;have hot:=bF hj;have hjl:j<ts.length:=(aR.mp hj).1;have A':gS N f c pl (C++[nE c fs]):=A.app ai;obtain⟨f1,f2,f3,f4,f5⟩:=A'.fld (ht o hot);have e':(C++[nE c fs])[d]?=some (nE c rs):=by rw[aT hd];exact e
  have eF:(C++[nE c fs])[C.length]?=some (nE c fs):=by simp
  have v1:=wA (v:=rt N o) e';have v2:=wA (v:=rh N o) e';have tk:∀P:Nat×Bool->Prop,(∀o∈ts.take j,P o)->P o->∀o∈ts.take (j+1),P o:=fun P ha hb z hz=>by
   rw[aOs,hj]at hz;rcases bL.mp hz with hz|hz
   ·exact ha z hz
   ·have:z=o:=by simpa using hz
    rw[this];exact hb
  unfold p5
  refine gB.mpr (mE.mpr (wJ.mpr (g8.mpr (fK.mpr ?_))))
  refine fR (iV (t:=.cell (pc c o)) rfl f1) (e9.mpr ⟨_,rfl,aBt.mpr ⟨_,v1,_,rfl,?_⟩⟩)
  cases l1:lk rs (rt N o)with
  |none=>
   rw[if_neg (by simp),if_neg (by simp)]
   refine gY.mpr ⟨trivial,fs,_,rfl,rfl,by lia,h2,h3,h4,tk _ h5 fun z=>?_⟩
   have:=pO.mpr z;rw[l1]at this;cases this
  |some r0=>
   rw[if_pos (by simp)]
   refine g8.mpr (fK.mpr ?_)
   refine fR (iV (t:=.cell (pc c o)) rfl f2) (e9.mpr ⟨_,rfl,aBt.mpr ⟨_,v2,_,rfl,?_⟩⟩)
   cases l2:lk rs (rh N o)with
   |some r1=>
    rw[if_neg (by simp)]
    refine gY.mpr ⟨trivial,fs,_,rfl,rfl,by lia,h2,h3,h4,tk _ h5 fun _ z=>?_⟩
    exact absurd (pO.mp (by rw[l2];rfl)) z
   |none=>
    rw[if_pos (by simp)];have hn:rh N o∉rs.map (·.1):=fun z=>by
     have:=pO.mpr z;rw[l2]at this;cases this
    have dj:r0.length<=1000:=hr _ (aBk l1)
    refine aBR (gA.mpr (tD.mpr (fK.mpr (e9.mpr ⟨_,rfl,?_⟩))))
    refine fR (iV (t:=.cell (pc c o)) rfl f1) (tM.mpr ⟨rtT c r0,by rw[v1,l1];rfl,?_⟩)
    refine gA.mpr (hV.mpr (fB.mpr (e9.mpr ⟨_,rfl,fH.mpr ⟨by simp[lim],?_⟩⟩)))
    refine vZ.mpr ⟨_,rfl,_,rfl,by simp[lim];lia,e9.mpr ⟨_,rfl,?_⟩⟩
    refine fR (iV (t:=.cell (pc c o)) rfl f2) ?_
    have er:(.lst ((r0.map fun o=>T.cell (pc c o))++[T.cell (pc c o)]):T)=rtT c (r0++[o]):=by unfold rtT;rw[bQ];rfl
    refine⟨_,by rw[er];exact aI8 eF (by simp[lim];lia),trivial,mY fs (rh N o) (r0++[o]),_,rfl,?_,?_,aJL h2,?_,?_,?_⟩
    ·rw[b7 _ _ (bD _),dE];rfl
    ·exact cA aHj (by lia)
    ·intro a ha;rcases yR.mp ha with rfl|ha
     ·exact hn
     ·exact h3 a ha
    ·intro p hp;rcases aIa hp with rfl|hp
     ·exact⟨o,hot,r0,aBk l1,rfl⟩
     ·exact h4 p hp
    ·exact tk _ (fun z hz z1 z2=>yR.mpr (.inr (h5 z hz z1 z2))) fun _ _=>yR.mpr (.inl rfl)
 ·rintro τ C' ⟨fs,a,rfl,rfl,h1,h2,h3,h4,h5⟩;rw[dU]at h5
  exact fW.mpr (iJ.mpr (e9.mpr ⟨_,rfl,q fs h2 h3 h4 h5⟩))
end Lib
namespace Lib
open PySem L2 TL NF
variable{Q:T->Sto->Prop}{N:Nt}{p:Nat->Int}
theorem aF4{τ:TSt}{C:Sto}{fo fv:FE}{c1:Nat}(h:wpE fo τ C fun td C1=>td=.cell c1/\isDc C1 td=true/\wpE fv τ C1 fun te C2=>∃c2 ks ks' ts ci,te=.cell c2/\C2[c1]?=some (.dk ks,ts)/\C2[c2]?=some (.dk ks',ci)/\c1≠c2/\ks.length+ks'.length<=lim/\
 Q .non (C2.set c1 (.dk (mrgK ks' ci (ks,ts)).1,(mrgK ks' ci (ks,ts)).2))):wpE (wO fo fv) τ C Q:=by
 obtain⟨td,C1,e1,rfl,hd,te,C2,e2,c2,ks,ks',ts,ci,rfl,e3,e4,hn,hl,q⟩:=h
 exact aHa ⟨_,C1,e1,rfl,hd,_,C2,e2,rfl,e3,e4,hn,hl,q⟩
theorem lR:∀(n:Nat)(l:List Nat),l.Nodup->(∀a∈l,a<n)->l.length<=n
 |0,l,_,h=>by
  cases l with
  |nil=>exact bD _
  |cons a l=>exact absurd (h a bJ) (by lia)
 |n+1,l,hn,h=>by
  have h1:=lR n (l.erase n) (hn.erase n) fun a ha=>by
   have hm:=(List.Nodup.mem_erase_iff hn).mp ha;have:=h a hm.2;have:=hm.1
   lia
  by_cases hm:n∈l
  ·rw[d4 hm]at h1;lia
  ·rw[List.erase_of_not_mem hm]at h1;lia
structure Rts(N:Nt)(n:Nat)(f p:Nat->Int)(rs:List (Nat×List (Nat×Bool))):Prop where
 nd:(rs.map (·.1)).Nodup
 lt:∀a∈rs.map (·.1),a<n
 z:0∈rs.map (·.1)
 rte:∀x∈rs,Rte N f p x.2 x.1/\(∀v∈x.2.map (rh N),v∈rs.map (·.1))
theorem Rts.len{n:Nat}{f:Nat->Int}{rs:List (Nat×List (Nat×Bool))}(R:Rts N n f p rs){x:Nat×List (Nat×Bool)}(hx:x∈rs):x.2.length<=n:=by
 obtain⟨h1,h2⟩:=R.rte x hx;have:=lR n _ (bS.mp h1.nd).2 fun a ha=>R.lt a (h2 a ha)
 simpa using this
theorem qZ{f:Nat->Int}{c n mq:Nat}{pl:Int}{C:Sto}(A:gS N f c pl C)(hm:N.m<40000)(hi:In N n)(hn:n<40)(lx:0<n)(ot:C[mq]?=some (.l,kH n p))
 (reach:∀R:Nat->Prop,R 0->(∀o,Open N f o->R (rt N o)->p (rt N o)+rd N o=p (rh N o)->R (rh N o))->R 1)(q:∀r G,Rte N f p r 1->Q (rtT c r) (C++G)):
 wpO (kB [.lst ((opn N f).map fun o=>.cell (pc c o)),.cell mq] C) Q:=by
 have ai:=A.len;have gj:lc C mq=some (kH n p):=f9.mpr ot;have cq:∀o:Nat×Bool,o.1<N.m->rt N o<n/\rh N o<n:=fun o ho=>by
  obtain⟨k,d⟩:=o;have:=hi k ho;unfold rt rh;cases d<;>simp<;>lia
 have hol:(opn N f).length<90000:=by
  have:(opn N f).length<=(both N).length:=aOt _ _;have h2:(both N).length=N.m+N.m:=by simp[both]
  lia
 refine iN ?_
 unfold rQ;walk_at "b"
 refine fJ.mpr (f6.mpr (gA.mpr (jF.mpr (e9.mpr ⟨_,rfl,_,rfl,by simp[lim];lia,?_⟩))))
 refine rH (xs:=opn N f) (en:=fun o=>T.cell (pc c o)) (fun o=>decide (p (rt N o)+rd N o=p (rh N o))) (fun o=>T.cell (pc c o)) (fun o ho=>?_) ?_
 ·have bj:=pG.mp ho;obtain⟨f1,f2,f3,f4,f5⟩:=A.fld bj.1;obtain⟨k1,k2⟩:=cq o bj.1
  refine gB.mpr (g8.mpr (fK.mpr (fK.mpr ?_)))
  refine fR (aAS (a:=1) (k:=0) (p:=.cell (pc c o)) rfl rfl gj f1 k1) ?_
  refine fR (iV rfl f3) (jH.mpr ?_)
  refine fR (aAS (a:=1) (k:=0) (p:=.cell (pc c o)) rfl rfl gj f2 k2) ?_
  refine wF.mpr ⟨_,rfl,rfl,rfl,fun _=>e9.mpr ⟨_,rfl,rfl,rfl⟩⟩
 refine gB.mpr (fW.mpr (fJ.mpr (f6.mpr (aFI (k:=kyN 0) (x:=rtT c []) ?_))))
 refine gL.mpr ⟨rfl,gA.mpr (hV.mpr (fH.mpr ⟨by decide,rfl,by simp,?_⟩))⟩
 have e0:(C++[(Kd.dk [],[])]).set C.length (Kd.dk [kyN 0],[rtT c []])=C++[nE c [(0,[])]]:=by
  rw[b7 _ _ (bD _),dE];rfl
 rw[e0]
 refine gB.mpr (fW.mpr (fJ.mpr ?_))
 refine sF (fun m τ C'=>∃rs G,τ=[some (.lst ((opn N f).map fun o=>.cell (pc c o))),some (.cell mq),some (.lst (((opn N f).filter fun o=>decide (p (rt N o)+rd N o=p (rh N o))).map fun o=>.cell (pc c o))),some (.cell C.length)]/\C'=C++nE c rs::G/\Rts N n f p rs/\n - rs.length<=m) (m:=n) (by lia) ?_ ?_
 ·refine⟨[(0,[])],[],rfl,rfl,⟨by simp,by simpa using lx,by simp,fun x hx=>?_⟩,by lia⟩
  have:x=(0,[]):=by simpa using hx
  subst this
  exact⟨Rte.nil,by simp⟩
 rintro m τ C' ⟨rs,G,rfl,rfl,R,sk⟩;have eD:(C++nE c rs::G)[C.length]?=some (nE c rs):=by simp
 have A':gS N f c pl (C++nE c rs::G):=A.app ai
 refine g8.mpr (fK.mpr (gL.mpr (e9.mpr ⟨_,rfl,aBt.mpr ⟨_,wA (v:=1) eD,_,rfl,?_⟩⟩)))
 cases l1:lk rs 1 with
 |some r=>
  rw[if_neg (by simp)]
  refine fW.mpr (iJ.mpr (fK.mpr (e9.mpr ⟨_,rfl,gL.mpr (tM.mpr ⟨rtT c r,?_,?_⟩)⟩)))
  ·have:=wA (v:=1) eD;rw[l1]at this;exact this
  ·exact q r _ (R.rte _ (aBk l1)).1
 |none=>
  rw[if_pos (by simp)];unfold pY
  refine mW.mpr (aF4 (c1:=C.length) (e9.mpr ⟨_,rfl,rfl,by unfold isDc;rw[uC eD];rfl,i7.mpr (fB.mpr (e9.mpr ⟨_,rfl,fB.mpr (e9.mpr ⟨_,rfl,fH.mpr ⟨rfl,?_⟩⟩)⟩))⟩))
  refine x8 A' eD (fun o ho=>(pG.mp ((c8.mp ho).1)).1) (dW (aOt _ _) hol) (fun x hx=>cA (R.len hx) (by lia)) fun fs h1 h2 h3 h4=>?_
  have bi:∀a∈fs.map (·.1),a<n:=fun a ha=>by
   obtain⟨x,hx,rfl⟩:=bM.mp ha;obtain⟨o,ho,r0,_,e⟩:=h3 x hx;rw[e];exact(cq o (pG.mp ((c8.mp ho).1)).1).2
  have R':Rts N n f p (rs++fs):=by
   refine⟨?_,fun a ha=>?_,?_,fun x hx=>?_⟩
   ·rw[bQ]
    exact dO.mpr ⟨R.nd,h1,fun a ha b hb z=>h2 b hb (z ▸ ha)⟩
   ·rw[bQ]at ha;rcases bL.mp ha with ha|ha
    ·exact R.lt a ha
    ·exact bi a ha
   ·rw[bQ];exact bL.mpr (.inl R.z)
   ·rcases bL.mp hx with hx|hx
    ·refine⟨(R.rte x hx).1,fun v hv=>?_⟩
     rw[bQ];exact bL.mpr (.inl ((R.rte x hx).2 v hv))
    ·obtain⟨o,ho,r0,xr,e⟩:=h3 x hx;have bj:=pG.mp ((c8.mp ho).1);have htg:p (rt N o)+rd N o=p (rh N o):=of_decide_eq_true (c8.mp ho).2;have lw:=h2 x.1 (cK hx);obtain⟨g1,g2⟩:=R.rte _ xr;rw[e]at lw|-
     refine⟨g1.snoc bj rfl htg fun z=>?_,fun v hv=>?_⟩
     ·rcases bE.mp z with z|z
      ·exact lw (by rw[z];exact R.z)
      ·exact lw (g2 _ z)
     ·rw[bQ]at hv;rw[bQ];rcases bL.mp hv with hv|hv
      ·exact bL.mpr (.inl (g2 v hv))
      ·have:v=rh N o:=by simpa using hv
       rw[this]
       exact bL.mpr (.inr (bM.mpr ⟨x,hx,by rw[e]⟩))
  have ay:fs≠[]:=fun z=>by
   subst z;have:=reach (fun v=>v∈rs.map (·.1)) R.z fun o ho h5 h6=>by
    by_cases h7:rh N o∈rs.map (·.1)
    ·exact h7
    ·exact absurd (h4 o (c8.mpr ⟨pG.mpr ho,decide_eq_true h6⟩) h5 h7) (by simp)
   have h8:=pO.mpr this;rw[l1]at h8;cases h8
  have hfl:fs.length<=n:=by
   have:=lR n _ h1 bi;simpa using this
  have dj:(rs++fs).length<=n:=by
   have:=lR n _ R'.nd R'.lt;simpa using this
  have hrl2:rs.length<=n:=by rw[bB]at dj;lia
  have hf1:0<fs.length:=aOl.mpr ay
  refine⟨_,rs.map (fun x=>kyN x.1),fs.map (fun x=>kyN x.1),rs.map (fun x=>rtT c x.2),fs.map (fun x=>rtT c x.2),rfl,?_,?_,?_,?_,?_⟩
  ·exact(by simp:(C++nE c rs::G++[nE c fs])[C.length]?=some (nE c rs))
  ·exact(by simp:(C++nE c rs::G++[nE c fs])[(C++nE c rs::G).length]?=some (nE c fs))
  ·simp
  ·rw[aS,aS];simp[lim];lia
  ·rw[aEP tF h1 h2]
   refine⟨n - (rs++fs).length,?_,rs++fs,G++[nE c fs],rfl,?_,R',bD _⟩
   ·rw[bB]at dj|-;lia
   ·rw[cS,b7 _ _ (bD _),dE];rfl
end Lib
namespace Lib
open PySem L2 TL NF
variable{N:Nt}{r:List (Nat×Bool)}{o:Nat×Bool}{c:Nat}{pl:Int}
def rmin(N:Nt)(f:Nat->Int)(r:List (Nat×Bool)):Int:=qN (r.map (rr N f))
theorem y9:∀{ns:List Int},ns≠[]->qN ns∈ns/\∀a∈ns,qN ns<=a:=by
 have key:∀(ns:List Int)(n:Int),(ns.foldl (fun a b=>if b<a then b else a) n=n\/ns.foldl (fun a b=>if b<a then b else a) n∈ns)/\ns.foldl (fun a b=>if b<a then b else a) n<=n/\∀a∈ns,ns.foldl (fun a b=>if b<a then b else a) n<=a:=by
  intro ns;induction ns with
  |nil=>intro n;exact⟨.inl rfl,bP _,fun a h=>nomatch h⟩
  |cons m ns ih=>
   intro n;rw[aOz];obtain⟨h1,h2,h3⟩:=ih (if m<n then m else n);by_cases hm:m<n
   ·rw[if_pos hm]at h1 h2 h3|-
    refine⟨?_,by lia,fun a ha=>?_⟩
    ·rcases h1 with h1|h1
     ·rw[h1];simp
     ·exact .inr (aU _ h1)
    ·rcases bE.mp ha with rfl|ha
     ·exact h2
     ·exact h3 a ha
   ·rw[if_neg hm]at h1 h2 h3|-
    refine⟨?_,h2,fun a ha=>?_⟩
    ·rcases h1 with h1|h1
     ·exact .inl h1
     ·exact .inr (aU _ h1)
    ·rcases bE.mp ha with rfl|ha
     ·lia
     ·exact h3 a ha
 intro ns ay;cases ns with
 |nil=>exact absurd rfl ay
 |cons n ns=>
  obtain⟨h1,h2,h3⟩:=key ns n
  refine⟨?_,fun a ha=>?_⟩
  ·rcases h1 with h1|h1
   ·show aPn (fun a b=>if b<a then b else a) n ns∈n::ns;rw[h1];simp
   ·exact aU _ h1
  ·rcases bE.mp ha with rfl|ha
   ·exact h2
   ·exact h3 a ha
theorem aEF{f:Nat->Int}(ho:o∈r):rmin N f r<=rr N f o:=
 (y9 (ns:=r.map (rr N f)) (by rintro z;have:=aOF.mp z;subst this;cases ho)).2 _ (cK ho)
theorem aC3{f:Nat->Int}(hr:r≠[])(ho:∀o∈r,Open N f o):0<rmin N f r:=by
 obtain⟨h1,h2⟩:=y9 (ns:=r.map (rr N f)) (by rintro z;exact hr (aOF.mp z));obtain⟨o,bj,e⟩:=bM.mp h1;unfold rmin;rw[<-e];exact(ho o bj).2
theorem y0{f:Nat->Int}{C:Sto}(A:gS N f c pl C)(hr:r≠[])(ho:∀o∈r,o.1<N.m)(hl:r.length<1000){Q:T->Sto->Prop}(q:Q (.int (rmin N f r)) C):wpO (nO [rtT c r] C) Q:=by
 refine iN ?_
 unfold z8;walk_at "b"
 refine iJ.mpr (fV.mpr (fB.mpr (gA.mpr (jF.mpr (e9.mpr ⟨_,rfl,_,rfl,by simp[lim];lia,?_⟩)))))
 refine iH (xs:=r) (en:=fun o=>T.cell (pc c o)) (fun o=>T.int (rr N f o)) (fun o bj=>gB.mpr (fR (iV (t:=.cell (pc c o)) rfl (A.fld (ho o bj)).2.2.2.1) ⟨rfl,rfl⟩)) ?_
 refine fH.mpr (lQ.mpr ⟨_,rfl,_,lT (f:=rr N f),?_,q⟩)
 cases r with
 |nil=>exact absurd rfl hr
 |cons o r=>rfl
theorem gS.pour1{f:Nat->Int}{C:Sto}(A:gS N f c pl C)(ho:o.1<N.m)(x:Int):
 gS N (up f o.1 (f o.1+if o.2 then x else -x)) c pl ((C.set (pc c o) (.o "Pipe" pnm,[.int (rt N o),.int (rh N o),.int (rd N o),.int (rr N f o - x),.cell (pc c (o.1,!o.2))])).set (pc c (o.1,!o.2)) (.o "Pipe" pnm,[.int (rt N (o.1,!o.2)),.int (rh N (o.1,!o.2)),.int (rd N (o.1,!o.2)),.int (rr N f (o.1,!o.2)+x),.cell (pc c (o.1,!!o.2))])):=by
 have l1:=lL (A.pip o ho);have l2:=lL (A.pip (o.1,!o.2) ho);obtain⟨k,b⟩:=o;have ay:pc c (k,b)≠pc c (k,!b):=by unfold pc;cases b<;>simp
 have low:∀i,i<c+2->i≠pc c (k,b)/\i≠pc c (k,!b):=fun i hi=>by unfold pc;constructor<;>lia
 refine⟨?_,?_,fun o' ip=>?_⟩
 ·rw[aQ (Ne.symm (low c (by lia)).2),aQ (Ne.symm (low c (by lia)).1)];exact A.net
 ·rw[aQ (Ne.symm (low (c+1) (by lia)).2),aQ (Ne.symm (low (c+1) (by lia)).1)];exact A.lst
 ·obtain⟨k',b'⟩:=o';by_cases hk:k'=k
  ·subst hk;by_cases hb:b'=b
   ·subst hb;rw[aQ (Ne.symm ay),m6 l1];unfold pcell rr;rw[jR];cases b'<;>simp<;>lia
   ·have ud:b'= !b:=by cases b<;>cases b'<;>simp_all
    subst ud;rw[m6 (by rw[cL];exact l2)];unfold pcell rr;rw[jR];cases b<;>simp<;>lia
  ·have n1:pc c (k',b')≠pc c (k,b):=by unfold pc;dsimp only;split<;>split<;>lia
   have n2:pc c (k',b')≠pc c (k,!b):=by unfold pc;dsimp only;split<;>split<;>lia
   rw[aQ (Ne.symm n2),aQ (Ne.symm n1),A.pip (k',b') ip];unfold pcell rr;rw[uY hk]
theorem aEz{x:Int}:∀{r:List (Nat×Bool)}{f:Nat->Int}{C:Sto},gS N f c pl C->(∀o∈r,o.1<N.m)->∀{Q:T->Sto->Prop},(∀C',gS N (pr r x f) c pl C'->C'.length=C.length->(∀i,i<c\/c+2+2*N.m<=i->C'[i]?=C[i]?)->Q .non C')->wpO (uH [rtT c r,.int x] C) Q:=by
 intro r f C A ho Q q
 refine iN ?_
 unfold aIC;walk_at "b"
 refine nK.mpr (e9.mpr ⟨_,rfl,_,rfl,?_⟩)
 refine j0 (xs:=r) (en:=fun o=>T.cell (pc c o)) (fun j τ C'=>∃a,τ=[some (rtT c r),some (.int x),a]/\gS N (pr (r.take j) x f) c pl C'/\C'.length=C.length/\∀i,i<c\/c+2+2*N.m<=i->C'[i]?=C[i]?) ⟨_,rfl,A,rfl,fun _ _=>rfl⟩ ?_ ?_
 ·rintro j o τ C' hj ⟨a,rfl,A',hl,ij⟩;have bj:=ho o (bF hj);obtain⟨f1,f2,f3,f4,f5⟩:=A'.fld bj;have A2:=A'.pour1 bj x;have l2:=lL (A'.pip (o.1,!o.2) bj);have ay:pc c o≠pc c (o.1,!o.2):=by obtain⟨k,b⟩:=o;unfold pc;cases b<;>simp
  have hpr:∀(r:List (Nat×Bool))(f:Nat->Int),pr (r++[o]) x f=up (pr r x f) o.1 (pr r x f o.1+if o.2 then x else -x):=fun r=>by
   induction r with
   |nil=>intro f;rfl
   |cons e r ih=>intro f;show pr (r++[o]) x _=_;rw[ih];rfl
  unfold aB5
  refine gB.mpr (fJ.mpr (xA (i:=rr N (pr (r.take j) x f) o) (j:=x) (e9.mpr ⟨_,rfl,f4,e9.mpr ⟨_,rfl,rfl,_,lX (A'.pip o bj) (by decide) rfl rfl,?_⟩⟩)))
  have g5:oQ "Pipe" "back" (C'.set (pc c o) (.o "Pipe" pnm,[.int (rt N o),.int (rh N o),.int (rd N o),.int (rr N (pr (r.take j) x f) o - x),.cell (pc c (o.1,!o.2))])) (.cell (pc c o))=some (.cell (pc c (o.1,!o.2))):=kZ (m6 (lL (A'.pip o bj))) rfl;have g6:(C'.set (pc c o) (.o "Pipe" pnm,[.int (rt N o),.int (rh N o),.int (rd N o),.int (rr N (pr (r.take j) x f) o - x),.cell (pc c (o.1,!o.2))]))[pc c (o.1,!o.2)]?=some (pcell N (pr (r.take j) x f) c (o.1,!o.2)):=by
   rw[aQ ay];exact A'.pip (o.1,!o.2) bj
  refine fW.mpr (xA (i:=rr N (pr (r.take j) x f) (o.1,!o.2)) (j:=x) (fR (iV (t:=.cell (pc c o)) rfl g5) ⟨kZ g6 rfl,e9.mpr ⟨_,rfl,rfl,_,lX g6 (by decide) rfl rfl,trivial,_,rfl,?_,?_,?_⟩⟩))
  ·rw[aOs,hj,aOn,hpr]
   exact A2
  ·rw[cL,cL];exact hl
  ·intro i hi;rw[aQ (by unfold pc;split<;>lia),aQ (by unfold pc;split<;>lia)]
   exact ij i hi
 ·rintro τ C' ⟨a,rfl,A',hl,ij⟩;rw[dU]at A'
  exact q C' A' hl ij
end Lib
namespace Lib
open PySem L2 TL NF
variable{w:Wk}{es:List (Nat×Nat)}{P:Int}{p:Nat->Int}{c:Nat}{Q:T->Sto->Prop}
structure Wel(w:Wk)(n:Nat)(es:List (Nat×Nat))(P:Int):Prop where
 n8:n<=8
 m:(net w n es P).m<40000
 ein:∀e∈es,e.1<n/\e.2<n
 rk:∃r:Nat->Int,(∀i,i<n->0<=r i/\r i<n)/\∀e∈es,r e.1<r e.2
 l0:∀i,i<n->0<=w.l i
 pP:sm n w.p<P
 big:sm n w.p<10^199
theorem Wel.open{n:Nat}(W:Wel w n es P){f:Nat->Int}{a:Int}(G:Good w n es P f a p)(ha:a<P):∀k,k<(net w n es P).m->isU n k=false->f k<(net w n es P).c k:=fun k hk hu=>by
 obtain⟨r,h1,h2⟩:=W.rk
 exact NF.plenty G.flo G.cap h1 h2 W.ein ha hk hu
theorem aHU:st1 0=fun _=>0:=by funext v;unfold st1;split<;>rfl
theorem aN6{n:Nat}:sm n (fun _=>0)=0:=mR fun _ _=>rfl
theorem moments0{n:Nat}(W:Wel w n es P){f:Nat->Int}{a:Int}{C:Sto}(A:gS (net w n es P) f c (2*n+2:Nat) C)(G:Good w n es P f a p)(hb:sm (2*n+2) p<10^199)
 (q:∀p',Least (net w n es P) (2*n+2) f (fun _=>0) p'->Good w n es P f a p'->(∀v,v<2*n+2->p' v<=p v)->Q (.cell C.length) (C++[(.l,kH (2*n+2) p')])):wpO (iL [.cell c,.int 0] C) Q:=by
 refine aDl A W.m (uG W.ein) (by lia) (by have:=W.n8;lia) (y:=p) (fun v hv=>by rw[aHU];exact G.ge v hv) G.pot (by rw[aHU,aN6];lia) fun p' L=>?_
 rw[aHU]at L;obtain⟨G',h⟩:=G.least L
 exact q p' L G' h
structure Filled(w:Wk)(n:Nat)(es:List (Nat×Nat))(P:Int)(e:Int)(f0:Nat->Int)(a0:Int)(p0 f p:Nat->Int)(a:Int):Prop where
 good:Good w n es P f a p
 least:Least (net w n es P) (2*n+2) f (fun _=>0) p
 le:∀v,v<2*n+2->p v<=p0 v
 ready:p 1<=e
 how:f=f0\/a0<a/\∃q,Good w n es P f a q/\e<q 1/\∀v,v<2*n+2->q v<=p0 v
theorem aJg{n:Nat}(W:Wel w n es P){E e:Int}{b:Nat->Int}(TM:Tim n es E b w.l)(hE:E<=e)(he0:0<=e){f0 p0:Nat->Int}{a0:Int}(G0:Good w n es P f0 a0 p0)(kq:a0<=sm n w.p)(a00:0<=a0)(hb:sm (2*n+2) p0<10^199)
 {C:Sto}(A:gS (net w n es P) f0 c (2*n+2:Nat) C)
 (q:∀f p a C',Filled w n es P e f0 a0 p0 f p a->a<=sm n w.p->a0<=a->gS (net w n es P) f c (2*n+2:Nat) C'->C.length<=C'.length->(∀i,i<C.length->(i<c\/c+2+2*(net w n es P).m<=i)->C'[i]?=C[i]?)->Q .non C'):
 wpO (pJ [.cell c,.int e] C) Q:=by
 have ai:=A.len;have hn8:=W.n8
 refine iN ?_
 unfold yS;walk_at "b"
 refine fJ.mpr (f6.mpr (jI (e9.mpr ⟨_,rfl,jZ A.net rfl,fB.mpr (gL.mpr (fH.mpr ⟨rfl,moments0 W A G0 hb fun p1 L1 G1 h1=>?_⟩))⟩)))
 refine gB.mpr (fW.mpr ?_)
 refine sF (fun m τ C'=>∃f p a mq x,τ=[some (.cell c),some (.int e),some (.cell mq),x]/\C'[mq]?=some (.l,kH (2*n+2) p)/\gS (net w n es P) f c (2*n+2:Nat) C'/\Good w n es P f a p/\Least (net w n es P) (2*n+2) f (fun _=>0) p/\(∀v,v<2*n+2->p v<=p0 v)/\
  a<=sm n w.p/\a0<=a/\(f=f0\/a0<a/\∃q,Good w n es P f a q/\e<q 1/\∀v,v<2*n+2->q v<=p0 v)/\C.length<=C'.length/\(∀i,i<C.length->(i<c\/c+2+2*(net w n es P).m<=i)->C'[i]?=C[i]?)/\sm n w.p+1 - a<=(m:Int)) (m:=(sm n w.p+1 - a0).toNat) ?_ ?_ ?_
 ·have h2:=W.big;have h3:(sm n w.p+1 - a0).toNat<=10^199:=by lia
  exact dW h3 (aPj (by decide) (by decide))
 ·refine⟨f0,p1,a0,C.length,_,rfl,by simp,A.app ai,G1,L1,h1,kq,bP _,.inl rfl,by simp,fun i hi _=>aT hi,by lia⟩
 rintro m τ C' ⟨f,p,a,mq,x,rfl,ot,A',G,L,hle,ha,yv,how,hCl,ij,sk⟩;have gj:lc C' mq=some (kH (2*n+2) p):=f9.mpr ot
 refine g8.mpr (fK.mpr (fK.mpr (e9.mpr ⟨_,rfl,gL.mpr (kQ.mpr ⟨_,gj,_,aBu (v:=1) (by lia),e9.mpr ⟨_,rfl,jH.mpr ⟨_,rfl,?_⟩⟩⟩)⟩)))
 by_cases hp:e<p 1
 ·rw[if_pos (decide_eq_true hp)];have lx:0<n:=by
   rcases eJ n with z|z
   ·exfalso;have hm0:(net w n es P).m=0:=by
     show 4*n+es.length=0;have:es=[]:=by
      cases es with
      |nil=>rfl
      |cons x r=>have:=(W.ein x bJ).1;lia
     rw[this,z];rfl
    have:=L.le (fun _=>0) (fun _ _=>bP _) (fun k hk=>by lia) 1 (by lia)
    lia
   ·exact z
  have ho:=W.open G (dA ha W.pP);have su:=A'.len;unfold tR
  refine fJ.mpr (f6.mpr (i7.mpr (fB.mpr (jI (e9.mpr ⟨_,rfl,jZ A'.net rfl,fH.mpr ⟨rfl,oT A' W.m ?_⟩⟩)))))
  refine fB.mpr (e9.mpr ⟨_,rfl,fH.mpr ⟨rfl,?_⟩⟩)
  refine qZ A' W.m (uG W.ein) (by lia) (by lia) ot (fun R r0 hc=>G.route L ho W.ein W.l0 lx R r0 hc) fun r G2 hr=>?_
  have A2:gS (net w n es P) f c (2*n+2:Nat) (C'++G2):=A'.app su;have ay:r≠[]:=fun z=>by
   subst z;have:=hr.wk
   exact absurd (show(0:Nat)=1 from this) (by decide)
  have lp:∀o∈r,o.1<(net w n es P).m:=fun o bj=>(hr.op o bj).1
  have cq:=uG (w:=w) (P:=P) W.ein;have dj:r.length<1000:=by
   have h5:=lR (2*n+2) _ (bS.mp hr.nd).2 fun v hv=>by
    obtain⟨⟨k,d⟩,bj,rfl⟩:=bM.mp hv;have:=cq k (hr.op _ bj).1;unfold rh;cases d<;>simp<;>lia
   rw[aS]at h5
   lia
  refine gB.mpr (fW.mpr (fJ.mpr (mW.mpr (i7.mpr (fB.mpr (e9.mpr ⟨_,rfl,fB.mpr (i7.mpr (fB.mpr (e9.mpr ⟨_,rfl,fH.mpr ⟨rfl,y0 A2 ay lp dj (fH.mpr ⟨rfl,?_⟩)⟩⟩)))⟩))))))
  refine aEz A2 lp fun C3 A3 hl3 hf3=>?_
  have hx:=aC3 ay hr.op;have G3:Good w n es P (pr r (rmin (net w n es P) f r) f) (a+rmin (net w n es P) f r) p:=G.pour hr.wk hr.pipes hr.tg (by lia) fun o bj=>aEF bj
  have hb3:=G3.bound TM (by lia);have di:sm (2*n+2) p<10^199:=dA (tT hle) hb
  refine fW.mpr (f6.mpr (jI (e9.mpr ⟨_,rfl,jZ A3.net rfl,fB.mpr (gL.mpr (fH.mpr ⟨rfl,moments0 W A3 G3 di fun p4 L4 G4 h4=>?_⟩))⟩)))
  have hl5:C'.length<=C3.length:=by rw[hl3];simp
  refine gB.mpr ⟨(sm n w.p+1 - (a+rmin (net w n es P) f r)).toNat,by lia,_,p4,_,C3.length,_,rfl,by simp,A3.app A3.len,G4,L4,fun v hv=>dZ (h4 v hv) (hle v hv),hb3,by lia,.inr ⟨by lia,p,G3,hp,hle⟩,by rw[bB];lia,fun i hi hic=>?_,by lia⟩
  rw[aT (by lia),hf3 i hic,aT (by lia)]
  exact ij i hi hic
 ·rw[if_neg (by rw[decide_eq_false hp];simp)]
  exact q f p a C' ⟨G,L,hle,by lia,how⟩ ha yv A' hCl ij
end Lib
namespace Lib
open PySem L2 TL NF
variable{d:Nat}{s:Nat×Nat}{L:NF.Fl}{Q:T->Sto->Prop}
def ky2(s:Nat×Nat):List Key:=[kyN s.1,kyN s.2]
theorem aEB(a b:Nat×Nat)(h:ky2 a=ky2 b):a=b:=by
 have h1:=aPC.inj h;have h2:=aPC.inj h1.2
 exact aP1 (tF _ _ h1.1) (tF _ _ h2.1)
noncomputable def stT(s:Nat×Nat):T:=.tup [.int s.1,.int s.2]
def m5(L:NF.Fl):Cl:=(.dt (L.map fun p=>ky2 p.1),L.map fun p=>.int p.2)
def aI4(L:NF.Fl):Cl:=(.dz (L.map fun p=>ky2 p.1),L.map fun p=>.int p.2)
theorem v8{C:Sto}(e:C[d]?=some (m5 L)\/C[d]?=some (aI4 L)):dval C (.cell d) (stT s)=some ((lk L s).map T.int):=by
 unfold dval;rw[aHz e,aGY e];show some (vl _ (ky2 s))=_;rw[aDt (vf:=fun i:Int=>T.int i) aEB]
theorem aEd{C:Sto}{v:Int}(e:C[d]?=some (m5 L))(hl:L.length<lim):dput C (.cell d) (stT s) (.int v)=some (C.set d (m5 (mY L s v))):=by
 unfold dput;rw[aHz (.inl e),aIu e];show(if _ then some (C.set d (.dt (pkK (ky2 s) _),pvK (ky2 s) _ _ _))else none)=_;rw[if_pos (by simpa using hl)];obtain⟨e1,e2⟩:=aBG (vf:=fun i:Int=>T.int i) aEB (a:=s) (b:=v) (rs:=L);rw[e1,e2];rfl
theorem rV:(lk L s).getD 0=at_ L s:=by
 unfold at_;congr 1;induction L with
 |nil=>rfl
 |cons e L ih=>
  obtain⟨k,v⟩:=e;rw[nH,bY];by_cases h:k=s
  ·rw[if_pos h,show(s==k)=true from beq_iff_eq.mpr h.symm]
  ·rw[if_neg h,show(s==k)=false from beq_eq_false_iff_ne.mpr (Ne.symm h)];exact ih
theorem aBm{p:(Nat×Nat)×Int}{v:Int}(h:¬p.1=s):mY (p::L) s v=p::mY L s v:=by
 unfold mY;rw[aM];by_cases hs:s∈L.map (·.1)
 ·rw[if_pos (aU _ hs),if_pos hs,aM,if_neg h]
 ·rw[if_neg (fun z=>by rcases bE.mp z with z|z;·exact h z.symm
                       ·exact hs z),if_neg hs];rfl
theorem aDx{g:(Nat×Nat)×Int->(Nat×Nat)×Int}(h:s∉L.map (·.1)):L.map (fun p=>if p.1=s then g p else p)=L:=by
 induction L with
 |nil=>rfl
 |cons e L ih=>
  rw[aM,bE,not_or]at h;rw[aM,ih h.2,if_neg (fun z=>h.1 z.symm)]
theorem aEJ{s:Nat×Nat}{v:Int}:∀{L:NF.Fl},(L.map (·.1)).Nodup->mY L s (at_ L s+v)=ad s v L
 | [],_=>by simp[mY,ad,at_]
 | (k,x)::L,hn=>by
   rw[aM,bS]at hn;unfold ad;by_cases h:k=s
   ·subst h;have e:at_ ((k,x)::L) k=x:=by rw[<-rV,nH,if_pos rfl];rfl
    rw[e,if_pos rfl];unfold mY;rw[if_pos (by simp),aM,if_pos rfl,aDx hn.1]
   ·have e:at_ ((k,x)::L) s=at_ L s:=by rw[<-rV,nH,if_neg h,rV]
    rw[e,if_neg h,aBm h,aEJ hn.2]
theorem aJq{x:Int}(hn:(L.map (·.1)).Nodup)(hs:s∈L.map (·.1)):mY L s (at_ L s - x)=tk x s L:=by
 unfold mY;rw[if_pos hs];unfold tk;induction L with
 |nil=>rfl
 |cons e L ih=>
  obtain⟨k,y⟩:=e;rw[aM,bS]at hn;rw[aM,aM];by_cases h:k=s
  ·subst h;have e:at_ ((k,y)::L) k=y:=by rw[<-rV,nH,if_pos rfl];rfl
   rw[e,if_pos rfl,aDx hn.1,aDx (g:=fun e=>(e.1,e.2 - x)) hn.1]
  ·have e:at_ ((k,y)::L) s=at_ L s:=by rw[<-rV,nH,if_neg h,rV]
   rw[aM]at hs;rw[e,if_neg h,if_neg h,ih hn.2 ((bE.mp hs).resolve_left (Ne.symm h))]
theorem aKO{e:(Nat×Nat)×Int}(hn:(L.map (·.1)).Nodup)(he:e∈L):lk L e.1=some e.2:=by
 induction L with
 |nil=>cases he
 |cons p L ih=>
  rw[aM,bS]at hn;rw[nH];rcases bE.mp he with rfl|he
  ·rw[if_pos rfl]
  ·rw[if_neg (fun z=>hn.1 (by rw[z];exact cK he)),ih hn.2 he]
noncomputable def outs(L:NF.Fl)(v:Nat):List (Nat×Nat):=(L.filter fun e=>decide (e.1.1=v)&&decide (0<e.2)).map (·.1)
theorem rS{C:Sto}{v:Nat}(e:C[d]?=some (m5 L))(hn:(L.map (·.1)).Nodup)(hl:L.length<90000)(q:Q (.lst ((outs L v).map stT)) C):wpO (l5 [.int v,.cell d] C) Q:=by
 have hd:=lL e
 refine iN ?_
 unfold sG;walk_at "b"
 refine iJ.mpr (gA.mpr (aFv (c:=d) (ks:=L.map fun p:(Nat×Nat)×Int=>ky2 p.1) (ts:=L.map fun p:(Nat×Nat)×Int=>T.int p.2) (e9.mpr ⟨_,rfl,rfl,e,by simp,by simp[lim];lia,?_⟩)))
 have hz:(C.set d (aI4 L))[d]?=some (aI4 L):=m6 hd;rw[b6,show(aHw ∘ fun p:(Nat×Nat)×Int=>ky2 p.1)=fun p=>stT p.1 from rfl]
 refine rH (xs:=L) (en:=fun p=>stT p.1) (fun e=>decide (e.1.1=v)&&decide (0<e.2)) (fun p=>stT p.1) (fun x hx=>?_) ?_
 ·refine gB.mpr (wJ.mpr (g8.mpr (fK.mpr (fK.mpr ?_))))
  refine e9.mpr ⟨stT x.1,rfl,?_⟩
  refine gL.mpr (kQ.mpr ⟨[.int x.1.1,.int x.1.2],rfl,.int x.1.1,rfl,?_⟩)
  refine e9.mpr ⟨.int v,rfl,?_⟩
  refine wF.mpr ⟨_,rfl,?_⟩
  have hv:((x.1.1:Int)=v)↔x.1.1=v:=by lia
  by_cases h:x.1.1=v
  ·rw[if_pos (decide_eq_true (hv.mpr h))];have hg:=v8 (s:=x.1) (L:=L) (C:=C.set d (aI4 L)) (.inr hz);rw[aKO hn hx]at hg
   refine g8.mpr (fK.mpr (fK.mpr (e9.mpr ⟨_,rfl,e9.mpr ⟨_,rfl,tM.mpr ⟨_,hg,gL.mpr (jH.mpr ⟨_,rfl,rfl,?_,fun _=>e9.mpr ⟨_,rfl,rfl,rfl⟩⟩)⟩⟩⟩)))
   rw[decide_eq_true h,Bool.true_and]
  ·rw[if_neg (by rw[decide_eq_false (fun z=>h (hv.mp z))];simp)]
   refine⟨rfl,by rw[decide_eq_false h,aPd],fun z=>?_⟩
   rw[decide_eq_false h,aPd]at z;cases z
 ·have:(L.filter fun e=>decide (e.1.1=v)&&decide (0<e.2)).map (fun p=>stT p.1)=(outs L v).map stT:=by unfold outs;rw[b6];rfl
  rw[this]
  exact⟨rfl,q⟩
theorem aCh{x:Int}{s:Nat×Nat}:∀{r:List (Nat×Nat)}{L:NF.Fl},tks x (r++[s]) L=tk x s (tks x r L)
 | [],L=>rfl
 |a::r,L=>by show tks x (r++[s]) (tk x a L)=_;rw[aCh];rfl
theorem aB9{C:Sto}{rc:Nat}{r:List (Nat×Nat)}(e:C[d]?=some (m5 L))(e2:C[rc]?=some (.l,r.map stT))(hn:(L.map (·.1)).Nodup)(hl:L.length<90000)(hr:r≠[])(dj:r.length<1000)(hk:∀s∈r,s∈L.map (·.1))
 (q:Q (.int (qN (r.map (at_ L)))) (C.set d (m5 (tks (qN (r.map (at_ L))) r L)))):wpO (pC [.cell d,.cell rc] C) Q:=by
 have hd:=lL e;have hdr:d≠rc:=fun z=>by subst z;rw[e]at e2;cases e2
 have gj:lc C rc=some (r.map stT):=f9.mpr e2;have lkk:∀(L':NF.Fl)(s:Nat×Nat),s∈L'.map (·.1)->lk L' s=some (at_ L' s):=fun L' s hs=>by
  obtain⟨v,hv⟩:=cP.mp (pO.mpr hs);rw[hv,<-rV,hv];rfl
 generalize hx:qN (r.map (at_ L))=x at q
 refine iN ?_
 unfold yE;walk_at "b"
 refine fJ.mpr (f6.mpr (fV.mpr (fB.mpr (gA.mpr (jF.mpr (e9.mpr ⟨_,rfl,_,gj,by simp[lim];lia,?_⟩))))))
 refine iH (xs:=r) (en:=stT) (fun s=>T.int (at_ L s)) (fun s hs=>gB.mpr (fK.mpr (e9.mpr ⟨_,rfl,e9.mpr ⟨_,rfl,tM.mpr ⟨_,by rw[v8 (.inl e),lkk L s (hk s hs)];rfl,rfl,rfl⟩⟩⟩))) ?_
 refine fH.mpr (lQ.mpr ⟨_,rfl,_,lT (f:=at_ L),?_,?_⟩)
 ·cases r with
  |nil=>exact absurd rfl hr
  |cons s r=>rfl
 rw[show qN (r.map (at_ L))=x from hx]
 refine gB.mpr (fW.mpr (fJ.mpr (nK.mpr (e9.mpr ⟨_,rfl,_,gj,?_⟩))))
 refine j0 (xs:=r) (en:=stT) (fun j τ C'=>∃y,τ=[some (.cell d),some (.cell rc),some (.int x),y]/\C'=C.set d (m5 (tks x (r.take j) L))) ⟨_,rfl,?_⟩ ?_ ?_
 ·obtain⟨h1,h2⟩:=aR.mp e;show C=C.set d (m5 L);rw[<-h2,eT]
 ·rintro j s τ C' hj ⟨y,rfl,rfl⟩;have hs:=hk s (bF hj);have oo:s∈(tks x (r.take j) L).map (·.1):=by rw[o0];exact hs
  have kj:((tks x (r.take j) L).map (·.1)).Nodup:=by rw[o0];exact hn
  have gk:(tks x (r.take j) L).length<90000:=by
   have:=congrArg aPF (o0 (x:=x) (r:=r.take j) (L:=L));rw[aS,aS]at this;lia
  have e':(C.set d (m5 (tks x (r.take j) L)))[d]?=some (m5 (tks x (r.take j) L)):=m6 hd;unfold sN
  refine gB.mpr (aHf (i:=at_ (tks x (r.take j) L) s) (j:=x) (e9.mpr ⟨_,rfl,e9.mpr ⟨_,rfl,by rw[v8 (.inl e'),lkk _ s oo];rfl,e9.mpr ⟨_,rfl,rfl,_,aEd e' (by simp[lim];lia),?_,_,rfl,?_⟩⟩⟩))
  ·show lc _ rc=_;rw[f9,eI,aQ hdr];exact e2
  ·rw[eI,aJq kj oo,aOs,hj,aOn,aCh]
 ·rintro τ C' ⟨y,rfl,rfl⟩;rw[dU]
  exact fW.mpr (iJ.mpr (e9.mpr ⟨_,rfl,q⟩))
end Lib
namespace Lib
open PySem L2 TL NF
variable{L:NF.Fl}{e:(Nat×Nat)×Int}
structure Flw(L:NF.Fl)(a:Int)(ρ:Nat->Int):Prop where
 con:Con L a
 nn:∀e∈L,0<=e.2
 nd:(L.map (·.1)).Nodup
 hz:∀e∈L,e.1.2≠0
 rk:∀e∈L,ρ e.1.1<ρ e.1.2
 h1:∀e∈L,ρ e.1.2<=ρ 1
 h0:∀e∈L,ρ 0<=ρ e.1.1
 small:ρ 1 - ρ 0<=30
 le:ρ 0<=ρ 1
 len:L.length<90000
theorem yG{x:T}{l:List T}:atI (x::l) 0=some x:=aEj (j:=0) rfl
theorem SW.snoc:∀{r:List (Nat×Nat)}{u v:Nat}{s:Nat×Nat},SW r u v->s.1=v->SW (r++[s]) u s.2
 | [],u,v,s,h,e=>by cases h;exact⟨e,rfl⟩
 |a::r,u,v,s,⟨h1,h2⟩,e=>⟨h1,SW.snoc h2 e⟩
theorem aGw{v:Nat}{s:Nat×Nat}(h:s∈outs L v):∃e∈L,e.1=s/\s.1=v/\0<e.2:=by
 unfold outs at h;obtain⟨e,he,rfl⟩:=bM.mp h;obtain⟨h1,h2⟩:=c8.mp he;rw[eV,decide_eq_true_iff,decide_eq_true_iff]at h2
 exact⟨e,h1,rfl,h2.1,h2.2⟩
theorem aBP{v:Nat}(h:outs L v=[])(he:e∈L)(hv:e.1.1=v):¬0<e.2:=fun hp=>by
 have:e.1∈outs L v:=by
  unfold outs
  refine cK (c8.mpr ⟨he,?_⟩)
  rw[eV,decide_eq_true_iff,decide_eq_true_iff]
  exact⟨hv,hp⟩
 rw[h]at this;cases this
theorem aC5(hn:(L.map (·.1)).Nodup)(he:e∈L):at_ L e.1=e.2:=by rw[<-rV,aKO hn he];rfl
theorem xY{a:Int}{ρ:Nat->Int}(F:Flw L a ρ){C:Sto}{d:Nat}(e:C[d]?=some (m5 L)){Q:T->Sto->Prop}
 (q:∀r:List (Nat×Nat),(r=[]/\a<=0)\/(r≠[]/\SW r 0 1/\r.Nodup/\r.length<1000/\∀s∈r,s∈L.map (·.1)/\0<at_ L s)->Q (.cell C.length) (C++[(.l,r.map stT)])):wpO (j8 [.cell d] C) Q:=by
 have hd:=lL e;have e':∀x:Cl,(C++[x])[d]?=some (m5 L):=fun x=>by rw[aT hd];exact e
 refine iN ?_
 unfold pW;walk_at "b"
 refine fJ.mpr (f6.mpr (jN.mpr (hV.mpr (fH.mpr ⟨by decide,?_⟩))))
 refine gB.mpr (fW.mpr (fJ.mpr (f6.mpr (i7.mpr (fB.mpr (gL.mpr (fB.mpr ?_)))))))
 refine e9.mpr ⟨_,rfl,fH.mpr ⟨rfl,?_⟩⟩
 refine rS (v:=0) (e' _) F.nd F.len (gB.mpr (fW.mpr (fJ.mpr ?_)))
 refine sF (fun m τ C'=>∃r u,τ=[some (.cell d),some (.cell C.length),some (.lst ((outs L u).map stT))]/\C'=C++[(.l,r.map stT)]/\SW r 0 u/\(r=[]/\u=0\/r≠[]/\∃e∈L,e.1.2=u/\0<e.2)/\(∀s∈r,s∈L.map (·.1)/\0<at_ L s)/\r.Nodup/\(∀s∈r,ρ s.1<ρ u)/\
  (r.length:Int)<=ρ u - ρ 0/\ρ u<=ρ 1/\ρ 1 - ρ u<=(m:Int)) (m:=30) (by decide) ?_ ?_
 ·exact⟨[],0,rfl,rfl,rfl,.inl ⟨rfl,rfl⟩,by simp,by simp,by simp,by simp,F.le,F.small⟩
 rintro m τ C' ⟨r,u,rfl,rfl,h1,h2,h3,h4,h5,h6,h7,h8⟩
 refine jO.mpr (e9.mpr ⟨_,rfl,_,rfl,?_⟩)
 have hsm:=F.small;cases ho:outs L u with
 |nil=>
  rw[bC];rw[if_neg (by simp)]
  refine fW.mpr (iJ.mpr (e9.mpr ⟨_,rfl,q r ?_⟩))
  rcases h2 with⟨rfl,rfl⟩| ⟨ay,x,hx,hu,hp⟩
  ·refine .inl ⟨rfl,?_⟩
   by_cases ha:0<a
   ·obtain⟨y,hy,jr,xg⟩:=aJ5 F.con F.nn F.hz ha
    exact absurd xg (aBP ho hy jr)
   ·lia
  ·refine .inr ⟨ay,?_,h4,by lia,h3⟩
   have hu1:u=1:=by
    by_cases z:u=1
    ·exact z
    ·obtain⟨y,hy,jr,xg⟩:=aKn F.con F.nn (v:=u) (by rw[<-hu];exact F.hz x hx) z hx hu hp
     exact absurd xg (aBP ho hy jr)
   rw[hu1]at h1;exact h1
 |cons s os=>
  obtain⟨x,hx,fj,uw,hxp⟩:=aGw (L:=L) (v:=u) (s:=s) (by rw[ho];exact bJ);have cm:=F.rk x hx;have rm:=F.h1 x hx;rw[fj,uw]at cm;rw[fj]at rm;rw[aM,if_pos (by simp)];have gj:lc (C++[(Kd.l,r.map stT)]) C.length=some (r.map stT):=f9.mpr (by simp);unfold oH
  refine fJ.mpr (o9.mpr (e9.mpr ⟨_,rfl,fB.mpr (fK.mpr ?_)⟩))
  refine e9.mpr ⟨_,rfl,gL.mpr (kQ.mpr ⟨stT s::os.map stT,rfl,stT s,yG,?_⟩)⟩
  refine fH.mpr ⟨_,rfl,by rw[gj];rfl,_,gj,pQ.mpr ⟨by simp[lim];lia,?_⟩⟩
  have es:(C++[(Kd.l,r.map stT)]).set C.length (Kd.l,r.map stT++[stT s])=C++[(Kd.l,(r++[s]).map stT)]:=by
   rw[b7 _ _ (bD _),dE,bQ];rfl
  rw[es]
  refine fW.mpr (f6.mpr (i7.mpr (fB.mpr (fK.mpr (fK.mpr ?_)))))
  refine e9.mpr ⟨_,rfl,gL.mpr (kQ.mpr ⟨stT s::os.map stT,rfl,stT s,yG,?_⟩)⟩
  refine gL.mpr (kQ.mpr ⟨[.int s.1,.int s.2],rfl,.int s.2,rfl,fB.mpr ?_⟩)
  refine e9.mpr ⟨_,rfl,fH.mpr ⟨rfl,?_⟩⟩
  refine rS (v:=s.2) (e' _) F.nd F.len (gB.mpr ⟨(ρ 1 - ρ s.2).toNat,by lia,r++[s],s.2,rfl,rfl,SW.snoc h1 uw,.inr ⟨by simp,x,hx,by rw[fj],hxp⟩,fun z hz=>?_,?_,fun z hz=>?_,?_,rm,by lia⟩)
  ·rcases bL.mp hz with hz|hz
   ·exact h3 z hz
   ·have:z=s:=by simpa using hz
    subst this
    exact⟨by rw[<-fj];exact cK hx,by rw[<-fj,aC5 F.nd hx];exact hxp⟩
  ·refine dO.mpr ⟨h4,by simp,fun y hy z hz=>?_⟩
   have:z=s:=by simpa using hz
   subst this;rintro rfl;have:=h5 y hy;rw[uw]at this;lia
  ·rcases bL.mp hz with hz|hz
   ·have:=h5 z hz;lia
   ·have:z=s:=by simpa using hz
    subst this;rw[uw];exact cm
  ·rw[bB];simp;lia
end Lib
namespace Lib
open PySem L2 TL NF
variable{r:List (Nat×Nat)}{L:NF.Fl}
theorem aGp{α β:Type}{g:α->β}:∀{l:List α},TL.od (l.map g)=(NF.od l).map g
 | []=>by simp[TL.od,NF.od]
 | [_]=>by simp[TL.od,NF.od]
 |a::b::r=>by
  have ih:=aGp (g:=g) (l:=r);simp only[aM,TL.od,NF.od];rw[ih]
theorem aII{α:Type}:∀{l:List α},(NF.od l).length<=l.length
 | []=>by simp[NF.od]
 | [_]=>by simp[NF.od]
 |a::b::r=>by
  have ih:=aII (l:=r);simp only[NF.od,aN]
  lia
theorem aB2{C:Sto}{rc:Nat}{is:List Nat}(e:C[rc]?=some (.l,r.map stT))(hl:r.length<1000)(hi:NF.od r=is.map stw){Q:T->Sto->Prop}(q:Q (.lst (is.map fun i:Nat=>T.int (i:Int))) C):wpO (pB [.cell rc] C) Q:=by
 have yk:is.length<1000:=by
  have h1:=aII (l:=r);rw[hi,aS]at h1
  lia
 refine iN ?_
 unfold yB;walk_at "b"
 refine iJ.mpr (gA.mpr (jF.mpr (gA.mpr (aJt.mpr (e9.mpr ⟨_,rfl,_,f9.mpr e,?_⟩)))))
 rw[aGp,hi,b6]
 refine⟨_,rfl,by simp[lim];lia,?_⟩
 refine iH (xs:=is) (en:=stT ∘ stw) (fun i:Nat=>T.int (i:Int)) (fun i _=>?_) q
 refine wS.mpr ⟨_,rfl,rfl,?_⟩
 refine fV.mpr (fB.mpr (e9.mpr ⟨.int ((2*i+2:Nat):Int),rfl,fH.mpr ?_⟩))
 rw[show((2*i+2:Nat):Int)=2*(i:Int)+2 by lia]
 exact(gC aDP rfl rfl).mpr ⟨rfl,rfl⟩
theorem wK{x:Int}:∀{r:List (Nat×Nat)}{L:NF.Fl},tks x r L=L.map fun e=>(e.1,e.2 - x*(r.count e.1:Int))
 | [],L=>by simp[tks]
 |s::r,L=>by
  unfold tks;rw[wK];unfold tk;rw[b6];apply cR;intro e _;simp only[d3];by_cases h:e.1=s
  ·rw[if_pos h];dsimp only;rw[h,List.count_cons_self,aPD,aP5,aPE];congr 1;lia
  ·rw[if_neg h,List.count_cons_of_ne (Ne.symm h)]
theorem Flw.take{a:Int}{ρ:Nat->Int}(F:Flw L a ρ){x:Int}(w:SW r 0 1)(hn:r.Nodup)(hx:∀s∈r,s∈L.map (·.1)/\x<=at_ L s):Flw (tks x r L) (a - x) ρ:=by
 have key:∀e'∈tks x r L,∃e∈L,e.1=e'.1/\e'.2=e.2 - x*(r.count e.1:Int):=fun e' he=>by
  rw[wK]at he;obtain⟨e,h1,rfl⟩:=bM.mp he
  exact⟨e,h1,rfl,rfl⟩
 refine⟨F.con.take F.nd (fun s hs=>(hx s hs).1) w,fun e' he=>?_,by rw[o0];exact F.nd,fun e' he=>?_,fun e' he=>?_,fun e' he=>?_,fun e' he=>?_,F.small,F.le,?_⟩
 ·obtain⟨e,h1,h2,h3⟩:=key e' he;have h4:=F.nn e h1;rw[h3];by_cases hs:e.1∈r
  ·rw[hn.count,if_pos hs];have:=(hx e.1 hs).2;rw[aC5 F.nd h1]at this;simp;lia
  ·rw[aPr.mpr hs];simp;exact h4
 ·obtain⟨e,h1,h2,h3⟩:=key e' he;rw[<-h2];exact F.hz e h1
 ·obtain⟨e,h1,h2,h3⟩:=key e' he;rw[<-h2];exact F.rk e h1
 ·obtain⟨e,h1,h2,h3⟩:=key e' he;rw[<-h2];exact F.h1 e h1
 ·obtain⟨e,h1,h2,h3⟩:=key e' he;rw[<-h2];exact F.h0 e h1
 ·rw[wK,aS];exact F.len
theorem Flw.le_a{a:Int}{ρ:Nat->Int}(F:Flw L a ρ){e:(Nat×Nat)×Int}(he:e∈L):e.2<=a:=
 aKK F.con F.nn ρ F.rk he (by have:=F.rk e he;have:=F.h0 e he;lia) (F.h1 e he)
theorem aNr{s:Nat×Nat}(h:s∉L.map (·.1)):at_ L s=0:=by
 rw[<-rV];cases e:lk L s with
 |none=>rfl
 |some v=>exact absurd (pO.mp (by rw[e];rfl)) h
theorem Flw.zero{a:Int}{ρ:Nat->Int}(F:Flw L a ρ)(ha:a<=0)(s:Nat×Nat):at_ L s=0:=by
 by_cases h:s∈L.map (·.1)
 ·obtain⟨e,he,rfl⟩:=bM.mp h;rw[aC5 F.nd he];have:=F.le_a he;have:=F.nn e he
  lia
 ·exact aNr h
end Lib
namespace Lib
open PySem L2 TL NF
variable{L:NF.Fl}{s:Nat×Nat}
theorem aF8{s:Nat×Nat}{v:Int}:∀{L:NF.Fl},(ad s v L).length<=L.length+1
 | []=>by simp[ad]
 |e::L=>by
  have:=aF8 (s:=s) (v:=v) (L:=L);unfold ad;split<;>simp<;>lia
theorem vX{N:Nt}{f:Nat->Int}:∀{k:Nat},(stp N f k).length<=k
 |0=>by simp[stp]
 |k+1=>by
  have h1:=vX (N:=N) (f:=f) (k:=k);have h2:=aF8 (s:=(N.t k,N.h k)) (v:=f k) (L:=stp N f k);unfold stp;lia
theorem aKz:((lk L s).map T.int).getD (.int 0)=.int (at_ L s):=by
 rw[<-rV];cases lk L s<;>rfl
theorem aAt{α:Type}{p q:α->Bool}:∀{l:List α},(∀e∈l,q e=true->p e=true)->(l.filter q).length<=(l.filter p).length/\((∃e∈l,p e=true/\q e=false)->(l.filter q).length<(l.filter p).length)
 | [],_=>⟨bD _,fun⟨e,he,_⟩=>by cases he⟩
 |a::l,h=>by
  obtain⟨h1,h2⟩:=aAt (p:=p) (q:=q) (l:=l) fun e he=>h e (aU _ he)
  have h3:=h a bJ;rw[aO1,aO1];cases hq:q a<;>cases hp:p a
  ·simp only[b8,if_false]
   refine⟨h1,fun⟨e,he,e1,e2⟩=>?_⟩
   rcases bE.mp he with rfl|he
   ·rw[hp]at e1;cases e1
   ·exact h2 ⟨e,he,e1,e2⟩
  ·simp only[b8,if_false,if_true,aN]
   exact⟨by lia,fun _=>by lia⟩
  ·rw[h3 hq]at hp;cases hp
  ·simp only[if_true,aN]
   refine⟨by lia,fun⟨e,he,e1,e2⟩=>?_⟩
   rcases bE.mp he with rfl|he
   ·rw[hq]at e2;cases e2
   ·have:=h2 ⟨e,he,e1,e2⟩;lia
noncomputable def posn(L:NF.Fl):Nat:=(L.filter fun e=>decide (0<e.2)).length
theorem aFc{r:List (Nat×Nat)}{x:Int}(hn:(L.map (·.1)).Nodup)(hr:r.Nodup)(hx:0<x)(hs:s∈r)(hk:s∈L.map (·.1))(he:at_ L s=x):posn (tks x r L)<posn L:=by
 unfold posn;rw[wK,List.filter_map,aS]
 refine(aAt fun e hel h=>?_).2 ?_
 ·simp only[d3,decide_eq_true_eq]at h|-;have:0<=x*(r.count e.1:Int):=dN (by lia) (by lia)
  lia
 ·obtain⟨e,h1,rfl⟩:=bM.mp hk;rw[aC5 hn h1]at he
  refine⟨e,h1,decide_eq_true (by lia),?_⟩
  simp only[d3,decide_eq_false_iff_not];rw[hr.count,if_pos hs,he];simp
structure yU(n:Nat)(es:List (Nat×Nat))(L0:NF.Fl)(a0:Int)(rl:List (Nat×Int×List Nat))(L:NF.Fl)(a:Int):Prop where
 ok:∀z∈rl,1<=z.2.1/\z.2.2≠[]/\(∀i∈z.2.2,i<n)/\NF.Chn es none z.2.2/\∀i,z.2.2.count i<=1
 sum:(rl.map fun z=>z.2.1).sum=a0 - a
 thr:∀i,(rl.map fun z=>z.2.1*(z.2.2.count i:Int)).sum=at_ L0 (stw i) - at_ L (stw i)
noncomputable def aAT(z:Nat×Int×List Nat):Cl:=(.l,.int z.2.1::z.2.2.map fun i:Nat=>T.int (i:Int))
theorem aFE{N:Nt}{f:Nat->Int}{c n:Nat}{es:List (Nat×Nat)}{pl a0:Int}{ρ:Nat->Int}{C:Sto}(A:gS N f c pl C)(hm:N.m<40000)(F0:Flw (stp N f N.m) a0 ρ)(hky:∀s∈(stp N f N.m).map (·.1),Ky n es s)(kq:0<=a0)(mm:a0<10^199){Q:T->Sto->Prop}
 (q:∀rl rw C',rl.length<=N.m->yU n es (stp N f N.m) a0 rl [] 0->C'[rw]?=some (.l,rl.map fun z=>.cell z.1)->(∀z∈rl,C'[z.1]?=some (aAT z))->Q (.cell rw) C'):wpO (nC [.cell c] C) Q:=by
 have ai:=A.len;have hf:oQ "Net" "pipes" C (.cell c)=some (.cell (c+1)):=kZ A.net rfl
 refine iN ?_
 unfold tG;walk_at "b"
 refine fJ.mpr (f6.mpr (aCo.mpr (gB.mpr (fW.mpr (fJ.mpr (nK.mpr ?_))))))
 have A1:∀x:Cl,gS N f c pl (C++[x]):=fun x=>A.app ai
 have kl:∀x:Cl,lc (C++[x]) (c+1)=some ((bK N.m).map fun j=>.cell (pc c (j,true))):=fun x=>f9.mpr (A1 x).lst
 refine fR (iV rfl (kZ (A1 _).net rfl)) ⟨_,kl _,?_⟩
 refine j0 (xs:=bK N.m) (en:=fun j=>T.cell (pc c (j,true))) (fun j τ C'=>∃x y,τ=[some (.cell c),some (.cell C.length),x,y,none,none]/\C'=C++[m5 (stp N f j)]) ⟨_,_,rfl,rfl⟩ ?_ ?_
 ·rintro j k τ C' hj ⟨x,y,rfl,rfl⟩;have hk:k=j/\j<N.m:=by
   obtain⟨h1,h2⟩:=aR.mp hj;rw[eA]at h2
   exact⟨h2.symm,by simpa using h1⟩
  obtain⟨rfl,uy⟩:=hk;obtain⟨f1,f2,f3,f4,f5⟩:=(A1 (m5 (stp N f k))).fld (o:=(k,true)) uy;obtain⟨g1,g2,g3,g4,g5⟩:=(A1 (m5 (stp N f k))).fld (o:=(k,false)) uy;have eD:(C++[m5 (stp N f k)])[C.length]?=some (m5 (stp N f k)):=by simp
  have hsl:=vX (N:=N) (f:=f) (k:=k);unfold qP
  refine gB.mpr (fJ.mpr (f6.mpr (fL.mpr (fB.mpr ?_))))
  refine fR (iV (t:=.cell (pc c (k,true))) rfl f1) (fB.mpr ?_)
  refine fR (iV (t:=.cell (pc c (k,true))) rfl f2) (fH.mpr ⟨by simp[lim],gB.mpr (fW.mpr ?_)⟩)
  refine aBR (fK.mpr (aFd (e9.mpr ⟨_,rfl,by unfold isDc;rw[aGY (.inl eD)];simp,e9.mpr ⟨stT (N.t k,N.h k),rfl,gL.mpr ⟨_,v8 (.inl eD),?_⟩⟩⟩)))
  rw[aKz]
  refine v7.mpr (v7.mpr (e9.mpr ⟨_,rfl,_,f5,_,g4,jH.mpr ?_⟩))
  refine e9.mpr ⟨_,rfl,e9.mpr ⟨stT (N.t k,N.h k),rfl,_,aEd eD (by simp[lim];lia),?_,_,_,rfl,?_⟩⟩
  ·show lc _ (c+1)=_;rw[f9,aQ (by lia)];exact(A1 _).lst
  ·rw[b7 _ _ (bD _),dE];show C++[m5 (mY (stp N f k) (N.t k,N.h k) (at_ (stp N f k) (N.t k,N.h k)+rr N f (k,false)))]=_;rw[show rr N f (k,false)=f k from rfl,aEJ uI];rfl
 ·rintro τ C' ⟨x,y,rfl,rfl⟩;rw[eU];have eD:∀z:Cl,(C++[m5 (stp N f N.m)]++[z])[C.length]?=some (m5 (stp N f N.m)):=fun z=>by simp
  refine fW.mpr (fJ.mpr (f6.mpr (jN.mpr (hV.mpr (fH.mpr ⟨by decide,?_⟩)))))
  refine gB.mpr (fW.mpr (fJ.mpr (f6.mpr (i7.mpr (fB.mpr ?_)))))
  refine e9.mpr ⟨_,rfl,fH.mpr ⟨rfl,xY F0 (eD _) fun r0 xr=>?_⟩⟩
  refine gB.mpr (fW.mpr (fJ.mpr ?_))
  refine sF (fun m τ C'=>∃rl L a r rc x y,τ=[some (.cell c),some (.cell C.length),x,y,some (.cell (C.length+1)),some (.cell rc)]/\C'[C.length]?=some (m5 L)/\C'[C.length+1]?=some (.l,rl.map fun z=>.cell z.1)/\C'[rc]?=some (.l,r.map stT)/\C.length+1<rc/\
   (∀z∈rl,C.length+1<z.1/\C'[z.1]?=some (aAT z))/\rl.length+posn L<=N.m/\Flw L a ρ/\L.map (·.1)=(stp N f N.m).map (·.1)/\yU n es (stp N f N.m) a0 rl L a/\((r=[]/\a<=0)\/(r≠[]/\SW r 0 1/\r.Nodup/\r.length<1000/\∀s∈r,s∈L.map (·.1)/\0<at_ L s))/\0<=a/\a<=(m:Int)) (m:=a0.toNat) ?_ ?_ ?_
  ·have:a0.toNat<10^199:=by lia
   exact bN this (dY (by decide) (by decide))
  ·refine⟨[],stp N f N.m,a0,r0,C.length+2,x,y,by simp,?_,?_,?_,by lia,by simp,?_,F0,rfl,⟨by simp,by simp,by simp⟩,xr,kq,by lia⟩
   ·rw[aT (by simp)];exact eD _
   ·rw[cS,cS,bI (by lia),show C.length+1 - C.length=1 by lia];rfl
   ·rw[cS,cS,bI (by lia),show C.length+2 - C.length=2 by lia];rfl
   ·have h1:posn (stp N f N.m)<=(stp N f N.m).length:=aOt _ _;have h2:=vX (N:=N) (f:=f) (k:=N.m);simp;lia
  rintro m τ C' ⟨rl,L,a,r,rc,x,y,rfl,e1,e2,e3,hrc,ki,dm,F,km,RO,hr,ha,sk⟩
  refine jO.mpr (e9.mpr ⟨_,rfl,!(r.map stT).isEmpty,by show(lc C' rc).map _=_;rw[f9.mpr e3];rfl,?_⟩)
  rcases hr with⟨rfl,da⟩| ⟨ay,je,xn,dj,cm⟩
  ·rw[if_neg (by simp)]
   refine fW.mpr (iJ.mpr (e9.mpr ⟨_,rfl,q rl (C.length+1) C' (by lia) ⟨RO.ok,?_,fun i=>?_⟩ e2 fun z hz=>(ki z hz).2⟩))
   ·rw[RO.sum];lia
   ·rw[RO.thr i,F.zero da];rfl
  ·rw[if_pos (by cases r with|nil=>exact absurd rfl ay|cons s r=>rfl)];obtain⟨m1,m2⟩:=y9 (ns:=r.map (at_ L)) (by rintro z;exact ay (aOF.mp z));generalize hx:qN (r.map (at_ L))=v at m1 m2;obtain⟨s0,om,ln⟩:=bM.mp m1;have hv:0<v:=by rw[<-ln];exact(cm s0 om).2
   have hle:∀s∈r,s∈L.map (·.1)/\v<=at_ L s:=fun s hs=>⟨(cm s hs).1,m2 _ (cK hs)⟩
   have hva:v<=a:=by
    obtain⟨e,he,rfl⟩:=bM.mp (cm s0 om).1;rw[<-ln,aC5 F.nd he];exact F.le_a he
   have F':=F.take je xn hle;have ma:(tks v r L).map (·.1)=(stp N f N.m).map (·.1):=by rw[o0];exact km
   obtain⟨is,i1,i2,i3,i4,i5⟩:=aHi (n:=n) (es:=es) r none je fun s hs=>hky s (by rw[<-km];exact(cm s hs).1)
   have hpt:=aFc F.nd xn hv om (cm s0 om).1 ln;have l1:=lL e1;have l2:=lL e2;have l3:=lL e3;have k3:(C'.set C.length (m5 (tks v r L)))[rc]?=some (.l,r.map stT):=by rw[aQ (by lia)];exact e3
   unfold qR
   refine fJ.mpr (o9.mpr (e9.mpr ⟨_,rfl,fB.mpr (jN.mpr (tD.mpr (gA.mpr (hV.mpr (fB.mpr (i7.mpr (fB.mpr ?_)))))))⟩))
   refine e9.mpr ⟨_,rfl,fB.mpr (e9.mpr ⟨_,rfl,fH.mpr ⟨rfl,aB9 e1 e3 F.nd F.len ay dj (fun s hs=>(cm s hs).1) ?_⟩⟩)⟩
   rw[hx]
   refine fH.mpr ⟨by simp[lim],i7.mpr (fB.mpr (e9.mpr ⟨_,rfl,fH.mpr ⟨rfl,aB2 k3 dj i1 ?_⟩⟩))⟩
   have yk:is.length<1000:=by
    have h1:=aII (l:=r);rw[i1,aS]at h1
    lia
   refine vZ.mpr ⟨_,rfl,_,rfl,by simp[lim];lia,fH.mpr ⟨_,rfl,by rw[f9.mpr e2];rfl,_,f9.mpr (?_ :_=some (Kd.l,rl.map fun z=>T.cell z.1)),pQ.mpr ⟨by simp[lim];lia,?_⟩⟩⟩
   ·rw[aT (by rw[cL];exact l2),aQ (by lia)];exact e2
   generalize kr:(C'.set C.length (m5 (tks v r L))++[(Kd.l,[T.int v]++is.map fun i:Nat=>T.int (i:Int))]).set (C.length+1) (Kd.l,(rl.map fun z=>T.cell z.1)++[T.cell (C'.set C.length (m5 (tks v r L))).length])=C2;have lC2:C2.length=C'.length+1:=by rw[<-kr];simp
   have old:∀i,i<C'.length->i≠C.length->i≠C.length+1->C2[i]?=C'[i]?:=fun i hi h1 h2=>by
    rw[<-kr,aQ (Ne.symm h2),aT (by rw[cL];exact hi),aQ (Ne.symm h1)]
   have c1:C2[C.length]?=some (m5 (tks v r L)):=by
    rw[<-kr,aQ (by lia),aT (by rw[cL];exact l1)];exact m6 l1
   have c2:C2[C.length+1]?=some (Kd.l,(rl++[(C'.length,v,is)]).map fun z=>T.cell z.1):=by
    rw[<-kr,bO (by simp;lia),bQ,cL];rfl
   have c3:C2[C'.length]?=some (aAT (C'.length,v,is)):=by
    rw[<-kr,aQ (by lia),bI (by simp)];simp[aAT]
   refine fW.mpr (f6.mpr (i7.mpr (fB.mpr (e9.mpr ⟨_,rfl,fH.mpr ⟨rfl,xY F' c1 fun r2 rp=>?_⟩⟩))))
   refine gB.mpr ⟨(a - v).toNat,by lia,rl++[(C'.length,v,is)],tks v r L,a - v,r2,C2.length,x,y,rfl,?_,?_,?_,by lia,fun z hz=>?_,?_,F',ma,⟨fun z hz=>?_,?_,fun i=>?_⟩,rp,by lia,by lia⟩
   ·rw[aT (by lia)];exact c1
   ·rw[aT (by lia)];exact c2
   ·simp
   ·rcases bL.mp hz with hz|hz
    ·obtain⟨g1,g2⟩:=ki z hz
     refine⟨g1,?_⟩
     rw[aT (by have:=lL g2;lia),old _ (lL g2) (by lia) (by lia)];exact g2
    ·have:z=(C'.length,v,is):=by simpa using hz
     subst this
     refine⟨by show C.length+1<C'.length;lia,?_⟩
     rw[aT (by show C'.length<C2.length;lia)];exact c3
   ·rw[bB];simp;lia
   ·rcases bL.mp hz with hz|hz
    ·exact RO.ok z hz
    ·have:z=(C'.length,v,is):=by simpa using hz
     subst this
     refine⟨by show 1<=v;lia,i4 rfl,i2,i3,fun i=>?_⟩
     show is.count i<=1;rw[<-i5 i];exact aPk.mp xn _
   ·rw[bQ,aOD,RO.sum];simp;lia
   ·rw[bQ,aOD,RO.thr i,aG1 (fun s hs=>(cm s hs).1)];have:=i5 i;simp;rw[this];lia
end Lib
namespace Lib
open PySem L2 TL
variable{G:FS}{Q:Fl->TSt->Sto->Prop}{ga:FB}{i u z:Int}{ns:List Int}{M:Nat}
def Nb(n:Int):Prop:=0<=n/\n<2^140
def p8(w:Int×Int×Int):Prop:=0<=w.2.1/\w.2.1<=w.1/\0<=w.2.2/\w.1<2^252/\w.2.2<2^252
def uT(w:Int×Int×Int):Prop:=0<=w.2.1/\w.2.1<=w.1/\0<=w.2.2/\w.1<2^240/\w.2.2<2^240
theorem uT.b{w:Int×Int×Int}(h:uT w):p8 w:=⟨h.1,h.2.1,h.2.2.1,aO4 h.2.2.2.1 (by decide),aO4 h.2.2.2.2 (by decide)⟩
theorem sqP{F:FS}{τ:TSt}{C:Sto}(P:TSt->Sto->Prop)(h1:wpS F τ C fun l aq C1=>l=.nx/\P aq C1)(h2:∀aq C1,P aq C1->wpS G aq C1 Q):wpS (fM F G) τ C Q:=by
 obtain⟨l,aq,C1,e,rfl,p⟩:=h1;obtain⟨l2,ap,C2,e2,q⟩:=h2 aq C1 p
 exact fJ.mpr ⟨_,_,_,e,l2,ap,C2,e2,q⟩
theorem ifF{F:FS}{τ:TSt}{C:Sto}(h1:wpB ga τ C fun x C1=>x=false/\C1=C)(h2:wpS G τ C Q):wpS (fIf ga F G) τ C Q:=by
 obtain⟨x,C1,e,rfl,rfl⟩:=h1
 exact mE.mpr ⟨_,_,e,h2⟩
theorem ifT{F:FS}{τ:TSt}{C:Sto}(h1:wpB ga τ C fun x C1=>x=true/\C1=C)(h2:wpS F τ C Q):wpS (fIf ga F G) τ C Q:=by
 obtain⟨x,C1,e,rfl,rfl⟩:=h1
 exact mE.mpr ⟨_,_,e,h2⟩
theorem sqA{a:FE}{i:Nat}{t:T}{τ:TSt}{C:Sto}(h1:wpE a τ C fun x C1=>x=t/\C1=C)(h2:wpS G (τ.set i (some t)) C Q):wpS (fM (fY a (gN i)) G) τ C Q:=by
 obtain⟨x,C1,e,rfl,rfl⟩:=h1
 exact fJ.mpr (f6.mpr ⟨_,_,e,gB.mpr (fW.mpr h2)⟩)
theorem aF0{a b c k:Int}(ha:Sm a)(hb:Sm b)(hc:Sm c)(hu:0<=u)(qz:u<=2^100):∃t,sX [.int a,.int b,.int c,.int k,.int u]=some t/\∃w,t=w3 w/\uT w:=by
 apply lA;unfold aEM;have au:0<=a*u:=dN ha.1 hu;have bu:0<=b*u:=dN hb.1 hu;have cu:0<=c*u:=dN hc.1 hu;have au2:a*u<=2147483587*2^100:=aON (d0 ha.2) qz hu (by decide);have bu2:b*u<=2147483587*2^100:=aON (d0 hb.2) qz hu (by decide);have cu2:c*u<=2147483587*2^100:=aON (d0 hc.2) qz hu (by decide);have e5:=iO (x:=a) (m:=5) (by decide);have e97:=iO (x:=b) (m:=97) (by decide);have e6:=iO (x:=b) (m:=6) (by decide);have e3:=iO (x:=b) (m:=3) (by decide);have e50:=iO (x:=b/3) (m:=50) (by decide);have ec5:=iO (x:=c) (m:=5) (by decide);have e89:=iO (x:=a) (m:=89) (by decide);have h0:Nb 0:=⟨by decide,by decide⟩;have h1:Nb (a%5):=⟨e5.1,by lia⟩;have h2:Nb (a*u+b%97):=⟨by lia,by lia⟩;have m1:Nb (b%6):=⟨e6.1,by lia⟩;have m2:Nb (b*u*(if decide (0<b%4)=true then 1 else 0)):=by split<;>exact⟨by lia,by lia⟩
 have m3:Nb (b%3*(b/3%50)):=⟨dN e3.1 e50.1,by
  have:b%3*(b/3%50)<=3*50:=aON (by lia) (by lia) e50.1 (by decide)
  lia⟩
 have p1:Nb (c%5):=⟨ec5.1,by lia⟩;have p2:Nb (c*u+a%89):=⟨by lia,by lia⟩;have hq:=iO (x:=c/64) (m:=4) (by lia);obtain⟨z,ez,p3⟩:∃z:Int,atI [T.int 0,T.int 3,T.int 3,T.int (1+c%40)] (c/64%4)=some (.int z)/\Nb z:=by
  obtain⟨t,ht,et⟩:=wD (xs:=[T.int 0,T.int 3,T.int 3,T.int (1+c%40)]) hq.1 (by simpa using hq.2);have:=iO (x:=c) (m:=40) (by decide);simp only[bE,cB,or_false]at ht;rcases ht with rfl|rfl|rfl|rfl
  ·exact⟨0,et,by decide,by decide⟩
  ·exact⟨3,et,by decide,by decide⟩
  ·exact⟨3,et,by decide,by decide⟩
  ·exact⟨_,et,by lia,by lia⟩
 have fin:∀{l mq p:Int},Nb l->Nb mq->Nb p->∃t,dr 3 [] (T.lst [.int (l+mq),.int l,.int p])=some t/\∃w,t=w3 w/\uT w:=fun {l mq p} h1 h2 h3=>⟨_,iD (by walk_at "c"),(l+mq,l,p),rfl,h1.1,by show l<=l+mq;have:=h2.1;lia,h3.1,by show l+mq<2^240;have:=h1.2;have:=h2.2;lia,by show p<2^240;have:=h3.2;lia⟩
 have k1:jG a u=true:=gH (ha.bt.mono (by decide));have k2:jG b u=true:=gH (hb.bt.mono (by decide));have k3:jG c u=true:=gH (hc.bt.mono (by decide));have k4:jG (b*u) (if decide (0<b%4)=true then 1 else 0)=true:=by split<;>walk_at "a"
 have k5:jG (b%3) (b/3%50)=true:=gH ((Bt.mod (k:=10) (by decide) (by decide)).mono (by decide));walk_at "b"
 refine sqP (fun τ C=>C=[]/\τ=[some (.int a),some (.int b),some (.int c),some (.int k),some (.int u),some (.int (a%5)),none,none]) (by simp_arith[↓fL];decide) ?_
 rintro _ _ ⟨rfl,rfl⟩
 refine sqP (fun τ C=>C=[]/\τ=[some (.int a),some (.int b),some (.int c),some (.int k),some (.int u),some (.int (a%5)),some (.int (b%6)),none]) (by simp_arith[↓fL];decide) ?_
 rintro _ _ ⟨rfl,rfl⟩
 refine sqP (fun τ C=>C=[]/\τ=[some (.int a),some (.int b),some (.int c),some (.int k),some (.int u),some (.int (a%5)),some (.int (b%6)),some (.int (c%5))]) (by simp_arith[↓fL];decide) ?_
 rintro _ _ ⟨rfl,rfl⟩
 refine sqP (fun τ C=>C=[]/\∃l m p,Nb l/\Nb m/\Nb p/\τ=[some (.int a),some (.int b),some (.int c),some (.int k),some (.int u),some (.int l),some (.int m),some (.int p)]) ?_ ?_
 ·by_cases hk:k=1
  ·refine ifT (by simp_arith[↓fL];simp[hk]) ?_
   refine sqP (fun τ C=>C=[]/\τ=[some (.int a),some (.int b),some (.int c),some (.int k),some (.int u),some (.int (a*u+b%97)),some (.int (b%6)),some (.int (c%5))]) (by simp_arith[↓fL];exact⟨k1,by decide⟩) ?_
   rintro _ _ ⟨rfl,rfl⟩
   refine sqP (fun τ C=>C=[]/\τ=[some (.int a),some (.int b),some (.int c),some (.int k),some (.int u),some (.int (a*u+b%97)),some (.int (b*u*(if decide (0<b%4)=true then 1 else 0))),some (.int (c%5))]) (by simp_arith[↓fL];exact⟨k2,by decide,k4⟩) ?_
   rintro _ _ ⟨rfl,rfl⟩;simp_arith[↓fL]
   exact⟨k3,by decide,_,h2,_,m2,_,p2,rfl⟩
  ·exact ifF (by simp_arith[↓fL];simp[hk]) (gY.mpr ⟨rfl,rfl,_,_,_,h1,m1,p1,rfl⟩)
 rintro _ _ ⟨rfl,l,m,p,hl,hm,hp,rfl⟩
 refine sqP (fun τ C=>C=[]/\∃l m p,Nb l/\Nb m/\Nb p/\τ=[some (.int a),some (.int b),some (.int c),some (.int k),some (.int u),some (.int l),some (.int m),some (.int p)]) ?_ ?_
 ·by_cases hk:k=2
  ·refine ifT (by simp_arith[↓fL];simp[hk]) ?_
   refine sqP (fun τ C=>C=[]/\τ=[some (.int a),some (.int b),some (.int c),some (.int k),some (.int u),some (.int l),some (.int (b%3*(b/3%50))),some (.int p)]) (by simp_arith[↓fL];exact⟨by decide,by decide,by decide,k5⟩) ?_
   rintro _ _ ⟨rfl,rfl⟩;simp_arith[↓fL,↓fU ez]
   exact⟨by decide,by decide,by decide,by decide,_,hl,_,m3,_,p3,rfl⟩
  ·exact ifF (by simp_arith[↓fL];simp[hk]) (gY.mpr ⟨rfl,rfl,_,_,_,hl,hm,hp,rfl⟩)
 rintro _ _ ⟨rfl,l,m,p,hl,hm,hp,rfl⟩
 refine sqP (fun τ C=>C=[]/\∃l m p,Nb l/\Nb m/\Nb p/\τ=[some (.int a),some (.int b),some (.int c),some (.int k),some (.int u),some (.int l),some (.int m),some (.int p)]) ?_ ?_
 ·refine mE.mpr ?_
  simp_arith[↓fL];split
  ·refine⟨by decide,?_⟩
   split
   ·exact⟨_,h0,_,hm,_,hp,rfl⟩
   ·exact⟨_,hl,_,hm,_,hp,rfl⟩
  ·exact⟨_,hl,_,hm,_,hp,rfl⟩
 rintro _ _ ⟨rfl,l,m,p,hl,hm,hp,rfl⟩;simp_arith[↓fL]
 exact⟨by decide,fin hl hm hp⟩
def LotG(M:Nat)(t:T):Prop:=∃(ws:List (Int×Int×Int))(ps:List (Int×Int)),t=.tup [.lst (ws.map w3),.lst (ps.map pT)]/\ws.length<=M/\ps.length<=20/\(∀w∈ws,uT w)/\∃rs,Rk ws.length rs/\∀p∈ps,Al rs p
theorem aF1{m:Nat}(ol:0<u)(hu:u<=10^20)(hm:m<=5)(hM:m<=M):∃t,pM [.lst (ns.map T.int),.int m,.int u]=some t/\LotG M t:=by
 apply lA;unfold yJ;walk_at "b";obtain⟨base,iz,gn,oz⟩:∃base:Int,(if m8 ns 1/576%2=0 then(1:Int)else u*10^eO 9)=base/\0<base/\base<2^200:=by
  refine⟨_,rfl,?_⟩
  split
  ·decide
  ·rw[show(10:Int)^eO 9=1000000000 from rfl];lia
 have pick:∀k:Int,0<k->k<10->∃d:Int,atI [T.int k,T.int base] (if decide (1<base)=true then 1 else 0)=some (.int d)/\0<d/\d<2^200:=by
  intro k h1 h2;split
  ·exact⟨base,rfl,gn,oz⟩
  ·exact⟨k,rfl,h1,by lia⟩
 obtain⟨d5,e5,h5,h5'⟩:=pick 5 (by decide) (by decide);obtain⟨d6,e6,h6,h6'⟩:=pick 6 (by decide) (by decide);have k9:jG u (10^eO 9)=true:=gR (Bt.of_lt (by decide) (by decide))
 refine sqA (t:=.int base) (by
  simp_arith[↓fL,↓nU,aAN,iz]
  exact⟨by decide,k9,by decide,by decide,by decide⟩) ?_
 dsimp only[b4]
 refine fJ.mpr (f6.mpr (jN.mpr (hV.mpr (fH.mpr ⟨by decide,gB.mpr (fW.mpr ?_)⟩))))
 dsimp only[b4,aZ,aP]
 refine fJ.mpr (nP.mpr (e9.mpr ⟨_,rfl,_,rfl,by lia,mO (fun i τ C=>∃a b d e:Option T,τ=[some (.lst (ns.map T.int)),some (.int m),some (.int u),some (.int base),some (.cell 0),a,b,d,e,none,none,none]/\∃ws:List (Int×Int×Int),C=[(.l,ws.map w3)]/\ws.length=i/\∀w∈ws,uT w) ⟨_,_,_,_,rfl,[],rfl,rfl,by simp⟩ ?_ ?_⟩))
 ·rintro i τ C hi ⟨_,_,_,_,rfl,ws,rfl,fm,dg⟩;have h3:0<=3+(0+(i:Int)):=by lia
  unfold sK
  refine gB.mpr ?_
  dsimp only[b4]
  refine sqA (t:=.int (m8 ns (3+(0+(i:Int))))) (by simp_arith[↓fL,↓nU]) ?_
  dsimp only[b4];generalize m8 ns (3+(0+(i:Int)))=z;have a1:=iO (x:=z) h5;have a2:=iO (x:=z/d5) h6;have a3:=iO (x:=z/d5/d6) h5
  refine sqA (t:=.int (z%d5)) (by simp_arith[↓fL,↓fU e5];walk_at "a") ?_
  dsimp only[b4];generalize z%d5=z1 at a1
  refine sqA (t:=.int (z/d5)) (by simp_arith[↓fL,↓fU e5];walk_at "a") ?_
  dsimp only[b4]
  refine sqA (t:=.int (z/d5%d6)) (by simp_arith[↓fL,↓fU e6];walk_at "a") ?_
  dsimp only[b4];generalize z/d5%d6=z2 at a2
  refine sqA (t:=.int (z/d5/d6)) (by simp_arith[↓fL,↓fU e6];walk_at "a") ?_
  dsimp only[b4];simp_arith[↓fL,↓fU e5];generalize z/d5/d6%d5=z3 at a3
  refine⟨by decide,by walk_at "a",by decide,by walk_at "a",_,_,_,_,rfl,ws++[(z1+z2,z1,z3)],by rw[aJD],by simp[fm],fun w hw=>?_⟩
  rcases bL.mp hw with hw|hw
  ·exact dg w hw
  ·rw[bR.mp hw]
   exact⟨a1.1,by show z1<=z1+z2;lia,a3.1,by show z1+z2<2^240;lia,by show z3<2^240;lia⟩
 rintro τ C ⟨_,_,_,_,rfl,ws,rfl,fm,dg⟩;simp only[cN]at fm
 refine fW.mpr (sqA (t:=.int (m8 ns 2)) (by simp_arith[↓fL,↓nU]) ?_)
 dsimp only[b4]
 refine fJ.mpr (f6.mpr (jN.mpr (hV.mpr (fH.mpr ⟨by decide,gB.mpr (fW.mpr ?_)⟩))))
 dsimp only[b4,aW,aZ,aP,aN]
 refine fJ.mpr (nP.mpr (e9.mpr ⟨_,rfl,_,rfl,by lia,mO (fun i τ C=>∃(a b d:Option T)(z:Int),τ=[some (.lst (ns.map T.int)),some (.int m),some (.int u),some (.int base),some (.cell 0),a,some (.int z),b,d,some (.cell 1),none,none]/\∃rs:List Int,C=[(.l,ws.map w3),(.l,rs.map T.int)]/\Rk i rs) ⟨_,_,_,_,rfl,[],rfl,⟨rfl,.nil,by simp⟩⟩ ?_ ?_⟩))
 ·rintro i τ C hi ⟨_,_,_,z,rfl,rs,rfl,hr⟩;have ai:=hr.len;have b2:=iO (x:=z) (m:=0+(i:Int)+1) (by lia);unfold sT;simp_arith[↓fL];generalize z%(0+(i:Int)+1)=q at b2
  refine⟨by walk_at "a",⟨by walk_at "a",by lia,by lia⟩,kX ⟨by lia,by lia⟩,_,_,_,_,rfl,insAt rs q (i:Int),by rw[eG,<-uD],hr.ins⟩
 rintro τ C ⟨_,_,_,z,rfl,rs,rfl,hr⟩;have cm:Rk m rs:=by simpa using hr
 have ai:=cm.len
 refine fW.mpr (fJ.mpr (f6.mpr (jN.mpr (hV.mpr (fH.mpr ⟨by decide,gB.mpr (fW.mpr ?_)⟩)))))
 dsimp only[b4,aW,aZ,aP,aN]
 refine fJ.mpr (nP.mpr (e9.mpr ⟨_,rfl,_,rfl,by lia,mO (fun i τ C=>∃(a b d e:Option T)(z:Int),τ=[some (.lst (ns.map T.int)),some (.int m),some (.int u),some (.int base),some (.cell 0),a,some (.int z),b,d,some (.cell 1),some (.cell 2),e]/\∃ps:List (Int×Int),C=[(.l,ws.map w3),(.l,rs.map T.int),(.l,ps.map pT)]/\ps.length<=i*4/\∀p∈ps,Al rs p) ⟨_,_,_,_,_,rfl,[],rfl,by simp,by simp⟩ ?_ ?_⟩))
 ·rintro k τ C hk ⟨_,_,_,_,z,rfl,ps,rfl,lq,da⟩;have hk:k<m:=by lia
  unfold tP;simp_arith[↓fL];rw[yX]
  refine j0 (fun j τ C=>∃(b d e:Option T)(z:Int),τ=[some (.lst (ns.map T.int)),some (.int m),some (.int u),some (.int base),some (.cell 0),some (.int (0+(k:Int))),some (.int z),b,d,some (.cell 1),some (.cell 2),e]/\∃ps:List (Int×Int),C=[(.l,ws.map w3),(.l,rs.map T.int),(.l,ps.map pT)]/\ps.length<=k*4+j/\∀p∈ps,Al rs p) ⟨_,_,_,_,rfl,ps,rfl,lq,da⟩ ?_ ?_
  ·rintro j x τ C hj ⟨_,_,_,z,rfl,ps,rfl,lq,da⟩;rw[aEE (by lia),show(0+(k:Int)).toNat=k by lia]at hj;obtain⟨uz,tj⟩:=aR.mp hj;have hjk:j<k:=by simp at uz;lia
   rw[List.getElem_take]at tj;have e1:=u5 (ns:=rs) (i:=0+(k:Int)) (by lia) (by lia);unfold tH;simp_arith[↓fL,↓fU e1]
   refine⟨by walk_at "a",?_⟩
   split
   ·refine⟨by walk_at "a",by walk_at "a",by decide,trivial,_,_,_,_,rfl,_,by rw[aIN],by simp;lia,fun p hp=>?_⟩
    rcases bL.mp hp with hp|hp
    ·exact da p hp
    ·rw[bR.mp hp]
     exact⟨j,k,hjk,by rw[<-tj];exact bA (by lia),by rw[bA (by lia)];congr 2;lia⟩
   ·exact⟨by decide,trivial,_,_,_,_,rfl,ps,rfl,by lia,da⟩
  ·rintro τ C ⟨_,_,_,z,rfl,ps,rfl,lq,da⟩;have:(yL rs none (some (0+(k:Int)))).length<=4:=by rw[aEE (by lia),d8];lia
   exact⟨_,_,_,_,_,rfl,ps,rfl,by lia,da⟩
 rintro τ C ⟨_,_,_,_,z,rfl,ps,rfl,lq,da⟩;simp only[cN]at lq;simp_arith[↓fL]
 refine⟨by walk_at "a",_,aLX (us:=[.lst (ws.map w3),.lst (ps.map pT)]) (iI (v5 rfl r9) (iI (aHs rfl) rfl)),ws,ps,rfl,by lia,by lia,dg,rs,by rw[fm];exact cm,da⟩
theorem pick3{x y:Int}:∃t∈[x,y,z],atI [T.int x,T.int y,T.int z] (i%3)=some (.int t):=by
 have hq:=iO (x:=i) (m:=3) (by decide);obtain⟨t,ht,et⟩:=wD (xs:=[x,y,z]) hq.1 hq.2
 exact⟨t,ht,by rw[show[T.int x,T.int y,T.int z]=[x,y,z].map T.int from rfl,wC,et];rfl⟩
theorem pick4{x y:Int}:∃t∈[x,y,z,u],atI [T.int x,T.int y,T.int z,T.int u] (i%4)=some (.int t):=by
 have hq:=iO (x:=i) (m:=4) (by decide);obtain⟨t,ht,et⟩:=wD (xs:=[x,y,z,u]) hq.1 hq.2
 exact⟨t,ht,by rw[show[T.int x,T.int y,T.int z,T.int u]=[x,y,z,u].map T.int from rfl,wC,et];rfl⟩
theorem aKl(hl:ns.length<=63)(h4:4<=M)(h8:M<=8)(ol:0<u)(hu:u<=10^20):∃t,aAD [.lst (ns.map T.int),.int M,.int u]=some t/\LotG M t:=by
 obtain⟨_,e1,xs,rfl,jc,fj⟩:=aCM hl;have w1:∀{C Q},wpO (kE 1 n6 [.lst (ns.map T.int)] C) Q↔Q (.lst (xs.map T.int)) C:=gC e1 rfl (by walk_at "c");have pz:∀i:Int,0<=i->i<40->∃x,atI (xs.map T.int) i=some (.int x)/\Sm x:=fun i h1 h2=>⟨_,u5 h1 (by lia),fj _ (dB _)⟩
 apply lA;unfold aK0;walk_at "b"
 refine sqA (t:=.lst (xs.map T.int)) (by simp_arith[↓fL,↓w1]) ?_
 dsimp only[b4]
 refine sqA (t:=.int (m8 ns 0)) (by simp_arith[↓fL,↓nU]) ?_
 dsimp only[b4];generalize m8 ns 0=first
 have rq:=iO (x:=first/4) (m:=min 6 ((M:Int)+1)) (by lia)
 refine sqA (t:=.int (first/4%min 6 ((M:Int)+1))) (by simp_arith[↓fL];exact⟨by decide,by walk_at "a"⟩) ?_
 dsimp only[b4];generalize first/4%min 6 ((M:Int)+1)=few at rq
 obtain⟨z,hz,ez⟩:=pick4 (x:=0) (y:=0) (z:=1) (u:=2) (i:=first/4);have q2:=iO (x:=first/4) (m:=3) (by decide);obtain⟨mi,yd,em⟩:=pick4 (x:=few) (y:=(M:Int) - z) (z:=few) (u:=min (M:Int) (3+first/4%3)) (i:=first);simp only[bE,cB,or_false]at hz yd;have wz:0<=z/\z<=2:=by rcases hz with rfl|rfl|rfl|rfl<;>decide
 have hf6:few<(M:Int)+1:=aOL rq.2 (Int.min_le_right _ _);have hmb:0<=mi/\mi<=M:=by
  rcases yd with h|h|h|h
  ·rw[h];exact⟨rq.1,by lia⟩
  ·rw[h];exact⟨by lia,by lia⟩
  ·rw[h];exact⟨rq.1,by lia⟩
  ·rw[h];exact⟨Int.le_min.mpr ⟨by lia,by lia⟩,aPI _ _⟩
 clear hz yd wz hf6 rq q2;obtain⟨m,rfl,hm⟩:∃m:Nat,mi=m/\m<=M:=⟨mi.toNat,by lia,by lia⟩;clear hmb
 refine sqA (t:=.int m) (by simp_arith[↓fL,↓fU ez,↓fU em];decide) ?_
 dsimp only[b4]
 refine sqA (t:=.int (m8 ns 1)) (by simp_arith[↓fL,↓nU]) ?_
 dsimp only[b4];generalize m8 ns 1=c
 refine fJ.mpr ?_
 by_cases hc:c/288%2=1
 ·refine ifT (by simp_arith[↓fL,hc];decide) ?_
  obtain⟨k5,ek5,hk3,tf⟩:∃k:Int,atI [T.int 5,T.int 3] (if decide ((M:Int)<5)=true then 1 else 0)=some (.int k)/\3<=k/\k<=5:=by
   split
   ·exact⟨3,rfl,by decide,by decide⟩
   ·exact⟨5,rfl,by decide,by decide⟩
  obtain⟨j,hj,hj5,uy⟩:∃j:Nat,min (m:Int) k5=j/\j<=5/\j<=M:=⟨(min (m:Int) k5).toNat,by lia,by lia,by lia⟩;obtain⟨t,et,ws,ps,rfl,ht⟩:=aF1 (ns:=ns) ol hu hj5 uy;simp_arith[↓fL,↓fU ek5,hj];rw[gC (n:=3) et rfl (by walk_at "c")]
  exact⟨by decide,_,iD (by rw[lF,fQ,fQ,gT,gK,gK,r9,lU];rfl),ws,ps,rfl,ht⟩
 refine ifF (by simp_arith[↓fL,hc];decide) (gY.mpr (fW.mpr ?_))
 have hex:∀i:Nat,∃w:Int×Int×Int,i<m->(∃x y z:Int,atI (xs.map T.int) (0+(i:Int))=some (.int x)/\atI (xs.map T.int) (8+(0+(i:Int)))=some (.int y)/\atI (xs.map T.int) (16+(0+(i:Int)))=some (.int z)/\sX [.int x,.int y,.int z,.int (c%4),.int u]=some (w3 w))/\uT w:=by
  intro i;by_cases hi:i<m
  ·obtain⟨x,ex,sx⟩:=pz (0+(i:Int)) (by lia) (by lia);obtain⟨y,ey,sy⟩:=pz (8+(0+(i:Int))) (by lia) (by lia);obtain⟨z,ez,sz⟩:=pz (16+(0+(i:Int))) (by lia) (by lia);obtain⟨_,ew,w,rfl,hw⟩:=aF0 (k:=c%4) (u:=u) sx sy sz (by lia) (by lia)
   exact⟨w,fun _=>⟨⟨x,y,z,ex,ey,ez,ew⟩,hw⟩⟩
  ·exact⟨(0,0,0),fun h=>absurd h hi⟩
 obtain⟨f,hf⟩:=aPP hex;obtain⟨x39,zc,_⟩:=pz 39 (by decide) (by decide);obtain⟨_,en,rs,rfl,cm⟩:=aFH (c:=x39) (m:=m) (by lia);have ai:=cm.len
 refine sqA (t:=.lst (((bK m).map f).map w3)) (gA.mpr (rX.mpr (e9.mpr ⟨_,rfl,_,rfl,by lia,?_⟩))) ?_
 ·rw[xM,cN]
  refine iH (fun i=>w3 (f i)) (fun i hi=>?_) ⟨by rw[b6];rfl,rfl⟩
  have hi:i<m:=by simpa using hi
  obtain⟨⟨x,y,z,ex,ey,ez,ew⟩,hw⟩:=hf i hi;simp only[scT,aX,aM,bC,aZ,aW,aY,cM,cU,dS];simp_arith[↓fL,↓fU ex,↓fU ey,↓fU ez];rw[gC (n:=5) ew rfl (by walk_at "c")]
  exact⟨by decide,rfl,rfl⟩
 dsimp only[b4];have dg:∀w∈(bK m).map f,uT w:=fun w hw=>by
  obtain⟨i,hi,rfl⟩:=bM.mp hw
  exact(hf i (cG.mp hi)).2
 have im:((bK m).map f).length=m:=by simp
 generalize (bK m).map f=ws at dg im
 refine sqA (t:=.lst (rs.map T.int)) (by simp_arith[↓fL,↓fU zc];rw[gC (n:=2) en rfl (by walk_at "c")];exact⟨rfl,rfl⟩) ?_
 dsimp only[b4]
 refine fJ.mpr (f6.mpr (jN.mpr (hV.mpr (fH.mpr ⟨by decide,gB.mpr (fW.mpr ?_)⟩))))
 dsimp only[b4,aZ,aP];have q4:=iO (x:=c/4) (m:=4) (by decide)
 refine fJ.mpr ?_
 simp_arith[↓fL];generalize c/4%4=c4 at q4
 refine⟨by decide,by decide,by lia,mO (fun i τ C=>∃(a b d e:Option T),τ=[some (.lst (ns.map T.int)),some (.int M),some (.int u),some (.lst (xs.map T.int)),some (.int first),some (.int few),some (.int m),some (.int c),some (.lst (ws.map w3)),some (.lst (rs.map T.int)),some (.cell 0),a,b,d,e]/\∃ps:List (Int×Int),C=[(.l,ps.map pT)]/\ps.length<=i/\∀p∈ps,Al rs p) ⟨_,_,_,_,rfl,[],rfl,by simp,by simp⟩ ?_ ?_⟩
 ·rintro i τ C hi ⟨_,_,_,_,rfl,ps,rfl,lq,da⟩;obtain⟨x,ex,sx⟩:=pz (24+(i:Int)) (by lia) (by lia);unfold aD8
  refine gB.mpr ?_
  dsimp only[b4];by_cases h1:(1:Int)<m
  ·refine ifT (by simp_arith[↓fL];exact kX h1) ?_
   have b1:=iO (x:=x) (m:=(m:Int) - 1) (by lia)
   refine sqA (t:=.int (1+x%((m:Int) - 1))) (by simp_arith[↓fL,↓fU ex];walk_at "a") ?_
   dsimp only[b4];generalize x%((m:Int) - 1)=y at b1;obtain⟨e3,yo,e3'⟩:=pick3 (x:=1) (y:=2) (z:=8) (i:=c/16);simp only[bE,cB,or_false]at yo;have yf:0<min (1+y) e3:=Int.lt_min.mpr ⟨by lia,by rcases yo with rfl|rfl|rfl<;>decide⟩;have b2:=iO (x:=x/16) yf
   refine sqA (t:=.int (x/16%min (1+y) e3)) (by simp_arith[↓fL,↓fU ex,↓fU e3'];exact⟨by decide,by decide,by decide,by decide,kX yf⟩) ?_
   dsimp only[b4];generalize x/16%min (1+y) e3=bk at b2;have oz:=b2.1;have uc:bk<1+y:=aOL b2.2 (aPI _ _);clear b2 yf yo e3';obtain⟨ia,ou,h0,bi⟩:∃ia:Int,(if c/48%2=0 then 1+y - 1 - bk else bk)=ia/\0<=ia/\ia<1+y:=⟨_,rfl,by split<;>lia,by split<;>lia⟩
   refine sqA (t:=.int ia) (by simp_arith[↓fL,aAN,ou];decide) ?_
   dsimp only[b4];have b3:=iO (x:=x/256) (m:=(ps.length:Int)+1) (by lia);simp_arith[↓fL,↓fU ex,aS,↓fU (u5 (ns:=rs) h0 (by lia)),↓fU (u5 (ns:=rs) (i:=1+y) (by lia) (by lia))];generalize x/256%((ps.length:Int)+1)=at9 at b3
   refine⟨by decide,by walk_at "a",by decide,⟨by walk_at "a",by lia,by lia⟩,_,_,_,_,rfl,insAt ps at9 (_,_),by rw[<-uD];rfl,by rw[xF];lia,fun p hp=>?_⟩
   rcases bE.mp (u7.mem_iff.mp hp)with hp|hp
   ·rw[hp]
    exact⟨ia.toNat,(1+y).toNat,by lia,bA (by lia),bA (by lia)⟩
   ·exact da p hp
  ·exact ifF (by simp_arith[↓fL];simpa using h1) (gY.mpr ⟨trivial,_,_,_,_,rfl,ps,rfl,by lia,da⟩)
 ·rintro τ C ⟨_,_,_,_,rfl,ps,rfl,lq,da⟩;simp_arith[↓fL,yX];have va:(yL ps (some (c/96%3)) none).length<=20:=cA aGc (by lia)
  refine⟨by decide,by decide,by decide,_,iD (by rw[lF,fQ,fQ,gT,gK,gK,r9,lU];rfl),ws,_,rfl,by lia,va,dg,rs,by rw[im];exact cm,fun p hp=>da p (aGU hp)⟩
end Lib
namespace Lib
open PySem L2 TL NF
variable{ws:List (Int×Int×Int)}{ps:List (Int×Int)}{nd:List (List Int)}{bonus:Int}
theorem aD9{α:Type}{g:α->Int}{d:α}{ws:List α}:∀{k:Nat},k<=ws.length->sm k (fun i=>g ((ws[i]?).getD d))=((ws.take k).map g).sum
 |0,_=>by simp[sm]
 |k+1,hk=>by
  have ih:=aD9 (g:=g) (d:=d) (ws:=ws) (k:=k) (by lia);show sm k _+g ((ws[k]?).getD d)=_;rw[ih,aOs,bA (by lia),aOn,bQ,aOD];simp
theorem aJo{α:Type}{g:α->Int}{d:α}{ws:List α}:sm ws.length (fun i=>g ((ws[i]?).getD d))=(ws.map g).sum:=by rw[aD9 (bD _),dU]
theorem zD{n:Nat}{x:Int}:sm n (fun _=>x)=n*x:=by
 induction n with
 |zero=>simp[sm]
 |succ n ih=>show sm n _+x=_;rw[ih,aPD,eX,aPG]
theorem nZ{P:Int×Int×Int->Prop}(h:∀w∈ws,P w){i:Nat}(hi:i<ws.length):P ((ws[i]?).getD (0,0,0)):=by
 rw[bA hi]
 exact h _ (dB hi)
theorem xL{m:Nat}(hw:InW m ps)(h:Nd ps m nd){e:Nat×Nat}(he:e∈iA 0 nd):((e.1:Int),(e.2:Int))∈ps/\e.1<m/\e.2<m:=by
 obtain⟨b,l,a,h1,h2,rfl⟩:=aGh he;have hp:=((h.2 b l h1).2 a).mp h2;have:=hw _ hp
 refine⟨?_,by show a.toNat<m;have:=this.1;dsimp only at this;lia,by show 0+b<m;have:=(aR.mp h1).1;rw[h.1]at this;lia⟩
 show((a.toNat:Int),((0+b:Nat):Int))∈ps;rw[aOh,b5 this.1.1];exact hp
theorem aBK{m:Nat}(hw:InW m ps)(h:Nd ps m nd){p:Int×Int}(hp:p∈ps):(p.1.toNat,p.2.toNat)∈iA 0 nd:=by
 have:=hw p hp;have hb:p.2.toNat<nd.length:=by rw[h.1];lia
 have e:=bA hb
 refine aIZ e (((h.2 _ _ e).2 p.1).mpr ?_)
 rw[b5 this.2.1];exact hp
theorem aKk{m:Nat}{o:List Int}(t:Topo ps m o):∃r:Nat->Int,(∀i,i<m->0<=r i/\r i<m)/\∀a b:Nat,((a:Int),(b:Int))∈ps->b<m->r a<r b:=by
 refine⟨fun i=>(o.idxOf (i:Int):Int),fun i hi=>⟨Int.natCast_nonneg _,?_⟩,fun a b mm hb=>?_⟩
 ·have:=aOH (t.all i hi);rw[t.len]at this;show((o.idxOf (i:Int):Nat):Int)<m
  lia
 ·have hbm:=aOH (t.all b hb);have mh:o[o.idxOf (b:Int)]?=some (b:Int):=by
   rw[bA hbm,List.getElem_idxOf]
  have ha:=t.top _ _ mh _ mm;obtain⟨i,hi⟩:=bT.mp ha;have yk:=(aR.mp hi).1;rw[d8]at yk;rw[List.getElem?_take,if_pos (by lia)]at hi;obtain⟨h1,h2⟩:=aR.mp hi;have:o.idxOf (a:Int)=i:=by rw[<-h2];exact t.nd.idxOf_getElem i h1
  show((o.idxOf (a:Int):Nat):Int)<((o.idxOf (b:Int):Nat):Int)
  lia
structure Gvn(ws:List (Int×Int×Int))(ps:List (Int×Int))(nd:List (List Int)):Prop where
 l8:ws.length<=8
 pl:ps.length<=1000
 inw:InW ws.length ps
 acy:Acy ps
 ndd:Nd ps ws.length nd
 need:gQ [.int ws.length,.lst (ps.map pT)]=some (.lst (nd.map iT))
 ok:∀w∈ws,p8 w
theorem Gvn.ex(h1:ws.length<=8)(h2:ps.length<=1000)(h3:InW ws.length ps)(h4:Acy ps)(h5:∀w∈ws,p8 w):∃nd,Gvn ws ps nd:=by
 obtain⟨_,e,nd,rfl,gy⟩:=uN (by lia) h2 h3
 exact⟨nd,h1,h2,h3,h4,gy,e,h5⟩
theorem Gvn.rank(G:Gvn ws ps nd):∃r:Nat->Int,(∀i,i<ws.length->0<=r i/\r i<ws.length)/\∀e∈iA 0 nd,r e.1<r e.2:=by
 obtain⟨_,_,o,_,ho,lr⟩:=y3 G.l8 G.pl G.inw G.acy;obtain⟨r,h1,h2⟩:=aKk (lr.topo ho)
 exact⟨r,h1,fun e he=>h2 _ _ (xL G.inw G.ndd he).1 (xL G.inw G.ndd he).2.2⟩
theorem Gvn.price:sm ws.length (fP ws).p=plenty ws bonus - bonus - 1:=by
 show sm ws.length (fun i=>((ws[i]?).getD (0,0,0)).2.2)=_;rw[aJo (g:=fun w:Int×Int×Int=>w.2.2)];unfold plenty;lia
theorem Gvn.sP(G:Gvn ws ps nd):sm ws.length (fP ws).p<=8*2^252:=by
 have h1:sm ws.length (fP ws).p<=sm ws.length fun _=>2^252:=tT fun i hi=>d0 (nZ (P:=p8) G.ok hi).2.2.2.2
 rw[zD]at h1;have h3:(ws.length:Int)*2^252<=8*2^252:=b9 (by have:=G.l8;lia) (by decide)
 lia
theorem Gvn.wel(G:Gvn ws ps nd)(hb:0<=bonus):Wel (fP ws) ws.length (iA 0 nd) (plenty ws bonus):=by
 refine⟨G.l8,?_,fun e he=>(xL G.inw G.ndd he).2,G.rank,fun i hi=>(nZ G.ok hi).1,?_,?_⟩
 ·have:=aCw (nd:=nd) (z:=1000) (fun l hl=>?_) (s:=0)
  ·rw[G.ndd.1]at this;have h2:ws.length*1000<=8*1000:=aPi _ G.l8;have h3:=G.l8;show 4*ws.length+(iA 0 nd).length<40000
   lia
  ·obtain⟨b,hb⟩:=bT.mp hl
   exact cA (G.ndd.2 b l hb).1 G.pl
 ·rw[Gvn.price (bonus:=bonus)];lia
 ·exact dA G.sP (by decide)
theorem Gvn.tim(G:Gvn ws ps nd){bs:List Int}(hE:Early ps (ws.map (·.2.1)) bs):Tim ws.length (iA 0 nd) (lI 0 (dones bs (ws.map (·.2.1)))) (fun i=>at0 bs i) (fP ws).l:=by
 have hh:∀i:Nat,i<ws.length->at0 (ws.map (·.2.1)) i=(fP ws).l i:=fun i hi=>by
  rw[mP (by simpa using hi)];show _=((ws[i]?).getD (0,0,0)).2.1;rw[bA hi];simp
 refine⟨fun i _=>hE.pos _,fun i hi=>?_,fun x hx=>?_⟩
 ·rw[<-hh i hi]
  exact vT ((nM hE.len).mpr ⟨i,by simpa using hi,rfl⟩)
 ·obtain⟨h1,h2,h3⟩:=xL G.inw G.ndd hx;rw[<-hh x.1 h2]
  exact hE.ge _ h1
end Lib
namespace Lib
open PySem L2 TL NF
variable{ws:List (Int×Int×Int)}{ps:List (Int×Int)}{nd:List (List Int)}{hs bs:List Int}{w:Wk}{es:List (Nat×Nat)}{P:Int}
theorem Gvn.timH(G:Gvn ws ps nd)(hE:Early ps hs bs)(hl:hs.length=ws.length):Tim ws.length (iA 0 nd) (lI 0 (dones bs hs)) (fun i=>at0 bs i) (fun i=>at0 hs i):=by
 refine⟨fun i _=>hE.pos _,fun i hi=>?_,fun x hx=>?_⟩
 ·exact vT ((nM hE.len).mpr ⟨i,by rw[hl];exact hi,rfl⟩)
 ·exact hE.ge _ (xL G.inw G.ndd hx).1
theorem Gvn.fst(G:Gvn ws ps nd)(hE:Early ps hs bs)(hl:hs.length=ws.length){B:Nat->Int}{e:Int}(he:0<=e)(b0:∀i,i<ws.length->0<=B i)(hB:∀p∈ps,B p.1.toNat+at0 hs p.1<=B p.2.toNat)(hM:∀i:Nat,i<ws.length->B i+at0 hs i<=e):lI 0 (dones bs hs)<=e:=by
 obtain⟨r,h1,h2⟩:=G.rank;have key:∀(k:Nat)(i:Nat),i<ws.length->r i<k->at0 bs i<=B i:=fun k=>by
  induction k with
  |zero=>intro i hi hk;have:=h1 i hi;lia
  |succ k ih=>
   intro i hi hk;have:=b0 i hi;rcases hE.att i (by rw[hl];exact hi)with h| ⟨a,ha,h⟩
   ·lia
   ·have h3:=h2 _ (aBK G.inw G.ndd ha);have ou:=(G.inw _ ha).1;have h4:=hB _ ha;dsimp only at ou h3 h4;rw[cN]at h3 h4;have h5:=ih a.toNat (by lia) (by lia);rw[b5 ou.1]at h5
    lia
 rcases qV (d:=0) (ns:=dones bs hs)with⟨_,h⟩|h
 ·rw[h];exact he
 ·obtain⟨w,hw,e⟩:=(nM hE.len).mp h;rw[hl]at hw;have h3:=key (r w+1).toNat w hw (by have:=h1 w hw;lia);have h4:=hM w hw
  lia
theorem Gvn.early_le(G:Gvn ws ps nd)(hE:Early ps hs bs)(hl:hs.length=ws.length){M:Int}(hM:0<=M)(hH:∀i:Nat,i<ws.length->0<=at0 hs i/\at0 hs i<=M):lI 0 (dones bs hs)<=8*M:=by
 obtain⟨r,h1,h2⟩:=G.rank;have hn:=G.l8
 refine G.fst hE hl (B:=fun i=>r i*M) (by lia) (fun i hi=>dN (h1 i hi).1 hM) (fun p hp=>?_) fun i hi=>?_
 ·have h3:=h2 _ (aBK G.inw G.ndd hp);have ou:=(G.inw _ hp).1;have h4:=hH p.1.toNat (by lia);rw[b5 ou.1]at h4;have h5:=b9 (show r p.1.toNat+1<=r p.2.toNat from h3) hM;rw[eX,aPG]at h5
  lia
 ·have h3:=h1 i hi;have h4:=hH i hi;have h5:=b9 (show r i+1<=8 by lia) hM;rw[eX,aPG]at h5
  lia
theorem wB{i:Nat}(hi:i<ws.length):at0 (ws.map kA) i=if(fP ws).p i=0 then(fP ws).l i else(fP ws).u i:=by
 rw[mP (by simpa using hi)];show _=if((ws[i]?).getD (0,0,0)).2.2=0 then((ws[i]?).getD (0,0,0)).2.1 else((ws[i]?).getD (0,0,0)).1
 rw[bA hi,aOi];rfl
theorem Gvn.free(G:Gvn ws ps nd)(hE:Early ps (ws.map kA) bs){bonus:Int}(hb:0<=bonus):
 lI 0 (dones bs (ws.map kA))<=8*2^252/\∃p0,Good (fP ws) ws.length (iA 0 nd) (plenty ws bonus) (fun _=>0) 0 p0/\sm (2*ws.length+2) p0<10^198/\p0 1=lI 0 (dones bs (ws.map kA)):=by
 have T:=G.timH hE (by simp);have W:=G.wel hb;have hn:=G.l8;have wo:∀i,i<ws.length->p8 ((ws[i]?).getD (0,0,0)):=fun i hi=>nZ (P:=p8) G.ok hi
 have lu:∀i,i<ws.length->0<=(fP ws).l i/\(fP ws).l i<=(fP ws).u i/\(fP ws).u i<2^252/\0<=(fP ws).p i:=fun i hi=>⟨(wo i hi).1,(wo i hi).2.1,(wo i hi).2.2.2.1,(wo i hi).2.2.1⟩
 have hh:∀i:Nat,i<ws.length->0<=at0 (ws.map kA) i/\at0 (ws.map kA) i<=2^252/\(fP ws).l i<=at0 (ws.map kA) i:=fun i hi=>by
  have:=lu i hi;rw[wB hi];split<;>lia
 have hM:=G.early_le hE (by simp) (M:=2^252) (by decide) fun i hi=>⟨(hh i hi).1,(hh i hi).2.1⟩
 have hz:0<=lI 0 (dones bs (ws.map kA)):=(hE.mxL fun x hx=>by
  obtain⟨w,hw,rfl⟩:=bM.mp hx;have h:=G.ok w hw;unfold kA;split
  ·exact h.1
  ·exact dZ h.1 h.2.1).1
 refine⟨hM,pf (lI 0 (dones bs (ws.map kA))) (fun i=>at0 bs i) (fun i=>at0 (ws.map kA) i),⟨fun p=>?_,fun k hk=>?_,fun k hk=>⟨fun hc=>?_,fun z=>absurd z (Int.lt_irrefl _)⟩,rfl,fun v hv=>?_⟩,?_,rfl⟩
 ·rw[dI];exact mR fun k _=>dI _
 ·refine⟨bP _,?_⟩
  have hP:0<=plenty ws bonus:=by
   have:=W.pP;have h2:0<=sm ws.length (fP ws).p:=mK fun i hi=>(lu i hi).2.2.2
   lia
  cases pipe hk with
  |src i hi e t h d c=>rw[c];exact hP
  |usu i hi e t h d c=>rw[c];exact(lu i hi).2.2.2
  |lea i hi e t h d c=>rw[c];exact hP
  |snk i hi e t h d c=>rw[c];exact hP
  |nee x y j hj e t h d c=>rw[c];exact hP
 ·cases hU:isU ws.length k with
  |false=>exact aA0 T (fun i hi=>(hh i hi).2.2) k hk hU
  |true=>
   cases pipe hk with
   |src i hi e=>simp[isU]at hU;lia
   |usu i hi e t h d c=>
    rw[t,h,d,aF2,aFf,wB hi,if_neg (by rw[c]at hc;lia)];lia
   |lea i hi e=>simp[isU]at hU;lia
   |snk i hi e=>simp[isU]at hU;lia
   |nee x y j hj e=>simp[isU]at hU;lia
 ·by_cases v0:v=0
  ·rw[v0];exact bP _
  ·by_cases v1:v=1
   ·rw[v1];exact hz
   ·by_cases ve:v%2=0
    ·obtain⟨i,rfl⟩:∃i,v=2*i+2:=⟨v/2 - 1,by lia⟩;rw[aF2];exact T.b0 i (by lia)
    ·obtain⟨i,rfl⟩:∃i,v=2*i+3:=⟨v/2 - 1,by lia⟩;rw[aFf];have:=T.b0 i (by lia);have:=(hh i (by lia)).1;lia
 ·have h5:sm (2*ws.length+2) (pf (lI 0 (dones bs (ws.map kA))) (fun i=>at0 bs i) (fun i=>at0 (ws.map kA) i))<=sm (2*ws.length+2) fun _=>8*2^252:=tT fun v hv=>by
   unfold pf;split
   ·decide
   ·split
    ·exact hM
    ·have hi:v/2 - 1<ws.length:=by lia
     have h8:=T.e _ hi;have h9:=hh _ hi;dsimp only at h8|-;split<;>lia
  rw[zD]at h5;have h6:((2*ws.length+2:Nat):Int)*(8*2^252)<=18*(8*2^252):=b9 (by lia) (by decide);have h7:(18*(8*2^252):Int)<10^198:=by decide
  lia
theorem Gvn.zge(G:Gvn ws ps nd)(hE:Early ps (ws.map (·.2.1)) bs):0<=lI 0 (dones bs (ws.map (·.2.1))):=
 (hE.mxL fun x hx=>by
  obtain⟨w,hw,rfl⟩:=bM.mp hx
  exact(G.ok w hw).1).1
theorem aGF{N:Nt}{a:Int}(h:Flo N (fun _=>0) a):a=0:=by
 have:=h fun v=>if v=1 then 1 else 0
 rw[mR fun k _=>dI _]at this;simp at this
 lia
theorem aMy{n:Nat}{k:Nat}(hk:k<(net w n es P).m):(net w n es P).h k≠0/\(net w n es P).t k≠1:=by
 cases pipe hk with
 |src i hi e t h d c=>rw[t,h];lia
 |usu i hi e t h d c=>rw[t,h];lia
 |lea i hi e t h d c=>rw[t,h];lia
 |snk i hi e t h d c=>rw[t,h];lia
 |nee x y i hi e t h d c=>rw[t,h];lia
theorem aMl{n:Nat}(W:Wel w n es P){f:Nat->Int}{a:Int}(hf:Flo (net w n es P) f a)(hc:Cap (net w n es P) f):∃ρ,Flw (stp (net w n es P) f (net w n es P).m) a ρ:=by
 obtain⟨r,h1,h2⟩:=W.rk;have hn:=W.n8;have hup:=aLb (w:=w) (P:=P) h1 h2;have key:∀e∈stp (net w n es P) f (net w n es P).m,∃j,j<(net w n es P).m/\e.1=((net w n es P).t j,(net w n es P).h j):=fun e he=>wX (cK he)
 have r1:rk n r 1=2*n:=rfl;have r0:rk n r 0= -1:=rfl
 refine⟨rk n r,aL2 hf,xU (fun k hk=>(hc k hk).1) (bD _),uI,fun e he=>?_,fun e he=>?_,fun e he=>?_,fun e he=>?_,by rw[r1,r0];lia,by rw[r1,r0];lia,dW vX (by have:=W.m;lia)⟩
 ·obtain⟨j,hj,e1⟩:=key e he;rw[e1];exact(aMy hj).1
 ·obtain⟨j,hj,e1⟩:=key e he;rw[e1];exact hup j hj
 ·obtain⟨j,hj,e1⟩:=key e he;rw[e1,r1];show rk n r ((net w n es P).h j)<=_;cases pipe hj with
  |src i hi e t h d c=>rw[h,zE];have:=h1 i hi;lia
  |usu i hi e t h d c=>rw[h,vI];have:=h1 i hi;lia
  |lea i hi e t h d c=>rw[h,vI];have:=h1 i hi;lia
  |snk i hi e t h d c=>rw[h,r1];lia
  |nee x y i hi e t h d c=>rw[h,zE];have:=h1 y (W.ein _ (bF hi)).2;lia
 ·obtain⟨j,hj,e1⟩:=key e he;rw[e1,r0];show _<=rk n r ((net w n es P).t j);cases pipe hj with
  |src i hi e t h d c=>rw[t,r0];lia
  |usu i hi e t h d c=>rw[t,zE];have:=h1 i hi;lia
  |lea i hi e t h d c=>rw[t,zE];have:=h1 i hi;lia
  |snk i hi e t h d c=>rw[t,vI];have:=h1 i hi;lia
  |nee x y i hi e t h d c=>rw[t,vI];have:=h1 x (W.ein _ (bF hi)).1;lia
end Lib
namespace TL
open PySem L2
theorem aAF{B:FS}{m:Nat}{ts:List T}{Q:T->Sto->Prop}(h:wpS B (st0 m ts) [] fun l ag C'=>match l with
 | .rt r=>Q r C'
 |_=>False):wpO (aAP B m ts) Q:=by
 obtain⟨l,ag,C',e,q⟩:=h;cases l with
 |rt r=>exact⟨_,C',by unfold aAP;rw[e],q⟩
 |nx=>exact q.elim
 |bk=>exact q.elim
 |ct=>exact q.elim
 |ex c=>exact q.elim
end TL
namespace Lib
open PySem L2 TL NF
end Lib
namespace Lib
open PySem L2 TL NF
variable{w:Wk}{es:List (Nat×Nat)}{P e:Int}{pp:Nat->Int}
noncomputable def beg(pp:Nat->Int)(i:Nat):Int:=pp (2*i+2)
noncomputable def hrs(w:Wk)(pp:Nat->Int)(i:Nat):Int:=min (w.u i) (pp (2*i+3) - pp (2*i+2))
theorem aEU{n:Nat}(W:Wel w n es P){f:Nat->Int}{a:Int}(G:Good w n es P f a pp)(he:pp 1=e)(ha:a<P)(jf:∀i,i<n->w.l i<=w.u i):
 (∀i,i<n->0<=beg pp i/\w.l i<=hrs w pp i/\hrs w pp i<=w.u i/\beg pp i+hrs w pp i<=e)/\(∀x∈es,beg pp x.1+hrs w pp x.1<=beg pp x.2)/\sm n (fun i=>w.p i*(w.u i - hrs w pp i))=len (net w n es P) f - a*e:=by
 have ho:=W.open G ha;obtain⟨q1,q2,q3,q4⟩:=aBq G.pot ho G.p0 W.ein
 refine⟨fun i hi=>?_,fun x hx=>?_,?_⟩
 ·have h1:=q1 i hi;have h2:=q2 i hi;have h3:=q3 i hi;have h4:=jf i hi;unfold beg hrs
  refine⟨h1,?_,?_,?_⟩<;>lia
 ·have h1:=q4 x hx;unfold beg hrs
  lia
 ·rw[<-he,G.price ho]
  refine jX fun i _=>?_
  congr 1;unfold hrs NF.pos;split<;>lia
theorem aJ9{x u l p:Int}(h:l<=u):(if x<=p then x*u else p*u+(x - p)*l)=min (x*u) (p*(u - l)+x*l):=by
 have e1:x*u - (p*(u - l)+x*l)=(x - p)*(u - l):=by rw[aOV,cI,cI];lia
 have e2:p*u+(x - p)*l=p*(u - l)+x*l:=by rw[aOV,cI];lia
 by_cases hx:x<=p
 ·rw[if_pos hx];have:(x - p)*(u - l)<=0:=Int.mul_nonpos_of_nonpos_of_nonneg (by lia) (by lia)
  lia
 ·rw[if_neg hx,e2];have:0<=(x - p)*(u - l):=dN (by lia) (by lia)
  lia
theorem aEA{n:Nat}{g:Nat->Int}{k:Nat}(hk:k<n):(sm n fun j=>if j=k then g j else 0)=g k:=by
 induction n with
 |zero=>lia
 |succ n ih=>
  show sm n _+(if n=k then g n else 0)=_;by_cases h:n=k
  ·subst h;rw[if_pos rfl,mR fun j hj=>if_neg (by lia)];lia
  ·rw[if_neg h,ih (by lia)];lia
theorem aMo{n:Nat}{f:Nat->Int}{i:Nat}(hi:i<n):at_ (stp (net w n es P) f (net w n es P).m) (stw i)=thr f i:=by
 rw[aHJ];show sm (4*n+es.length) _=_;have e:∀k,k<4*n+es.length->(if stw i=((net w n es P).t k,(net w n es P).h k)then f k else 0)=(if k=4*i+1 then f k else 0)+if k=4*i+2 then f k else 0:=fun k hk=>by
  have hs:stw i=((net w n es P).t k,(net w n es P).h k)↔(2*i+2=(net w n es P).t k/\2*i+3=(net w n es P).h k):=by unfold stw;rw[aP7.injEq]
  cases pipe (w:=w) (n:=n) (es:=es) (P:=P) (k:=k) hk with
  |src j hj e t h d c=>rw[if_neg (by rw[hs,t,h];lia),if_neg (by lia),if_neg (by lia)];rfl
  |usu j hj e t h d c=>
   by_cases z:j=i
   ·rw[if_pos (by rw[hs,t,h];lia),if_pos (by lia),if_neg (by lia)];lia
   ·rw[if_neg (by rw[hs,t,h];lia),if_neg (by lia),if_neg (by lia)];rfl
  |lea j hj e t h d c=>
   by_cases z:j=i
   ·rw[if_pos (by rw[hs,t,h];lia),if_neg (by lia),if_pos (by lia)];lia
   ·rw[if_neg (by rw[hs,t,h];lia),if_neg (by lia),if_neg (by lia)];rfl
  |snk j hj e t h d c=>rw[if_neg (by rw[hs,t,h];lia),if_neg (by lia),if_neg (by lia)];rfl
  |nee x y j hj e t h d c=>rw[if_neg (by rw[hs,t,h];lia),if_neg (by lia),if_neg (by lia)];rfl
 rw[jX e,aMx,aEA (by lia),aEA (by lia)];rfl
theorem aB8{n:Nat}{f f2 p2:Nat->Int}{a a2:Int}(G:Good w n es P f a pp)(G2:Good w n es P f2 a2 p2)(h1:pp 1=e)(h2:p2 1=e)(jf:∀i,i<n->w.l i<=w.u i){rl:List (Nat×Int×List Nat)}(R:yU n es (stp (net w n es P) f2 (net w n es P).m) a2 rl [] 0):
 len (net w n es P) f - a*e=sm n (fun i=>min ((rl.map fun z=>z.2.1*(z.2.2.count i:Int)).sum*w.u i) (w.p i*(w.u i - w.l i)+(rl.map fun z=>z.2.1*(z.2.2.count i:Int)).sum*w.l i)) - e*(rl.map fun z=>z.2.1).sum:=by
 rw[yW G G2 h1 h2,aGv G2 jf,R.sum,dJ,aPY a2 e];congr 1
 refine jX fun i hi=>?_
 have:(rl.map fun z=>z.2.1*(z.2.2.count i:Int)).sum=thr f2 i:=by
  rw[R.thr i,aMo hi];show thr f2 i - 0=_
  lia
 rw[this]
 exact aJ9 (jf i hi)
end Lib
namespace K42
open PySem L2 TL Lib
def oK:FS:=
 (qJ Y1 (e7 (fI 7) fG))
def o5:FS:=
 (fM (oR Y0 (gN 1)
  oK)
  (qJ Y0 (e7 (fS (gE (e7 (fI 8) fG))) fG)))
def mF:List T->Sto->Option Sto:=aCT o5 2
def oJ:FS:=
 (fM (fY (fIx Y0 Y4) (gU [5,6,7]))
  (fM (fY (aC8 (e7 (fS (jE Y1 1 [4] (gN 0) (hZ (fIn Y1 (fS (fSl Y0 (qW (fI 1)) mT)))) (fIx Y0 (fI 0)))) fG)) (gN 8))
  (fY (jY Y3 (rN (e7 (lH Y8 Y5) (e7 (jY (lH Y7 (mL Y5 Y6)) (lH Y8 Y6)) fG)))) (gN 3))))
def rF:FS:=
 (fM (fY (mL (fI 0) (lH Y2 (aC8 (e7 (fS (jE Y1 1 [] (gN 0) iB (fIx Y0 (fI 0)))) fG)))) (gN 3))
  (fM (lD (mD (e7 Y0 fG)) (gN 4)
   oJ)
  (gF Y3)))
def oZ:List T->Option T:=iX rF 9
def nL:FS:=
 (fM (fIf (lO (i8 (j9 (f7 1 jV (e7 (fIx Y2 Y3) fG)))) (lO (hZ (fLt (fIx Y2 Y3) (fI 0))) (hZ (fGe (fIx Y2 Y3) Y0)))) (gF (fC (.bl false))) iE)
  (fIf (pZ (hZ (fGt Y3 (fI 0))) (hZ (aFZ (fS (gE (e7 (fIx Y2 (mL Y3 (fI 1))) (e7 (fIx Y2 Y3) fG)))) Y1))) (gF (fC (.bl false))) iE))
def pA:FS:=
 (fM (fIf (hZ (fEq Y2 (fS (gE fG)))) (gF (fC (.bl false))) iE)
  (fM (lD (mD (e7 Y2 fG)) (gN 3)
   nL)
  (gF (fC (.bl true)))))
def mH:List T->Option T:=iX pA 4
def lC:FS:=
 (fM (fIf (lO (i8 (j9 (p6 "list" Y3))) (lO (hZ (fLt (mD (e7 Y3 fG)) (fI 2))) (lO (i8 (j9 (f7 1 jV (e7 (fIx Y3 (fI 0)) fG)))) (hZ (fLt (fIx Y3 (fI 0)) (fI 1)))))) (gF (fC (.bl false))) iE)
  (fIf (i8 (j9 (f7 3 mH (e7 Y0 (e7 Y1 (e7 (fS (fSl Y3 (qW (fI 1)) mT)) fG)))))) (gF (fC (.bl false))) iE))
def mM:FS:=
 (fM (fIf (i8 (j9 (p6 "list" Y2))) (gF (fC (.bl false))) iE)
  (fM (oR Y2 (gN 3)
   lC)
  (gF (fC (.bl true)))))
def k8:List T->Option T:=iX mM 4
end K42
namespace K42
open PySem L2 TL Lib NF
variable{ws:List (Int×Int×Int)}{i:Nat}{row:List T}{j:Int}{r:T}
theorem aNc(hi:i<ws.length):(fP ws).u i=ws[i].1/\(fP ws).l i=ws[i].2.1/\(fP ws).p i=ws[i].2.2:=by
 refine⟨?_,?_,?_⟩<;>simp[fP,hi]
theorem aNU(hi:i<ws.length):atI (ws.map w3) (i:Int)=some (w3 ((fP ws).u i,(fP ws).l i,(fP ws).p i)):=by
 obtain⟨h1,h2,h3⟩:=aNc hi;rw[qS,bH,bA hi,h1,h2,h3];rfl
theorem ix2{τ:TSt}{C:Sto}{a k:Nat}{l:List T}{i:Int}{v:T}(h0:τ[a]?=some (some (.lst l)))(hk:τ[k]?=some (some (.int i)))(hl:atI l i=some r)(hr:sqT C r=some row)(hv:atI row j=some v):fIx (fIx (iY a) (iY k)) (fC (.int j)) τ C=some (v,C):=
 r6 (fK.mpr (fK.mpr (e9.mpr ⟨_,h0,e9.mpr ⟨_,hk,kQ.mpr ⟨_,rfl,_,hl,gL.mpr (kQ.mpr ⟨_,hr,_,hv,rfl,rfl⟩)⟩⟩⟩)))
theorem ix1{τ:TSt}{C:Sto}{a:Nat}{v:T}(h0:τ[a]?=some (some r))(hr:sqT C r=some row)(hv:atI row j=some v):fIx (iY a) (fC (.int j)) τ C=some (v,C):=
 r6 (fK.mpr (e9.mpr ⟨_,h0,gL.mpr (kQ.mpr ⟨_,hr,_,hv,rfl,rfl⟩)⟩))
end K42
namespace K42
open PySem L2 TL Lib NF
variable{ps:List (Int×Int)}
theorem aEt{es:List (Nat×Nat)}:∀{is:List Nat}{b:Option Nat},NF.Chn es b is->∀{k a c:Nat},is[k]?=some a->is[k+1]?=some c->(a,c)∈es
 | [],_,_,_,_,_,h,_=>by simp at h
 |i::is,b,⟨_,h2⟩,0,a,c,h,h'=>by
  simp at h;subst h;cases is with
  |nil=>simp at h'
  |cons j is=>
   simp at h';subst h'
   exact h2.1 i rfl
 |i::is,b,⟨_,h2⟩,k+1,a,c,h,h'=>aEt h2 (by simpa using h) (by simpa using h')
noncomputable def nI(is:List Nat):List Int:=is.map fun i:Nat=>(i:Int)
def rI(z:Nat×Int×List Nat):List Int:=z.2.1::nI z.2.2
theorem aKQ{is:List Nat}{k i:Nat}(h:is[k]?=some i):atI ((nI is).map T.int) (k:Int)=some (.int i):=by
 unfold nI;rw[qS,bH,bH,h];rfl
theorem aE4{m:Nat}{is:List Nat}(ay:is≠[])(hl:is.length<1000)(hi:∀i∈is,i<m)(hc:∀k a c:Nat,is[k]?=some a->is[k+1]?=some c->((a:Int),(c:Int))∈ps):mH [.int m,.lst (ps.map pT),.lst ((nI is).map T.int)]=some (.bl true):=by
 apply iW;unfold pA;walk_at "b"
 refine fJ.mpr (mE.mpr (g8.mpr (fK.mpr (e9.mpr ⟨_,rfl,gA.mpr (hV.mpr (fH.mpr ⟨by decide,?_⟩))⟩))))
 refine(aC2 (ys:=[])).mpr ⟨_,rfl,?_⟩
 rw[if_neg (by simpa[nI]using ay)]
 refine gY.mpr (fW.mpr (fJ.mpr (nP.mpr (fV.mpr (fB.mpr (e9.mpr ⟨_,rfl,fH.mpr (lP.mpr ⟨_,rfl,_,rfl,⟨by lia,by simp[nI];lia⟩,?_⟩)⟩))))))
 rw[aS,cN,show(nI is).length=is.length by simp[nI]]
 refine mO (fun i τ C=>C=[]/\∃a,τ=[some (.int m),some (.lst (ps.map pT)),some (.lst ((nI is).map T.int)),a]) ⟨rfl,_,rfl⟩ ?_ ?_
 ·rintro k τ C hk ⟨rfl,a,rfl⟩;have hg:=bA hk;have him:=hi _ (dB hk);have x0:∀{τ:TSt}{C:Sto},τ[2]?=some (some (.lst ((nI is).map T.int)))->τ[3]?=some (some (.int (k:Int)))->fIx Y2 Y3 τ C=some (.int is[k],C):=fun h1 h2=>
   r6 (fK.mpr (e9.mpr ⟨_,h1,e9.mpr ⟨_,h2,kQ.mpr ⟨_,rfl,_,aKQ hg,rfl,rfl⟩⟩⟩))
  rw[eG];unfold nL
  refine gB.mpr (fJ.mpr (mE.mpr (m7.mpr (kG.mpr (jO.mpr (fV.mpr (fB.mpr (fR (x0 rfl rfl) (fH.mpr (rB.mpr ⟨true,rfl,?_⟩))))))))))
  rw[if_neg (by simp)]
  refine m7.mpr (g8.mpr (fK.mpr (fR (x0 rfl rfl) (gL.mpr (jH.mpr ⟨_,rfl,?_⟩)))))
  rw[if_neg (by rw[decide_eq_false (by lia)];simp)]
  refine g8.mpr (fK.mpr (fR (x0 rfl rfl) (e9.mpr ⟨_,rfl,jH.mpr ⟨_,rfl,?_⟩⟩)))
  rw[if_neg (by rw[decide_eq_false (by lia)];simp)]
  refine gY.mpr (fW.mpr (mE.mpr (wJ.mpr (g8.mpr (fK.mpr (e9.mpr ⟨_,rfl,gL.mpr (jH.mpr ⟨_,rfl,?_⟩)⟩))))))
  by_cases hk0:0<k
  ·rw[if_pos (decide_eq_true (by lia))];obtain⟨j,rfl⟩:∃j,k=j+1:=⟨k - 1,by lia⟩;have hg':=bA (show j<is.length by lia);have hp:=hc j _ _ hg' hg
   refine g8.mpr (fK.mpr (gA.mpr (hV.mpr (fB.mpr (fK.mpr (e9.mpr ⟨_,rfl,fK.mpr (e9.mpr ⟨_,rfl,gL.mpr (jH.mpr ?_)⟩)⟩))))))
   rw[show((j+1:Nat):Int) - 1=(j:Int)by lia]
   refine kQ.mpr ⟨_,rfl,_,aKQ hg',fB.mpr (fR (x0 rfl rfl) (fH.mpr ⟨by simp[lim],e9.mpr ⟨_,rfl,aCe.mpr ⟨_,rfl,?_⟩⟩⟩))⟩
   rw[if_neg (by simp[hp])]
   exact gY.mpr ⟨trivial,rfl,_,rfl⟩
  ·rw[if_neg (by rw[decide_eq_false (by lia)];simp),if_neg (by simp)]
   exact gY.mpr ⟨trivial,rfl,_,rfl⟩
 ·rintro τ C ⟨rfl,a,rfl⟩
  exact fW.mpr (iJ.mpr (gL.mpr (iD l6)))
theorem aA1{m:Nat}{rl:List (Nat×Int×List Nat)}(h:∀z∈rl,1<=z.2.1/\z.2.2≠[]/\z.2.2.length<1000/\(∀i∈z.2.2,i<m)/\∀k a c:Nat,z.2.2[k]?=some a->z.2.2[k+1]?=some c->((a:Int),(c:Int))∈ps):
 k8 [.int m,.lst (ps.map pT),.lst (rl.map fun z=>iT (rI z))]=some (.bl true):=by
 apply iW;unfold mM;walk_at "b"
 refine fJ.mpr (mE.mpr (kG.mpr (jO.mpr (tK.mpr (e9.mpr ⟨_,rfl,true,rfl,true,rfl,?_⟩)))))
 rw[if_neg (by simp)]
 refine gY.mpr (fW.mpr (fJ.mpr (nK.mpr (e9.mpr ⟨_,rfl,_,rfl,?_⟩))))
 refine j0 (xs:=rl) (en:=fun z=>iT (rI z)) (fun i τ C=>C=[]/\∃a,τ=[some (.int m),some (.lst (ps.map pT)),some (.lst (rl.map fun z=>iT (rI z))),a]) ⟨rfl,_,rfl⟩ ?_ ?_
 ·rintro j z τ C hj ⟨rfl,a,rfl⟩;obtain⟨z1,z2,z3,z4,z5⟩:=h z (bF hj);have x0:∀{τ:TSt}{C:Sto},τ[3]?=some (some (iT (rI z)))->fIx Y3 (fI 0) τ C=some (.int z.2.1,C):=fun h=>ix1 h rfl yG
  have ai:(rI z).length=z.2.2.length+1:=by simp[rI,nI]
  have dm:=aOl.mpr z2;have ox:CFs [T.int (m:Int),.lst (ps.map pT),.lst ((nI z.2.2).map T.int)]=true:=by rw[fQ,fQ,fQ,gT,gD,gK,gK,lU,iM];rfl
  unfold lC
  refine gB.mpr (fJ.mpr (mE.mpr (m7.mpr (kG.mpr (jO.mpr (tK.mpr (e9.mpr ⟨_,rfl,true,rfl,true,rfl,?_⟩)))))))
  rw[if_neg (by simp)]
  refine m7.mpr (g8.mpr (fK.mpr (fV.mpr (fB.mpr (e9.mpr ⟨_,rfl,fH.mpr (lP.mpr ⟨_,rfl,gL.mpr (jH.mpr ⟨_,rfl,?_⟩)⟩)⟩)))))
  rw[aS,ai,if_neg (by rw[decide_eq_false (by lia)];simp)]
  refine m7.mpr (kG.mpr (jO.mpr (fV.mpr (fB.mpr (fR (x0 rfl) (fH.mpr (rB.mpr ⟨true,rfl,?_⟩)))))))
  rw[if_neg (by simp)]
  refine g8.mpr (fK.mpr (fR (x0 rfl) (gL.mpr (jH.mpr ⟨_,rfl,?_⟩))))
  rw[if_neg (by rw[decide_eq_false (by lia)];simp)]
  refine gY.mpr (fW.mpr (mE.mpr (kG.mpr (jO.mpr (fV.mpr (fB.mpr (e9.mpr ⟨_,rfl,fB.mpr (e9.mpr ⟨_,rfl,fB.mpr (gA.mpr (aDT.mpr (e9.mpr ⟨_,rfl,yD.mpr (gL.mpr ⟨_,rfl,aDm.mpr ⟨_,rfl,?_⟩⟩)⟩)))⟩)⟩)))))))
  have mj:aAY ((rI z).map T.int) (some 1) none=(nI z.2.2).map T.int:=by unfold rI;rw[aM];exact aHF
  rw[mj]
  refine fH.mpr ((gC (aE4 z2 z3 z4 z5) rfl ox).mpr ⟨true,rfl,?_⟩)
  rw[if_neg (by simp)]
  exact gY.mpr ⟨trivial,rfl,_,rfl⟩
 ·rintro τ C ⟨rfl,a,rfl⟩
  exact fW.mpr (iJ.mpr (gL.mpr (iD l6)))
end K42
namespace K42
open PySem L2 TL Lib NF
theorem rZ{z:List (Nat×Int×List Nat)}{k:Nat}(h:∀x∈z,x.2.2.count k<=1):((z.filter fun x=>decide (k∈x.2.2)).map fun x=>x.2.1).sum=(z.map fun x=>x.2.1*(x.2.2.count k:Int)).sum:=by
 induction z with
 |nil=>rfl
 |cons x z ih=>
  have ih:=ih fun y hy=>h y (aU _ hy)
  rw[aO1,aM,eP,<-ih];by_cases hk:k∈x.2.2
  ·rw[if_pos (decide_eq_true hk),aM,eP];have h1:=h x bJ;have h2:=List.count_pos_iff.mpr hk;rw[show x.2.2.count k=1 by lia];simp
  ·rw[if_neg (by simpa using hk),aPr.mpr hk];simp
theorem Bt.big{x:Int}(h0:0<=x)(h:x<2^256):Bt 256 x:=Bt.of_lt h0 h
theorem aK4{τ:TSt}{C:Sto}{a b m n:Nat}{x y:Int}(ha:τ[a]?=some (some (.int x)))(hb:τ[b]?=some (some (.int y)))(h1:Bt m x)(h2:Bt n y)(h:m+n<=134217728):lH (iY a) (iY b) τ C=some (.int (x*y),C):=
 r6 (fK.mpr (e9.mpr ⟨_,ha,e9.mpr ⟨_,hb,mZ.mpr ⟨yN h1 h2 h,rfl,rfl⟩⟩⟩))
theorem aNn{τ:TSt}{C:Sto}{a b c m n:Nat}{x y z:Int}(ha:τ[a]?=some (some (.int x)))(hb:τ[b]?=some (some (.int y)))(hc:τ[c]?=some (some (.int z)))(h1:Bt m x)(h2:Bt n (y - z))(h:m+n<=134217728):lH (iY a) (mL (iY b) (iY c)) τ C=some (.int (x*(y - z)),C):=
 r6 (fK.mpr (e9.mpr ⟨_,ha,fK.mpr (e9.mpr ⟨_,hb,e9.mpr ⟨_,hc,jH.mpr (mZ.mpr ⟨yN h1 h2 h,rfl,rfl⟩)⟩⟩)⟩))
theorem aD3{ws:List (Int×Int×Int)}{rl:List (Nat×Int×List Nat)}{e:Int}(hl:ws.length<=8)(hok:∀w∈ws,p8 w)(dj:rl.length<90000)(hz:∀z∈rl,1<=z.2.1/\∀i,z.2.2.count i<=1)(he0:0<=e)(he:e<2^256)(hs:0<=(rl.map fun z=>z.2.1).sum/\(rl.map fun z=>z.2.1).sum<2^256)
 (hk:∀i,i<ws.length->0<=(rl.map fun z=>z.2.1*(z.2.2.count i:Int)).sum/\(rl.map fun z=>z.2.1*(z.2.2.count i:Int)).sum<2^256):
 oZ [.lst (ws.map w3),.lst (rl.map fun z=>iT (rI z)),.int e]=some (.int (0 - e*(rl.map fun z=>z.2.1).sum+sm ws.length fun i=>min ((rl.map fun z=>z.2.1*(z.2.2.count i:Int)).sum*(fP ws).u i) ((fP ws).p i*((fP ws).u i - (fP ws).l i)+(rl.map fun z=>z.2.1*(z.2.2.count i:Int)).sum*(fP ws).l i))):=by
 apply iW;unfold rF;walk_at "b"
 refine fJ.mpr (f6.mpr (fK.mpr (gL.mpr (fK.mpr (e9.mpr ⟨_,rfl,fV.mpr (fB.mpr (gA.mpr (jF.mpr (e9.mpr ⟨_,rfl,_,rfl,by simp[lim];lia,?_⟩))))⟩)))))
 refine iH (xs:=rl) (en:=fun z=>iT (rI z)) (fun z=>T.int z.2.1) (fun z _=>gB.mpr (fR (ix1 (r:=iT (rI z)) rfl rfl yG) ⟨rfl,rfl⟩)) ?_
 refine fH.mpr (lQ.mpr ⟨_,rfl,_,lT (f:=fun z:Nat×Int×List Nat=>z.2.1),rfl,mZ.mpr ⟨yN (m:=256) (n:=256) (Bt.big he0 he) (Bt.big hs.1 hs.2) (by decide),jH.mpr (gB.mpr (fW.mpr (fJ.mpr (nP.mpr (fV.mpr (fB.mpr (e9.mpr ⟨_,rfl,fH.mpr (lP.mpr ⟨_,rfl,_,rfl,⟨by lia,by rw[aS];lia⟩,?_⟩)⟩)))))))⟩⟩)
 rw[aS,cN]
 refine mO (fun i τ C=>C=[]/\∃a b c d f,τ=[some (.lst (ws.map w3)),some (.lst (rl.map fun z=>iT (rI z))),some (.int e),some (.int (0 - e*(rl.map fun z=>z.2.1).sum+sm i fun i=>min ((rl.map fun z=>z.2.1*(z.2.2.count i:Int)).sum*(fP ws).u i) ((fP ws).p i*((fP ws).u i - (fP ws).l i)+(rl.map fun z=>z.2.1*(z.2.2.count i:Int)).sum*(fP ws).l i))),a,b,c,d,f]) ⟨rfl,none,none,none,none,none,?_⟩ ?_ ?_
 ·simp[sm]
 ·rintro i τ C hi ⟨rfl,a,b,c,d,g,rfl⟩;have g1:=aNU (ws:=ws) hi;have hw:=nZ (P:=p8) hok hi;obtain⟨k1,k2⟩:=hk i hi;rw[eG];unfold oJ
  refine gB.mpr (fJ.mpr (f6.mpr (fK.mpr (e9.mpr ⟨_,rfl,e9.mpr ⟨_,rfl,kQ.mpr ⟨_,rfl,_,g1,wS.mpr ⟨_,rfl,rfl,fW.mpr (fJ.mpr (f6.mpr (fV.mpr (fB.mpr (gA.mpr (jF.mpr (e9.mpr ⟨_,rfl,_,rfl,by simp[lim];lia,?_⟩)))))))⟩⟩⟩⟩))))
  refine rH (xs:=rl) (en:=fun z=>iT (rI z)) (fun z=>decide (i∈z.2.2)) (fun z=>T.int z.2.1) (fun z hzm=>?_) ?_
  ·refine gB.mpr (g8.mpr (fK.mpr (e9.mpr ⟨.int (i:Int),rfl,gA.mpr (aDT.mpr (e9.mpr ⟨iT (rI z),rfl,yD.mpr (gL.mpr ⟨_,rfl,aDm.mpr ⟨_,rfl,?_⟩⟩)⟩))⟩)))
   have mj:aAY ((rI z).map T.int) (some 1) none=(nI z.2.2).map T.int:=by unfold rI;rw[aM];exact aHF
   rw[mj];have cq:((i:Int)∈nI z.2.2)↔i∈z.2.2:=by
    unfold nI;rw[bM];constructor
    ·rintro⟨j,hj,e⟩;rw[show i=j by lia];exact hj
    ·exact fun h=>⟨i,h,rfl⟩
   refine aCW.mpr ⟨_,rfl,rfl,?_,fun _=>fR (ix1 (r:=iT (rI z)) rfl rfl yG) ⟨rfl,rfl⟩⟩
   simp[cq]
  ·refine fH.mpr (lQ.mpr ⟨_,rfl,_,lT (f:=fun z:Nat×Int×List Nat=>z.2.1),rfl,gB.mpr (fW.mpr ?_)⟩)
   rw[rZ fun x hx=>(hz x hx).2 i];generalize hX:(rl.map fun z=>z.2.1*(z.2.2.count i:Int)).sum=X at k1 k2;have bu:Bt 252 ((fP ws).u i):=Bt.of_lt (dZ hw.1 hw.2.1) hw.2.2.2.1;have bl:Bt 252 ((fP ws).l i):=Bt.of_lt hw.1 (dA hw.2.1 hw.2.2.2.1);have bp:Bt 252 ((fP ws).p i):=Bt.of_lt hw.2.2.1 hw.2.2.2.2;have bd:Bt 252 ((fP ws).u i - (fP ws).l i):=Bt.of_lt (by have:=hw.2.1;show 0<=(fP ws).u i - (fP ws).l i;unfold fP;dsimp only;lia) (by have:=hw.2.2.2.1;have:=hw.1;show(fP ws).u i - (fP ws).l i<_;unfold fP;dsimp only;lia);have bX:=Bt.big k1 k2
   refine f6.mpr (fK.mpr (e9.mpr ⟨_,rfl,fV.mpr (fB.mpr ?_)⟩))
   refine fR (aK4 (a:=8) (b:=5) (x:=X) (y:=(fP ws).u i) rfl rfl bX bu (by decide)) (fB.mpr (fK.mpr ?_))
   refine fR (aNn (a:=7) (b:=5) (c:=6) (x:=(fP ws).p i) (y:=(fP ws).u i) (z:=(fP ws).l i) rfl rfl rfl bp bd (by decide)) ?_
   refine fR (aK4 (a:=8) (b:=6) (x:=X) (y:=(fP ws).l i) rfl rfl bX bl (by decide)) (jH.mpr (fH.mpr (wM.mpr (jH.mpr (gB.mpr ⟨trivial,rfl,some (.int i),some (.int ((fP ws).u i)),some (.int ((fP ws).l i)),some (.int ((fP ws).p i)),some (.int X),?_⟩)))))
   have e1:(sm (i+1) fun i=>min ((rl.map fun z=>z.2.1*(z.2.2.count i:Int)).sum*(fP ws).u i) ((fP ws).p i*((fP ws).u i - (fP ws).l i)+(rl.map fun z=>z.2.1*(z.2.2.count i:Int)).sum*(fP ws).l i))=(sm i fun i=>min ((rl.map fun z=>z.2.1*(z.2.2.count i:Int)).sum*(fP ws).u i) ((fP ws).p i*((fP ws).u i - (fP ws).l i)+(rl.map fun z=>z.2.1*(z.2.2.count i:Int)).sum*(fP ws).l i))+min (X*(fP ws).u i) ((fP ws).p i*((fP ws).u i - (fP ws).l i)+X*(fP ws).l i):=by
    rw[<-hX];rfl
   rw[e1,<-Int.add_assoc];rfl
 ·rintro τ C ⟨rfl,a,b,c,d,g,rfl⟩
  exact fW.mpr (iJ.mpr (e9.mpr ⟨_,rfl,iD gD⟩))
end K42
namespace K42
open PySem L2 TL Lib NF
variable{cs:List Nat}{Cn:Sto}{rows:List (List Int)}
theorem aHB{C:Sto}{k:Nat}(hk:C[k]?=some (.l,cs.map T.cell))(hl:cs.length<395000)(hc:∀c∈cs,c≠k/\∃xs:List T,C[c]?=some (.l,xs)/\xs.length<=2000):∃C',mF [.cell k] C=some C'/\∀d,d≠k->d∉cs->C'[d]?=C[d]?:=by
 have:wpS o5 (st0 2 [.cell k]) C fun l _ C'=>l=.nx/\∀d,d≠k->d∉cs->C'[d]?=C[d]?:=by
  unfold o5;walk_at "b"
  refine fJ.mpr (nK.mpr (e9.mpr ⟨_,rfl,_,f9.mpr hk,?_⟩))
  refine j0 (xs:=cs) (en:=T.cell) (fun j τ C'=>j<=cs.length/\∃a,τ=[some (.cell k),a]/\C'[k]?=some (.l,cs.map T.cell)/\(∀c∈cs,∃xs:List T,C'[c]?=some (.l,xs)/\xs.length<=2000+j)/\∀d,d∉cs->C'[d]?=C[d]?) ⟨cV _,_,rfl,hk,fun c h=>let ⟨_,xs,h1,h2⟩:=hc c h;⟨xs,h1,by lia⟩,fun _ _=>rfl⟩ ?_ ?_
  ·rintro j c τ C' hj ⟨hjl,a,rfl,h1,h2,h9⟩;have yq:=bF hj;have kn:=(aR.mp hj).1;obtain⟨xs,h3,h4⟩:=h2 c yq;have hck:=(hc c yq).1;unfold oK
   refine gB.mpr (o9.mpr (e9.mpr ⟨_,rfl,fB.mpr (gL.mpr (fH.mpr ⟨_,rfl,by rw[f9.mpr h3];rfl,_,f9.mpr h3,pQ.mpr ⟨by simp[lim];lia,?_,by lia,_,rfl,?_,fun d hd=>?_,fun d hd=>?_⟩⟩))⟩))
   ·show lc _ k=_;rw[f9,aQ hck];exact h1
   ·rw[aQ hck];exact h1
   ·by_cases hdc:c=d
    ·subst hdc
     exact⟨_,m6 (lL h3),by simp;lia⟩
    ·obtain⟨ys,g1,g2⟩:=h2 d hd
     exact⟨ys,by rw[aQ hdc];exact g1,by lia⟩
   ·rw[aQ (by rintro rfl;exact hd yq)];exact h9 d hd
  ·rintro τ C' ⟨_,a,rfl,h1,h2,h9⟩
   refine fW.mpr (o9.mpr (e9.mpr ⟨_,rfl,fB.mpr (gA.mpr (hV.mpr (fB.mpr (gL.mpr (fH.mpr ⟨by simp[lim],fH.mpr ⟨_,rfl,by rw[f9.mpr h1];rfl,_,f9.mpr h1,pQ.mpr ⟨by simp[lim];lia,rfl,fun d hd hc=>by rw[aQ (Ne.symm hd)];exact h9 d hc⟩⟩⟩)))))⟩))
 obtain⟨l,ag,C',e,rfl,h9⟩:=this
 exact⟨C',by unfold mF aCT;rw[e],h9⟩
theorem aAx{k:Nat}:∀{xs:List Nat},shs k (xs.map T.cell)=(xs.map (k+ ·)).map T.cell
 | []=>by simp[shs]
 |x::xs=>by simp[shs,sh,aAx]
theorem aB7{k:Nat}:∀{xs:List Int},shs k (xs.map T.int)=xs.map T.int
 | []=>by simp[shs]
 |x::xs=>by simp[shs,sh,aB7]
theorem aHQ{C:Sto}{c:Nat}{x:Cl}(h:Cn[c]?=some x):(C++Cn.map (shc C.length))[C.length+c]?=some (shc C.length x):=by
 rw[bI (by lia),show C.length+c - C.length=c by lia,bH,h];rfl
structure lS(C:Sto)(k:Nat)(cs:List Nat)(rows:List (List Int)):Prop where
 at_:C[k]?=some (.l,cs.map T.cell)
 rows:cs.length=rows.length/\∀(i:Nat)(c:Nat)(r:List Int),cs[i]?=some c->rows[i]?=some r->C[c]?=some (.l,r.map T.int)/\c≠k
theorem lS.dr{C:Sto}{k:Nat}{cs:List Nat}{rows:List (List Int)}(R:lS C k cs rows):dr 3 C (.cell k)=some (.lst (rows.map iT)):=by
 have h1:mapO (TL.dr 2 C) (cs.map T.cell)=some (rows.map iT):=aEe (by simp[R.rows.1]) fun i t u ht hu=>by
  rw[bH]at ht hu;obtain⟨c,hc,rfl⟩:=aL.mp ht;obtain⟨r,hr,rfl⟩:=aL.mp hu
  exact oY (f9.mpr (R.rows.2 i c r hc hr).1)
 show(lc C k).bind _=_;rw[f9.mpr R.at_];show(mapO (TL.dr 2 C) _).map _=_;rw[h1];rfl
theorem lS.sh{C:Sto}{k:Nat}(R:lS Cn k cs rows):lS (C++Cn.map (shc C.length)) (C.length+k) (cs.map (C.length+ ·)) rows:=by
 refine⟨?_,by simp[R.rows.1],fun i c r hc hr=>?_⟩
 ·rw[aHQ R.at_];show some (Kd.l,shs C.length _)=_;rw[aAx]
 ·rw[bH]at hc;obtain⟨c',oy,rfl⟩:=aL.mp hc;obtain⟨h1,h2⟩:=R.rows.2 i c' r oy hr
  refine⟨?_,by lia⟩
  rw[aHQ h1];show some (Kd.l,shs C.length _)=_;rw[aB7]
theorem lS.spoil{C:Sto}{k:Nat}(R:lS C k cs rows)(hl:rows.length<395000)(hr:∀r∈rows,r.length<=2000):∃C',mF [.cell k] C=some C'/\∀d,d≠k->d∉cs->C'[d]?=C[d]?:=by
 refine aHB R.at_ (by rw[R.rows.1];exact hl) fun c hc=>?_
 obtain⟨i,hi⟩:=bT.mp hc;have bi:i<rows.length:=by rw[<-R.rows.1];exact(aR.mp hi).1
 obtain⟨h1,h2⟩:=R.rows.2 i c _ hi (bA bi)
 exact⟨h2,_,h1,by rw[aS];exact hr _ (dB bi)⟩
theorem aJX{n:Nat}{G:List T->Sto->Option Sto}{fa:FN}{τ:TSt}{C:Sto}{Q:TL.Fl->TSt->Sto->Prop}:wpS (aFp n G fa) τ C Q↔wpA fa τ C fun ts C1=>ts.length=n/\∃C2,G ts C1=some C2/\Q .nx τ C2:=by
 unfold wpS wpA aFp;constructor
 ·rintro⟨l,t,C',e,q⟩;obtain⟨⟨ts,C1⟩,e1,e⟩:=aK.mp e;dsimp only at e;split at e
  ·obtain⟨C2,e2,e⟩:=aL.mp e;cases e
   exact⟨ts,C1,e1,‹_›,_,e2,q⟩
  ·cases e
 ·rintro⟨ts,C1,e1,h,C2,e2,q⟩
  exact⟨_,_,_,by rw[e1,aV,if_pos h,e2];rfl,q⟩
theorem aAK{n:Nat}{G:List T->Option (T×Sto)}{ts:List T}{r:T}{C:Sto}{Q:T->Sto->Prop}(e:G ts=some (r,Cn))(hl:ts.length=n)(hc:CFs ts=true):wpO (sB n G ts C) Q↔Q (TL.sh C.length r) (C++Cn.map (shc C.length)):=by
 have:sB n G ts C=some (TL.sh C.length r,C++Cn.map (shc C.length)):=by
  unfold sB;rw[if_pos ⟨hl,hc⟩,e];rfl
 rw[this];exact oX
theorem aCL{rl:List (Nat×Int×List Nat)}{rw:Nat}(h1:Cn[rw]?=some (.l,rl.map fun z=>T.cell z.1))(h2:∀z∈rl,Cn[z.1]?=some (aAT z)):lS Cn rw (rl.map (·.1)) (rl.map rI):=by
 refine⟨by rw[b6];exact h1,by simp,fun i c r hc hr=>?_⟩
 rw[bH]at hc hr;obtain⟨z,hz,rfl⟩:=aL.mp hc;rw[hz]at hr;cases hr;have h3:=h2 z (bF hz)
 refine⟨?_,fun e=>?_⟩
 ·rw[h3];simp[aAT,rI,nI]
 ·rw[e,h1]at h3;cases rl with
  |nil=>simp at hz
  |cons y rl=>simp[aAT]at h3
end K42
namespace K42
open PySem L2 TL Lib NF
variable{ws:List (Int×Int×Int)}{ps:List (Int×Int)}{Q:T->Sto->Prop}{i:Nat}
theorem aGM{e:Int}:CFs [.lst (ws.map w3),.lst (ps.map pT),.int e]=true:=by rw[fQ,fQ,fQ,gT,gK,gK,gD,r9,lU];rfl
theorem aHV:CFs [.lst (ws.map w3),.lst (ps.map pT)]=true:=by rw[fQ,fQ,gT,gK,gK,r9,lU];rfl
theorem self2{b:Bool}{C:Sto}:wpO (gEq b (.lst [.lst (ws.map w3),.lst (ps.map pT)]) (.lst [.lst (ws.map w3),.lst (ps.map pT)]) C) Q↔Q (.bl (!b)) C:=by
 have he:eqT 5 (.lst [.lst (ws.map w3),.lst (ps.map pT)]) (.lst [.lst (ws.map w3),.lst (ps.map pT)])=some true:=by
  apply aAU;intro t ht;simp only[bE,cB,or_false]at ht;rcases ht with rfl|rfl
  ·rw[rD (fun _ _=>aLs)];simp
  ·rw[rD (fun _ _=>aGW)];simp
 have hc:CF (.lst [.lst (ws.map w3),.lst (ps.map pT)])=true:=by rw[gK];exact aHV
 rw[aH0,fU (iD hc),fU (iD hc),fU he];cases b<;>rfl
abbrev hdd(ws:List (Int×Int×Int))(ps:List (Int×Int)):T:=.lst [.lst (ws.map w3),.lst (ps.map pT)]
theorem hand{j:Nat}{τ:TSt}{C:Sto}(hl:ws.length<=8)(hp:ps.length<=1000)(hi:τ[i]?=some (some (.lst (ws.map w3))))(hj:τ[j]?=some (some (.lst (ps.map pT))))(q:Q (hdd ws ps) C):
 wpE (fS (gE (e7 (fS (jE (iY i) 1 [] (gN 0) iB (fS (aC0 (e7 Y0 fG))))) (e7 (fS (jE (iY j) 1 [] (gN 0) iB (fS (aC0 (e7 Y0 fG))))) fG)))) τ C Q:=by
 refine gA.mpr (hV.mpr (fB.mpr (gA.mpr (jF.mpr (e9.mpr ⟨_,hi,_,rfl,by simp[lim];lia,iH w3 (fun w _=>?_) ?_⟩)))))
 ·exact gB.mpr (gA.mpr (tL.mpr (fB.mpr (e9.mpr ⟨w3 w,rfl,fH.mpr (wT.mpr ⟨_,rfl,rfl,rfl⟩)⟩))))
 ·refine fB.mpr (gA.mpr (jF.mpr (e9.mpr ⟨_,hj,_,rfl,by simp[lim];lia,iH pT (fun w _=>?_) ?_⟩)))
  ·exact gB.mpr (gA.mpr (tL.mpr (fB.mpr (e9.mpr ⟨pT w,rfl,fH.mpr (wT.mpr ⟨_,rfl,rfl,rfl⟩)⟩))))
  ·exact fH.mpr ⟨by simp[lim],q⟩
theorem aKe{rl:List (Nat×Int×List Nat)}(h:∀z∈rl,1<=z.2.1/\∀i,z.2.2.count i<=1):0<=(rl.map fun z=>z.2.1*(z.2.2.count i:Int)).sum/\(rl.map fun z=>z.2.1*(z.2.2.count i:Int)).sum<=(rl.map fun z=>z.2.1).sum:=by
 induction rl with
 |nil=>simp
 |cons z rl ih=>
  obtain⟨h1,h2⟩:=ih fun y hy=>h y (aU _ hy)
  obtain⟨h3,h4⟩:=h z bJ;have h5:=h4 i;rw[aM,aM,eP,eP];rcases(show z.2.2.count i=0\/z.2.2.count i=1 by lia)with e|e<;>rw[e]<;>simp<;>lia
theorem lR{n:Nat}{is:List Nat}(h:∀i,is.count i<=1)(hi:∀i∈is,i<n):is.length<=n:=by
 have hn:is.Nodup:=aPk.mpr h;have hs:is ⊆ bK n:=fun i h=>cG.mpr (hi i h)
 have:=hn.length_le_of_subset hs;simpa using this
end K42
namespace Lib
open PySem L2 TL NF
variable{ws:List (Int×Int×Int)}{ps:List (Int×Int)}{nd:List (List Int)}{bs fs:List Int}{z:Int}
theorem Gvn.early_mono(G:Gvn ws ps nd){hs gs:List Int}(hE:Early ps hs bs)(hF:Early ps gs fs)(hl:hs.length=ws.length)(gl:gs.length=ws.length)(hH:∀i:Nat,i<ws.length->at0 hs i<=at0 gs i)(hp:∀h∈gs,0<=h):lI 0 (dones bs hs)<=lI 0 (dones fs gs):=by
 obtain⟨n0,n1,n2⟩:=hF.mxL hp
 refine G.fst hE hl (B:=fun i=>at0 fs i) n0 (fun i _=>hF.pos _) (fun p hp=>?_) fun i hi=>?_
 ·have h1:=hF.ge p hp;have h2:=G.inw _ hp;have h3:=hH p.1.toNat (by lia);rw[b5 h2.1.1]at h3|-;rw[b5 h2.2.1]
  lia
 ·have h4:=hH i hi;have h5:=n1 _ ⟨i,by rw[gl];exact hi,rfl⟩
  lia
structure Lot(ws:List (Int×Int×Int))(ps:List (Int×Int))(nd:List (List Int))(bs fs:List Int)(z y:Int):Prop where
 g:Gvn ws ps nd
 p63:ps.length<=63
 e:Early ps (ws.map (·.2.1)) bs
 f:Early ps (ws.map kA) fs
 zz:lI 0 (dones bs (ws.map (·.2.1)))=z
 yy:lI 0 (dones fs (ws.map kA))=y
 le:mX [.lst (ws.map w3),.lst (ps.map pT)]=some (.int z)
 fe:nX [.lst (ws.map w3),.lst (ps.map pT)]=some (.int y)
 z0:0<=z
 zy:z<=y
 yb:y<=8*2^252
theorem Lot.of(im:ws.length<=8)(av:ps.length<=63)(jd:InW ws.length ps)(pd:Acy ps)(dg:∀w∈ws,p8 w):∃nd bs fs z y,Lot ws ps nd bs fs z y:=by
 obtain⟨nd,G⟩:=Gvn.ex im (by lia) jd pd dg;have ends:∀f:Int×Int×Int->Int,(∀w∈ws,0<=f w)->∃bs,Early ps (ws.map f) bs/\kI [.lst ((ws.map f).map T.int),.lst (ps.map pT)]=some (.int (lI 0 (dones bs (ws.map f)))):=by
  intro f hf;have hp:∀h∈ws.map f,0<=h:=fun h hm=>by
   obtain⟨w,hw,rfl⟩:=bM.mp hm
   exact hf w hw
  have hln:(ws.map f).length=ws.length:=aS _;have hw:InW (ws.map f).length ps:=by rw[hln];exact jd
  obtain⟨_,e,bs,rfl,hE⟩:=aCl (hs:=ws.map f) (by lia) (by lia) hw pd hp
  exact⟨bs,hE,aFB e (by rw[hE.len];lia)⟩
 have p1:∀w∈ws,0<=w.2.1:=fun w hw=>(dg w hw).1
 have p2:∀w∈ws,0<=kA w:=fun w hw=>by
  have h:=dg w hw;unfold kA;split
  ·exact h.1
  ·exact dZ h.1 h.2.1
 obtain⟨bs,hE,hz1⟩:=ends (·.2.1) p1;obtain⟨fs,hF,jr⟩:=ends kA p2
 refine⟨nd,bs,fs,_,_,G,av,hE,hF,rfl,rfl,aBw (by lia) hz1,aCx (by lia) jr,G.zge hE,?_,(G.free hF (bonus:=0) (by decide)).1⟩
 refine G.early_mono hE hF (by simp) (by simp) (fun i hi=>?_) fun h hm=>?_
 ·have hw:=dg _ (dB hi);rw[mP (by simpa using hi),mP (by simpa using hi),aOi,aOi];unfold kA;split
  ·exact bP _
  ·exact hw.2.1
 ·obtain⟨w,hw,rfl⟩:=bM.mp hm;exact p2 w hw
theorem Lot.yC{y:Int}(L:Lot ws ps nd bs fs z y)(hw:∀w∈ws,uT w):y<=8*2^240:=by
 rw[<-L.yy]
 refine L.g.early_le L.f (by simp) (by decide) fun i hi=>?_
 have:=nZ (P:=uT) hw hi;have h1:0<=(fP ws).l i:=this.1;have h2:(fP ws).l i<=(fP ws).u i:=this.2.1;have h3:(fP ws).u i<2^240:=this.2.2.2.1;rw[wB hi];split<;>lia
theorem Lot.sC{y:Int}(L:Lot ws ps nd bs fs z y)(hw:∀w∈ws,uT w):sm ws.length (fP ws).p<=8*2^240:=by
 have h1:sm ws.length (fP ws).p<=sm ws.length fun _=>2^240:=tT fun i hi=>d0 (nZ (P:=uT) hw hi).2.2.2.2
 rw[zD]at h1;have h3:(ws.length:Int)*2^240<=8*2^240:=b9 (by have:=L.g.l8;lia) (by decide)
 lia
theorem lotM{ns:List Int}(hl:ns.length<=63){M:Nat}(h4:4<=M)(h8:M<=8){u:Int}(ol:0<u)(hu:u<=10^20):∃ws ps nd bs fs z y,aAD [.lst (ns.map T.int),.int M,.int u]=some (.tup [.lst (ws.map w3),.lst (ps.map pT)])/\Lot ws ps nd bs fs z y/\ws.length<=M/\ps.length<=20/\∀w∈ws,uT w:=by
 obtain⟨_,e1,ws,ps,rfl,im,av,dg,rs,cm,da⟩:=aKl hl h4 h8 ol hu;obtain⟨nd,bs,fs,z,y,L⟩:=Lot.of (ws:=ws) (ps:=ps) (by lia) (by lia) (Al.inW cm da) (Al.acy cm da) fun w hw=>(dg w hw).b
 exact⟨ws,ps,nd,bs,fs,z,y,e1,L,im,av,dg⟩
end Lib
namespace Lib
open PySem L2 TL NF
def oB(ws:List (Int×Int×Int))(nd:List (List Int))(e q:Int):Prop:=∃f a pp,Good (fP ws) ws.length (iA 0 nd) (plenty ws 0) f a pp/\pp 1=e/\a<=sm ws.length (fP ws).p/\q=len (hJ ws nd 0) f - a*e
end Lib
namespace Lib
open PySem L2 TL NF
structure Pl(ws:List (Int×Int×Int))(ps:List (Int×Int))(e:Int)(b h:Nat->Int):Prop where
 b0:∀i,i<ws.length->0<=b i
 lh:∀i,i<ws.length->(fP ws).l i<=h i
 hu:∀i,i<ws.length->h i<=(fP ws).u i
 en:∀i,i<ws.length->b i+h i<=e
 ne:∀p∈ps,b p.1.toNat+h p.1.toNat<=b p.2.toNat
def cst(ws:List (Int×Int×Int))(h:Nat->Int):Int:=sm ws.length fun i=>(fP ws).p i*((fP ws).u i - h i)
section
variable {ws:List (Int×Int×Int)}{ps:List (Int×Int)}{nd:List (List Int)}{bs fs:List Int}{z y e q:Int}{b h:Nat->Int}
theorem oB.plan(G:Gvn ws ps nd)(A:oB ws nd e q):∃b h,Pl ws ps e b h/\cst ws h=q:=by
 obtain⟨f,a,pp,g,hp,ha,rfl⟩:=A;have W:=G.wel (bonus:=0) (by decide);obtain⟨k1,k2,k3⟩:=aEU W g hp (dA ha W.pP) fun i hi=>(nZ (P:=p8) G.ok hi).2.1
 exact⟨beg pp,hrs (fP ws) pp,⟨fun i hi=>(k1 i hi).1,fun i hi=>(k1 i hi).2.1,fun i hi=>(k1 i hi).2.2.1,fun i hi=>(k1 i hi).2.2.2,fun p hp=>k2 _ (aBK G.inw G.ndd hp)⟩,k3⟩
theorem Pl.tim(G:Gvn ws ps nd)(p:Pl ws ps e b h):Tim ws.length (iA 0 nd) e b h:=
 ⟨p.b0,p.en,fun x hx=>by
  have:=p.ne _ (xL G.inw G.ndd hx).1;simpa using this⟩
theorem Pl.best(G:Gvn ws ps nd)(p:Pl ws ps e b h){P a:Int}{f:Nat->Int}(hf:Flo (net (fP ws) ws.length (iA 0 nd) P) f a)(hc:Cap (net (fP ws) ws.length (iA 0 nd) P) f):len (net (fP ws) ws.length (iA 0 nd) P) f - a*e<=cst ws h:=by
 refine dZ (NF.best hf hc (p.tim G) p.lh) (aPW (jX fun i hi=>?_))
 have:=p.hu i hi;unfold pos;split
 ·rfl
 ·rw[show(fP ws).u i - h i=0 by lia]
theorem oB.le(G:Gvn ws ps nd)(A:oB ws nd e q)(p:Pl ws ps e b h):q<=cst ws h:=by
 obtain⟨f,a,pp,g,hp,ha,rfl⟩:=A
 exact p.best G g.flo g.cap
theorem Lot.pl_z(L:Lot ws ps nd bs fs z y)(p:Pl ws ps e b h)(he:0<=e):z<=e:=by
 have hat:∀i:Nat,i<ws.length->at0 (ws.map (·.2.1)) i=(fP ws).l i:=fun i hi=>by
  rw[mP (by simpa using hi),aOi];show _=((ws[i]?).getD (0,0,0)).2.1;rw[bA hi];rfl
 rw[<-L.zz]
 refine L.g.fst L.e (aS _) he p.b0 (fun x hx=>?_) fun i hi=>?_
 ·have h1:=p.ne x hx;have h2:=L.g.inw _ hx;have hi:x.1.toNat<ws.length:=by lia
  have h3:=hat _ hi;rw[b5 h2.1.1]at h3;have:=p.lh _ hi
  lia
 ·have h4:=p.en i hi;have h5:=p.lh i hi;have h6:=hat i hi
  lia
end
end Lib
namespace NF
variable {N:Nt}{f p:Nat->Int}{w:Wk}{n:Nat}{es:List (Nat×Nat)}{P a:Int}
variable{o:Nat×Bool}
theorem Walk.cut:∀{s t:List (Nat×Bool)}{u v:Nat}{e:Nat×Bool},Walk N (s++e::t) u v->Walk N (s++[e]) u (rh N e)
 | [],_,_,_,_,⟨a,b,_⟩=>⟨a,b,rfl⟩
 |_::_,_,_,_,_,⟨a,b,c⟩=>⟨a,b,Walk.cut c⟩
theorem Rte.cut{s t:List (Nat×Bool)}{v:Nat}{e:Nat×Bool}(R:Rte N f p (s++e::t) v):Rte N f p (s++[e]) (rh N e):=by
 have hs:∀x∈s++[e],x∈s++e::t:=fun x hx=>by
  rcases bL.mp hx with h|h
  ·exact aOx _ h
  ·rw[bR.mp h];simp
 refine⟨R.wk.cut,fun x hx=>R.tg x (hs x hx),fun x hx=>R.op x (hs x hx),?_⟩
 have:(0::(s++e::t).map (rh N))=(0::(s++[e]).map (rh N))++t.map (rh N):=by simp
 have h:=R.nd;rw[this]at h
 exact(dO.mp h).1
theorem Rte.on{r:List (Nat×Bool)}(R:Rte N f p r (rt N o))(ho:Open N f o)(tg:p (rt N o)+rd N o=p (rh N o)):∃r',Rte N f p r' (rh N o):=by
 by_cases h:rh N o∈0::r.map (rh N)
 ·rcases bE.mp h with h|h
  ·rw[h];exact⟨[],.nil⟩
  ·obtain⟨e,he,h'⟩:=bM.mp h;obtain⟨s,t,rfl⟩:=List.append_of_mem he;rw[<-h'];exact⟨_,R.cut⟩
 ·exact⟨_,R.snoc ho rfl tg h⟩
noncomputable def five(w:Wk)(i:Nat)(k:Nat):Int:=match k with
 |0=>0
 |1=>w.u i
 |2=>w.l i
 |3=> - w.u i
 |_=> - w.l i
def vals(w:Wk):Nat->List Int
 |0=>[0]
 |n+1=>(vals w n).flatMap fun x=>(bK 5).map fun k=>x+five w n k
theorem aGt:(vals w n).length=5^n:=by
 induction n with
 |zero=>rfl
 |succ n ih=>
  have:∀xs:List Int,(xs.flatMap fun x=>(bK 5).map fun k=>x+five w n k).length=xs.length*5:=fun xs=>by
   induction xs with
   |nil=>rfl
   |cons x xs ih=>rw[List.flatMap_cons,bB,ih,aS,eU,aN];lia
  rw[vals,this,ih,Nat.pow_succ]
theorem aGV{g:Nat->Nat}(hg:∀i,g i<5):sm n (fun i=>five w i (g i))∈vals w n:=by
 induction n with
 |zero=>simp[vals,sm]
 |succ n ih=>exact List.mem_flatMap.mpr ⟨_,ih,bM.mpr ⟨g n,cG.mpr (hg n),rfl⟩⟩
theorem aFq(ho:o.1<(net w n es P).m):rd (net w n es P) o=0\/∃i k,i<n/\k<5/\rd (net w n es P) o=five w i k/\(rt (net w n es P) o=2*i+2/\rh (net w n es P) o=2*i+3\/rt (net w n es P) o=2*i+3/\rh (net w n es P) o=2*i+2):=by
 obtain⟨k,b⟩:=o;unfold rd rt rh;cases pipe ho with
 |src i hi e t h d c=>left;cases b<;>simp_all
 |snk i hi e t h d c=>left;cases b<;>simp_all
 |nee x y j hj e t h d c=>left;cases b<;>simp_all
 |usu i hi e t h d c=>
  right;dsimp only at t h d|-;cases b
  ·exact⟨i,3,hi,by decide,by simp[d,five],.inr ⟨by simp[h],by simp[t]⟩⟩
  ·exact⟨i,1,hi,by decide,by simp[d,five],.inl ⟨by simp[t],by simp[h]⟩⟩
 |lea i hi e t h d c=>
  right;dsimp only at t h d|-;cases b
  ·exact⟨i,4,hi,by decide,by simp[d,five],.inr ⟨by simp[h],by simp[t]⟩⟩
  ·exact⟨i,2,hi,by decide,by simp[d,five],.inl ⟨by simp[t],by simp[h]⟩⟩
theorem aAz:∀{r:List (Nat×Bool)}{u v:Nat},Walk (net w n es P) r u v->(u::r.map (rh (net w n es P))).Nodup->∃g:Nat->Nat,(∀i,g i<5)/\(r.map (rd (net w n es P))).sum=sm n (fun i=>five w i (g i))/\∀i,g i≠0->2*i+2∈(u::r.map (rh (net w n es P)))/\2*i+3∈(u::r.map (rh (net w n es P)))
 | [],u,v,_,_=>⟨fun _=>0,fun _=>(by decide:0<5),(mR fun _ _=>rfl).symm,fun i h=>absurd rfl h⟩
 |o::r,u,v,⟨h1,h2,h3⟩,hn=>by
  rw[aM,bS]at hn;obtain⟨g,g5,gs,gv⟩:=aAz h3 hn.2;rw[aM,eP,aM];rcases aFq h1 with h0| ⟨i,k,hi,hk,hd,hp⟩
  ·exact⟨g,g5,by rw[h0,gs,eG],fun i h=>⟨aU _ (gv i h).1,aU _ (gv i h).2⟩⟩
  ·have z:g i=0:=by
    by_cases h:g i=0
    ·exact h
    ·have:=gv i h;rcases hp with⟨e1,e2⟩| ⟨e1,e2⟩
     ·rw[<-h2,e1]at hn;exact absurd this.1 hn.1
     ·rw[<-h2,e1]at hn;exact absurd this.2 hn.1
   refine⟨fun j=>if j=i then k else g j,fun j=>?_,?_,fun j hj=>?_⟩
   ·dsimp only;split
    ·exact hk
    ·exact g5 j
   ·have e:(fun j=>five w j (if j=i then k else g j))=up (fun j=>five w j (g j)) i (five w i k):=by
     funext j;unfold up;split
     ·rename_i h;rw[h]
     ·rfl
    rw[e,aH2 hi,gs,hd,z];show _=_+(_ - 0)
    lia
   ·dsimp only at hj;by_cases h:j=i
    ·subst h;rcases hp with⟨e1,e2⟩| ⟨e1,e2⟩
     ·rw[<-h2,e1,e2];simp
     ·rw[<-h2,e1,e2];simp
    ·rw[if_neg h]at hj
     exact⟨aU _ (gv j hj).1,aU _ (gv j hj).2⟩
theorem aAG:∀{r:List (Nat×Bool)}{u v:Nat},Walk N r u v->Tight N p r->(r.map (rd N)).sum=p v - p u
 | [],u,v,h,_=>by cases h;simp
 |o::r,u,v,⟨h1,h2,h3⟩,t=>by
  have:=t o (by simp);rw[aM,eP,aAG h3 fun e he=>t e (aU _ he),<-h2]
  lia
theorem Good.vals(G:Good w n es P f a p)(L:Least (net w n es P) (2*n+2) f (fun _=>0) p)(ho:∀k,k<(net w n es P).m->isU n k=false->f k<(net w n es P).c k)(hn:∀e∈es,e.1<n/\e.2<n)(hl:∀i,i<n->0<=w.l i)(h0:0<n):p 1∈vals w n:=by
 obtain⟨r,R⟩:=G.route L ho hn hl h0 (fun v=>∃r,Rte (net w n es P) f p r v) ⟨[],.nil⟩ fun o h1 ⟨r,R⟩ h2=>R.on h1 h2
 obtain⟨g,g5,gs,_⟩:=aAz R.wk R.nd;rw[aAG R.wk R.tg,G.p0,dJ]at gs;rw[gs];exact aGV g5
theorem aCF{α:Type}[DecidableEq α]:∀{xs ys:List α},xs.Nodup->(∀x∈xs,x∈ys)->xs.length<=ys.length
 | [],_,_,_=>cV _
 |x::xs,ys,h,hs=>by
  rw[bS]at h;have hx:=hs x (by simp);have:=aCF (ys:=ys.erase x) h.2 fun y hy=>(aPh fun(z:y=x)=>h.1 (z ▸ hy)).mpr (hs y (aU _ hy))
  rw[d4 hx]at this;have:=aO3 hx;rw[aN];lia
theorem aJb{xs:List Int}(h:xs.Pairwise (· > ·))(hv:∀x∈xs,x∈vals w n):xs.length<=5^n:=by
 rw[<-aGt (w:=w)]
 exact aCF (h.imp fun h=>by lia) hv
end NF
namespace NF
variable {w:Wk}{n:Nat}{es:List (Nat×Nat)}{P:Int}{f p:Nat->Int}{a e e' q x:Int}
variable{Q A:Nat->Int}{i:Nat}
def Seg(w:Wk)(n:Nat)(es:List (Nat×Nat))(P e e' q a:Int):Prop:=∃f m r,Good w n es P f a m/\m 1=e'/\Good w n es P f a r/\r 1=e/\q=len (net w n es P) f - a*e/\a<=sm n w.p
theorem Seg.at_(S:Seg w n es P e e' q a)(h1:e'<=x)(h2:x<=e):∃f p,Good w n es P f a p/\p 1=x/\q+a*(e - x)=len (net w n es P) f - a*x/\a<=sm n w.p:=by
 obtain⟨f,m,r,G,hm,G',hr,rfl,ha⟩:=S;obtain⟨p,Gp,hp⟩:=G.amid G' (e:=x) (by lia) (by lia)
 exact⟨f,p,Gp,hp,by rw[cI];lia,ha⟩
structure Cor(w:Wk)(n:Nat)(es:List (Nat×Nat))(P y:Int)(E Q A:Nat->Int)(k:Nat):Prop where
 e0:E 0=y
 q0:Q 0=0
 a0:A 0=0
 seg:∀i,i<k->Seg w n es P (E i) (E (i+1)) (Q i) (A (i+1))
 fall:∀i,i<k->E (i+1)<E i
 dear:∀i,i<k->A i<A (i+1)
 price:∀i,i<k->Q (i+1)=Q i+A (i+1)*(E i - E (i+1))
 val:∀i,i<k->E (i+1)∈vals w n
theorem Cor.falls{y:Int}{E:Nat->Int}{k:Nat}(C:Cor w n es P y E Q A k):∀{j i:Nat},i<j->j<=k->E j<E i
 |0,i,h,_=>by lia
 |j+1,i,h,hk=>by
  have:=C.fall j (by lia);by_cases hj:i=j
  ·rw[hj];exact this
  ·have:=C.falls (j:=j) (i:=i) (by lia) (by lia);lia
theorem Cor.le{y:Int}{E:Nat->Int}{k:Nat}(C:Cor w n es P y E Q A k)(h:i<=k):E i<=y:=by
 rw[<-C.e0];rcases eJ i with z|z
 ·rw[z];exact bP _
 ·exact d0 (C.falls z h)
theorem Cor.ge{y:Int}{E:Nat->Int}{k:Nat}(C:Cor w n es P y E Q A k)(h:i<=k):E k<=E i:=by
 rcases aOo h with z|z
 ·exact d0 (C.falls z (bD _))
 ·rw[z];exact bP _
theorem Cor.seg_of{y:Int}{E:Nat->Int}{k:Nat}(C:Cor w n es P y E Q A k){x:Int}(h2:x<=E 0):∀{m:Nat},m<=k->E m<=x->x=E 0\/∃j,j<k/\E (j+1)<=x/\x<=E j
 |0,_,h=>.inl (by lia)
 |m+1,hm,h=>by
  by_cases hc:E m<=x
  ·exact C.seg_of h2 (m:=m) (by lia) hc
  ·exact .inr ⟨m,hm,h,by lia⟩
theorem Cor.count{y:Int}{E:Nat->Int}{k:Nat}(C:Cor w n es P y E Q A k):k<=5^n:=by
 have:=aJb (w:=w) (n:=n) (xs:=(bK k).map fun i=>E (i+1)) ?_ fun x hx=>?_
 ·simpa using this
 ·refine aOO.mpr fun i j hi hj ko=>?_
  simp only[aS,eU]at hi hj;simp only[aOi,eA]
  exact C.falls (by lia) (by lia)
 ·obtain⟨i,hi,rfl⟩:=bM.mp hx
  exact C.val i (cG.mp hi)
theorem Cor.more{y:Int}{E:Nat->Int}{k:Nat}(C:Cor w n es P y E Q A k)(S:Seg w n es P (E k) e (Q k) a)(hf:e<E k)(ha:A k<a)(hv:e∈vals w n):Cor w n es P y (up E (k+1) e) (up Q (k+1) (Q k+a*(E k - e))) (up A (k+1) a) (k+1):=by
 have l:∀{i:Nat}{g:Nat->Int}{v:Int},i<=k->up g (k+1) v i=g i:=fun h=>uY (by lia)
 refine⟨by rw[l (by lia)];exact C.e0,by rw[l (by lia)];exact C.q0,by rw[l (by lia)];exact C.a0,fun i hi=>?_,fun i hi=>?_,fun i hi=>?_,fun i hi=>?_,fun i hi=>?_⟩<;>by_cases h:i=k
 ·subst h;rw[jR,jR,l (bD _),l (bD _)];exact S
 ·rw[l (by lia),l (by lia),l (by lia),l (by lia)];exact C.seg i (by lia)
 ·subst h;rw[jR,l (bD _)];exact hf
 ·rw[l (by lia),l (by lia)];exact C.fall i (by lia)
 ·subst h;rw[jR,l (bD _)];exact ha
 ·rw[l (by lia),l (by lia)];exact C.dear i (by lia)
 ·subst h;rw[jR,jR,jR,l (bD _),l (bD _)]
 ·rw[l (by lia),l (by lia),l (by lia),l (by lia),l (by lia)];exact C.price i (by lia)
 ·subst h;rw[jR];exact hv
 ·rw[l (by lia)];exact C.val i (by lia)
theorem aD4(hf:Flo (net w n es P) f a):(sm (net w n es P).m fun k=>if(net w n es P).t k=0 then f k else 0)=a:=by
 have:=hf fun v=>if v=0 then 0 else 1
 simp only[Nat.one_ne_zero,if_true,if_false,dJ,aPE]at this;rw[<-this]
 refine jX fun k hk=>?_
 have hh:(net w n es P).h k≠0:=by
  cases pipe hk with
  |src i hi e t h d c=>rw[h];lia
  |usu i hi e t h d c=>rw[h];lia
  |lea i hi e t h d c=>rw[h];lia
  |snk i hi e t h d c=>rw[h];lia
  |nee x y i hi e t h d c=>rw[h];lia
 rw[if_neg hh];split<;>simp
end NF
namespace Lib
open PySem L2 TL NF
variable{w:Wk}{es:List (Nat×Nat)}{P z:Int}{c:Nat}{Q:T->Sto->Prop}{ws:List (Int×Int×Int)}{ps:List (Int×Int)}{nd:List (List Int)}{bs fs:List Int}
theorem y7{n:Nat}(W:Wel w n es P){f p:Nat->Int}{a:Int}{C:Sto}(A:gS (net w n es P) f c (2*n+2:Nat) C)(G:Good w n es P f a p)(L:Least (net w n es P) (2*n+2) f (fun _=>0) p)(hb:sm (2*n+2) p<10^199)
 (q:∀x,Q (.int (p 1)) (C++[x])):wpO (kD [.cell c] C) Q:=by
 refine iN ?_
 unfold oC;walk_at "b"
 refine iJ.mpr (fK.mpr (jI (e9.mpr ⟨_,rfl,jZ A.net rfl,fB.mpr (gL.mpr (fH.mpr ⟨rfl,moments0 W A G hb fun p' L' G' h'=>gL.mpr ?_⟩))⟩)))
 have e:p' 1=p 1:=aOB (h' 1 (by lia)) (L.le p' (fun v hv=>G'.ge v hv) G'.pot 1 (by lia))
 refine kQ.mpr ⟨kH (2*n+2) p',f9.mpr (by simp),_,aBu (v:=1) (by lia),?_⟩
 rw[e];exact q _
theorem rZ{n:Nat}{g:Nat->Int}{b:Nat->Bool}:(((bK n).filter b).map g).sum=sm n fun k=>if b k=true then g k else 0:=by
 induction n with
 |zero=>rfl
 |succ n ih=>
  rw[aPa,List.filter_append,bQ,aOD,ih];show _=sm n _+_;congr 1;cases h:b n<;>simp[h]
theorem t9{n:Nat}{f:Nat->Int}{a:Int}{C:Sto}(A:gS (net w n es P) f c (2*n+2:Nat) C)(hm:(net w n es P).m<40000)(hf:Flo (net w n es P) f a)(q:Q (.int a) C):wpO (j6 [.cell c] C) Q:=by
 have hfl:oQ "Net" "pipes" C (.cell c)=some (.cell (c+1)):=kZ A.net rfl;have hl:lc C (c+1)=some ((bK (net w n es P).m).map fun j=>.cell (pc c (j,true))):=f9.mpr A.lst
 refine iN ?_
 unfold sH;walk_at "b"
 refine iJ.mpr (fV.mpr (fB.mpr (gA.mpr (jF.mpr (fR (iV rfl hfl) ⟨_,hl,by simp[lim];lia,?_⟩)))))
 refine rH (xs:=bK (net w n es P).m) (en:=fun j=>T.cell (pc c (j,true))) (fun j=>decide ((net w n es P).t j=0)) (fun j=>T.int (f j)) (fun j hj=>?_) ?_
 ·have hj:=cG.mp hj;have h1:=(A.fld (o:=(j,true)) hj).1;have h2:=(A.fld (o:=(j,true)) hj).2.2.2.2;have h3:=(A.fld (o:=(j,false)) hj).2.2.2.1
  refine gB.mpr (g8.mpr (fK.mpr (fR (iV (t:=.cell (pc c (j,true))) rfl h1) (gL.mpr (wF.mpr ⟨_,rfl,rfl,?_,fun _=>v7.mpr (fR (iV (t:=.cell (pc c (j,true))) rfl h2) ⟨_,h3,rfl,rfl⟩)⟩)))))
  exact decide_eq_decide.mpr (by show((rt (net w n es P) (j,true):Nat):Int)=0↔rt (net w n es P) (j,true)=0;lia)
 ·refine fH.mpr ?_
  refine lQ.mpr ⟨_,rfl,_,lT,rfl,?_⟩
  rw[rZ];simp only[decide_eq_true_eq];rw[aD4 hf]
  exact q
theorem Lot.free_min{y:Int}(L:Lot ws ps nd bs fs z y){a:Int}{q:Nat->Int}(G:Good (fP ws) ws.length (iA 0 nd) (plenty ws 0) (fun _=>0) a q):y<=q 1:=by
 have W:=L.g.wel (bonus:=0) (by decide);have ha:=aGF G.flo;have jt:0<=sm ws.length (fP ws).p:=mK fun i hi=>(nZ (P:=p8) L.g.ok hi).2.2.1
 obtain⟨q1,q2,q3,q4⟩:=aBq G.pot (W.open G (by have:=W.pP;lia)) G.p0 W.ein;have ij:∀i:Nat,i<ws.length->at0 (ws.map kA) i<=q (2*i+3) - q (2*i+2):=fun i hi=>by
  rw[wB hi];have h1:=q2 i hi;split
  ·lia
  ·rename_i hp;have dm:=(nZ (P:=p8) L.g.ok hi).2.2.1;have hm:4*i+1<(net (fP ws) ws.length (iA 0 nd) (plenty ws 0)).m:=by show _<4*ws.length+_;lia
   have h2:=(G.pot _ hm).1;cases pipe hm with
   |src j hj e=>lia
   |lea j hj e=>lia
   |snk j hj e=>lia
   |nee x y j hj e=>lia
   |usu j hj e t h d c=>
    have:j=i:=by lia
    subst this;rw[t,h,d,c]at h2;have:=h2 (by have:0<=(fP ws).p j:=dm;lia)
    lia
 rw[<-L.yy]
 refine L.g.fst L.f (by simp) (B:=fun i=>q (2*i+2)) (G.ge 1 (by lia)) (fun i hi=>G.ge _ (by lia)) (fun x hx=>?_) fun i hi=>?_
 ·have h1:=q4 _ (aBK L.g.inw L.g.ndd hx);have h2:=L.g.inw _ hx;have h3:=ij x.1.toNat (by lia);rw[b5 h2.1.1]at h3;dsimp only at h1|-
  lia
 ·have h3:=ij i hi;have:=q3 i hi
  lia
def lS(E Q:Nat->Int)(k:Nat)(r:Nat->Nat)(c:Nat)(C:Sto):Prop:=C[c]?=some (.l,(bK (k+1)).map fun i=>.cell (r i))/\∀i,i<=k->C[r i]?=some (.l,[.int (E i),.int (Q i)])
theorem aDn{y:Int}(L:Lot ws ps nd bs fs z y):
 ∃k E q A r Cn,kW [.lst (ws.map w3),.lst (ps.map pT)]=some (.cell 1,Cn)/\lS E q k r 1 Cn/\(∀i j,i<=k->j<=k->r i=r j->i=j)/\(∀i,i<=k->r i≠1)/\Cor (fP ws) ws.length (iA 0 nd) (plenty ws 0) y E q A k/\E k=z:=by
 have G:=L.g;have hn:=G.l8;have xa:=L.z0;have hzy:=L.zy;have hyb:=L.yb;have W:=G.wel (bonus:=0) (by decide);obtain⟨_,p0,G0,hb,jt⟩:=G.free L.f (bonus:=0) (by decide);rw[L.yy]at jt;have ox:=K42.aHV (ws:=ws) (ps:=ps);have h:wpO (kW [.lst (ws.map w3),.lst (ps.map pT)]) fun t Cn=>∃k E q A r,t=.cell 1/\lS E q k r 1 Cn/\(∀i j,i<=k->j<=k->r i=r j->i=j)/\(∀i,i<=k->r i≠1)/\Cor (fP ws) ws.length (iA 0 nd) (plenty ws 0) y E q A k/\E k=z:=by
  refine aAF ?_
  unfold aAo;walk_at "b"
  refine sqA (t:=.int z) (fV.mpr (fB.mpr (e9.mpr ⟨_,rfl,fB.mpr (e9.mpr ⟨_,rfl,fH.mpr ((gC L.le rfl ox).mpr ⟨rfl,rfl⟩)⟩)⟩))) ?_
  refine sqA (t:=.int y) (fV.mpr (fB.mpr (e9.mpr ⟨_,rfl,fB.mpr (e9.mpr ⟨_,rfl,fH.mpr ((gC L.fe rfl ox).mpr ⟨rfl,rfl⟩)⟩)⟩))) ?_
  refine sqA (t:=.int 0) (gL.mpr ⟨rfl,rfl⟩) ?_
  dsimp only[b4]
  refine fJ.mpr (f6.mpr (jN.mpr (hV.mpr (fB.mpr (jN.mpr (hV.mpr (fB.mpr (e9.mpr ⟨_,rfl,fB.mpr (e9.mpr ⟨_,rfl,fH.mpr ⟨by simp[lim],fH.mpr ⟨by simp[lim],gB.mpr (fW.mpr ?_)⟩⟩⟩)⟩))))))))
  dsimp only[b4,aZ,aW,aP,aN]
  refine fJ.mpr (f6.mpr (sV (fB.mpr (e9.mpr ⟨_,rfl,fB.mpr (e9.mpr ⟨_,rfl,fH.mpr ⟨rfl,?_⟩⟩)⟩))))
  refine yO (nd:=nd) G.l8 G.pl G.inw G.need G.ndd fun C1 P1=>⟨rfl,gB.mpr (fW.mpr (fJ.mpr ?_))⟩
  dsimp only[b4,aP,aN];have A1:gS (hJ ws nd 0) (fun _=>0) 2 (2*ws.length+2:Nat) C1:=by
   have:=P1.at;rw[show((2*ws.length+2:Nat):Int)=2*(ws.length:Int)+2 by lia];exact this
  refine sF (fun m τ C'=>∃k E q A r x f p,τ=[some (.lst (ws.map w3)),some (.lst (ps.map pT)),some (.int z),some (.int (E k)),some (.int (q k)),some (.cell 1),some (.cell 2),x]/\lS E q k r 1 C'/\(∀i j,i<=k->j<=k->r i=r j->i=j)/\(∀i,i<=k->r i=0\/4+2*(hJ ws nd 0).m<=r i)/\Cor (fP ws) ws.length (iA 0 nd) (plenty ws 0) y E q A k/\
   gS (hJ ws nd 0) f 2 (2*ws.length+2:Nat) C'/\Good (fP ws) ws.length (iA 0 nd) (plenty ws 0) f (A k) p/\p 1=E k/\(∀a p',Good (fP ws) ws.length (iA 0 nd) (plenty ws 0) f a p'->E k<=p' 1)/\sm (2*ws.length+2) p<10^199/\0<=A k/\A k<=sm ws.length (fP ws).p/\q k=len (hJ ws nd 0) f - A k*E k/\z<=E k/\E k<=y/\E k - z<=(m:Int)) (m:=(y - z).toNat) ?_ ?_ ?_
  ·exact dW (show(y - z).toNat<=8*2^252 by lia) (by decide)
  ·refine⟨0,fun _=>y,fun _=>0,fun _=>0,fun _=>0,none,fun _=>0,p0,rfl,⟨?_,fun i hi=>?_⟩,fun i j hi hj _=>by lia,fun i _=>.inl rfl,⟨rfl,rfl,rfl,fun i hi=>by lia,fun i hi=>by lia,fun i hi=>by lia,fun i hi=>by lia,fun i hi=>by lia⟩,A1,G0,jt,fun a p' G'=>L.free_min G',aO4 hb (by decide),bP _,mK fun i hi=>(nZ (P:=p8) G.ok hi).2.2.1,?_,hzy,bP _,by lia⟩
   ·rw[P1.pre 1 (by simp)];rfl
   ·rw[P1.pre 0 (by simp)];rfl
   ·show(0:Int)=sm _ _ - 0*y;rw[mR fun k _=>dI _];simp
  ·rintro m τ C' ⟨k,E,q,A,r,x,f,p,rfl,⟨xq,rp⟩,me,dm,hC,A',Gf,xw,cc,di,kq,ha1,hq,hzE,hEy,sk⟩
   refine g8.mpr (fK.mpr (e9.mpr ⟨_,rfl,e9.mpr ⟨_,rfl,jH.mpr ⟨_,rfl,?_⟩⟩⟩))
   by_cases bi:z<E k
   ·rw[if_pos (decide_eq_true bi)];have lx:0<ws.length:=by
     rcases eJ ws.length with h0|h0
     ·have fm:ws=[]:=d9.mp h0;have hy:=L.yy;rw[fm]at hy;have:y=0:=by
       rw[<-hy];have:=L.f.len;rw[fm]at this;rw[d9.mp (this.trans rfl)];rfl
      lia
     ·exact h0
    unfold uX
    refine fJ.mpr (mW.mpr (jI (e9.mpr ⟨_,rfl,jZ A'.net rfl,fB.mpr (fK.mpr (e9.mpr ⟨_,rfl,gL.mpr (jH.mpr (fH.mpr ⟨rfl,?_⟩))⟩))⟩)))
    refine aJg W (G.tim L.e) (e:=E k - 1) (by rw[L.zz];lia) (by lia) Gf ha1 kq di A' fun f2 p2 a2 C2 F uc oz A2 ai ij=>?_
    obtain⟨yg,q2,Gq,hq1,hq2⟩:A k<a2/\∃q,Good (fP ws) ws.length (iA 0 nd) (plenty ws 0) f2 a2 q/\E k - 1<q 1/\∀v,v<2*ws.length+2->q v<=p v:=by
     rcases F.how with h1|h1
     ·have h2:=F.good;rw[h1]at h2;have h3:=cc _ _ h2;have h4:=F.ready
      lia
     ·exact h1
    have hqE:q2 1=E k:=by have:=hq2 1 (by lia);lia
    have ho:=W.open F.good (dA uc W.pP);have xj:=F.good.vals F.least ho W.ein W.l0 lx;have rj:sm (2*ws.length+2) p2<10^199:=dA (tT F.le) di;have xp:=F.ready;obtain⟨b,hh,Pn,_⟩:=oB.plan G ⟨f2,a2,p2,F.good,rfl,uc,rfl⟩;have wz:=L.pl_z Pn (F.good.ge 1 (by lia));have hqk:q k=len (hJ ws nd 0) f2 - a2*E k:=by rw[hq];exact yW Gf Gq xw hqE
    have hS:Seg (fP ws) ws.length (iA 0 nd) (plenty ws 0) (E k) (p2 1) (q k) a2:=⟨f2,p2,q2,F.good,rfl,Gq,hqE,hqk,uc⟩;have kr:=hC.more hS (by lia) yg xj
    refine fW.mpr (fJ.mpr (f6.mpr (jI (e9.mpr ⟨_,rfl,jZ A2.net rfl,fH.mpr ⟨rfl,y7 W A2 F.good F.least rj fun xm=>gB.mpr (fW.mpr ?_)⟩⟩))))
    dsimp only[b4];have hlen2:4+2*(hJ ws nd 0).m<=C2.length:=A2.len;have A3:gS (hJ ws nd 0) f2 2 (2*ws.length+2:Nat) (C2++[xm]):=A2.app A2.len
    refine fJ.mpr (f6.mpr (fK.mpr (e9.mpr ⟨_,rfl,fK.mpr (jI (e9.mpr ⟨_,rfl,jZ A3.net rfl,fH.mpr ⟨rfl,t9 A3 W.m F.good.flo (fK.mpr (e9.mpr ⟨_,rfl,e9.mpr ⟨_,rfl,jH.mpr (mZ.mpr ⟨?_,jH.mpr (gB.mpr (fW.mpr ?_))⟩)⟩⟩))⟩⟩))⟩)))
    ·have hsP:=G.sP
     exact yN (Bt.of_lt (k:=256) (by lia) (by lia)) (Bt.of_lt (k:=256) (by lia) (by lia)) (by decide)
    dsimp only[b4]
    refine sqA (t:=.int (p2 1)) (e9.mpr ⟨_,rfl,rfl,rfl⟩) ?_
    dsimp only[b4];have yz:1<C'.length:=(aR.mp xq).1;have hc1:C2[1]?=some (.l,(bK (k+1)).map fun i=>.cell (r i)):=by rw[ij 1 yz (.inl (by decide)),xq]
    have dj:∀i,i<=k->r i<C'.length:=fun i hi=>(aR.mp (rp i hi)).1
    have tf:k+1<=390625:=cA kr.count (dY (by decide) hn)
    refine o9.mpr (e9.mpr ⟨_,rfl,fB.mpr (jN.mpr (hV.mpr (fB.mpr (e9.mpr ⟨_,rfl,fB.mpr (e9.mpr ⟨_,rfl,fH.mpr ⟨by simp[lim],fH.mpr ⟨1,rfl,?_,(bK (k+1)).map fun i=>.cell (r i),f9.mpr ?_,pQ.mpr ⟨?_,?_⟩⟩⟩⟩)⟩))))⟩)
    ·rw[f9.mpr (show(C2++[xm])[1]?=some (.l,_)by rw[aT (by lia)];exact hc1)];rfl
    ·rw[aT (by rw[bB];lia),aT (by lia)];exact hc1
    ·simp[lim];lia
    generalize hD:C2++[xm]++[(Kd.l,[T.int (p2 1),T.int (q k+a2*(E k - p2 1))])]=D;have hDl:D.length=C2.length+2:=by rw[<-hD];simp
    have hd:(C2++[xm]).length=C2.length+1:=by simp
    have hDo:∀i,i<C2.length->D[i]?=C2[i]?:=fun i hi=>by rw[<-hD,aT (by rw[hd];lia),aT hi]
    have hDn:D[C2.length+1]?=some (.l,[T.int (p2 1),T.int (q k+a2*(E k - p2 1))]):=by rw[<-hD,<-hd];simp
    rw[hd];have hle:∀{i:Nat}{g:Nat->Int}{v:Int},i<=k->up g (k+1) v i=g i:=fun h=>uY (by lia)
    refine⟨(p2 1 - z).toNat,by lia,k+1,up E (k+1) (p2 1),up q (k+1) (q k+a2*(E k - p2 1)),up A (k+1) a2,fun i=>if i=k+1 then C2.length+1 else r i,_,f2,p2,by rw[jR,jR],⟨?_,fun i hi=>?_⟩,fun i j hi hj e=>?_,fun i hi=>?_,kr,?_,by rw[jR];exact F.good,by rw[jR],fun a p' G'=>by rw[jR];exact F.least.le p' (fun v hv=>G'.ge v hv) G'.pot 1 (by lia),rj,by rw[jR];lia,by rw[jR];exact uc,by rw[jR,jR,jR,hqk,cI];lia,by rw[jR];exact wz,by rw[jR];lia,by rw[jR];lia⟩
    ·rw[bO (by lia),aPa (n:=k+1),bQ];congr 3
     ·refine cR fun i hi=>?_
      have:=cG.mp hi;dsimp only;rw[if_neg (by lia)]
     ·simp
    ·dsimp only;split
     ·rename_i h;subst h;rw[aQ (by lia),hDn,jR,jR]
     ·have tt:i<=k:=by lia
      have:=dj i tt;have h3:=dm i tt;rw[aQ (by lia),hDo _ (by lia),ij _ this (h3.elim (fun h=>.inl (by lia)) .inr),rp i tt,hle tt,hle tt]
    ·dsimp only at e;split at e
     ·split at e
      ·lia
      ·have:=dj j (by lia);lia
     ·split at e
      ·have:=dj i (by lia);lia
      ·exact me i j (by lia) (by lia) e
    ·dsimp only;split
     ·right;lia
     ·exact dm i (by lia)
    ·refine A2.mono fun i h1 h2=>?_
     rw[aQ (by lia),hDo i (bN h2 A2.len)]
   ·rw[if_neg (by simpa using bi)]
    refine fW.mpr (iJ.mpr (e9.mpr ⟨_,rfl,k,E,q,A,r,rfl,⟨xq,rp⟩,me,fun i hi=>?_,hC,by lia⟩))
    have:=dm i hi
    lia
 obtain⟨_,Cn,e1,k,E,q,A,r,rfl,h1⟩:=h
 exact⟨k,E,q,A,r,Cn,e1,h1⟩
end Lib
namespace K42
open PySem L2 TL Lib NF
theorem aNE{ws:List (Int×Int×Int)}:dr 3 C (T.lst (ws.map w3))=some (.lst (ws.map w3)):=iD (by rw[gK,r9])
theorem aOd{ps:List (Int×Int)}:dr 3 C (T.lst (ps.map pT))=some (.lst (ps.map pT)):=iD (by rw[gK,lU])
end K42
namespace K51
open PySem L2 TL Lib
end K51
namespace K51
open PySem L2 TL Lib NF
noncomputable def fd(E Q:Nat->Int)(k:Nat):List (List Int):=(bK (k+1)).map fun i=>[E i,Q i]
section
variable {w:Wk}{n:Nat}{es:List (Nat×Nat)}{P y z:Int}{E Q A:Nat->Int}{k:Nat}
theorem aKZ{i:Nat}(h:i<=k){j:Int}(hj:j=i):atI ((fd E Q k).map iT) j=some (iT [E i,Q i]):=by
 rw[hj,qS,bH,fd,bH,dQ (by lia)];rfl
theorem ix2m{τ:TSt}{C:Sto}{a k:Nat}{l row:List T}{i j:Int}{r v:T}(h0:τ[a]?=some (some (.lst l)))(hk:τ[k]?=some (some (.int i)))(hl:atI l (i - 1)=some r)(hr:sqT C r=some row)(hv:atI row j=some v):fIx (fIx (iY a) (mL (iY k) (fI 1))) (fC (.int j)) τ C=some (v,C):=
 r6 (fK.mpr (fK.mpr (e9.mpr ⟨_,h0,fK.mpr (e9.mpr ⟨_,hk,gL.mpr (jH.mpr (kQ.mpr ⟨_,rfl,_,hl,gL.mpr (kQ.mpr ⟨_,hr,_,hv,rfl,rfl⟩)⟩))⟩)⟩)))
theorem aDX:(fd E Q k).length=k+1:=by simp[fd]
theorem aE9{τ:TSt}{a:Nat}{x y:Int}(h:τ[a]?=some (some (iT [x,y]))):wpB (lO (i8 (j9 (p6 "list" (iY a)))) (lO (hZ (fNe (mD (e7 (iY a) fG)) (fI 2))) (lO (i8 (j9 (f7 1 jV (e7 (fIx (iY a) (fI 0)) fG)))) (i8 (j9 (f7 1 jV (e7 (fIx (iY a) (fI 1)) fG))))))) τ [] fun b C=>b=false/\C=[]:=by
 refine m7.mpr (kG.mpr (jO.mpr (tK.mpr (e9.mpr ⟨_,h,true,rfl,true,rfl,?_⟩))))
 rw[if_neg (by simp)]
 refine m7.mpr (g8.mpr (fK.mpr (fV.mpr (fB.mpr (e9.mpr ⟨_,h,fH.mpr (lP.mpr ⟨_,rfl,gL.mpr (sI.mpr ⟨_,rfl,?_⟩)⟩)⟩)))))
 rw[if_neg (by simp)]
 refine m7.mpr (kG.mpr (jO.mpr (fV.mpr (fB.mpr (fR (K42.ix1 h rfl rfl) (fH.mpr (rB.mpr ⟨true,rfl,?_⟩)))))))
 rw[if_neg (by simp)]
 exact kG.mpr (jO.mpr (fV.mpr (fB.mpr (fR (K42.ix1 h rfl rfl) (fH.mpr (rB.mpr ⟨true,rfl,rfl,rfl⟩))))))
end
end K51
namespace K51
open PySem L2 TL Lib NF
section
variable {ws:List (Int×Int×Int)}{ps:List (Int×Int)}{nd:List (List Int)}{bs fs:List Int}{z y:Int}{E Q A:Nat->Int}{k:Nat}
variable{i:Nat}
theorem aIk{r:Nat->Nat}{Cn:Sto}(h:lS E Q k r 1 Cn)(hr:∀i,i<=k->r i≠1):K42.lS Cn 1 ((bK (k+1)).map r) (fd E Q k):=by
 refine⟨by rw[h.1,b6];rfl,by simp[fd],fun i c l hc hl=>?_⟩
 rw[bH]at hc;obtain⟨j,hj,rfl⟩:=aL.mp hc;obtain⟨uz,tj⟩:=aR.mp hj;simp only[eU]at uz;rw[eA]at tj;subst tj;rw[fd,bH,dQ uz]at hl;cases hl
 exact⟨h.2 i (by lia),hr i (by lia)⟩
theorem aEa(C:Cor (fP ws) ws.length (iA 0 nd) (plenty ws 0) y E Q A k):∀{i:Nat},i<=k->0<=A i
 |0,_=>by rw[C.a0];exact bP _
 |i+1,h=>by have:=C.dear i (by lia);have:=aEa C (i:=i) (by lia);lia
theorem aAr(L:Lot ws ps nd bs fs z y)(C:Cor (fP ws) ws.length (iA 0 nd) (plenty ws 0) y E Q A k)(hi:i<k){x:Int}(h1:E (i+1)<=x)(h2:x<=E i):oB ws nd x (Q i+A (i+1)*(E i - x)):=by
 obtain⟨f,p,G,hp,e,ha⟩:=(C.seg i hi).at_ h1 h2
 exact⟨f,_,p,G,hp,ha,e⟩
theorem aDu(L:Lot ws ps nd bs fs z y):oB ws nd y 0:=by
 obtain⟨_,p0,G0,hb,jt⟩:=L.g.free L.f (bonus:=0) (by decide);rw[L.yy]at jt
 refine⟨_,_,p0,G0,jt,mK fun i hi=>(nZ (P:=p8) L.g.ok hi).2.2.1,?_⟩
 show(0:Int)=sm _ _ - 0*y;rw[mR fun k _=>dI _];simp
theorem aG3(L:Lot ws ps nd bs fs z y)(C:Cor (fP ws) ws.length (iA 0 nd) (plenty ws 0) y E Q A k)(hi:i<=k):oB ws nd (E i) (Q i):=by
 cases i with
 |zero=>rw[C.e0,C.q0];exact aDu L
 |succ i=>rw[C.price i hi];exact aAr L C hi (bP _) (d0 (C.fall i hi))
theorem aIJ(C:Cor (fP ws) ws.length (iA 0 nd) (plenty ws 0) y E Q A k)(hi:i<k):A (i+1)<=sm ws.length (fP ws).p:=by
 obtain⟨_,_,_,_,_,_,_,_,h⟩:=C.seg i hi
 exact h
end
end K51
namespace TL
open PySem L2
end TL
namespace TL
open PySem L2
section
variable {K:aO}{W:XW}{H:Hp}{σ:L2.St}{D:Ends}
end
end TL
namespace K54
open PySem L2 TL Lib
def oO:FS:=
 (fIf (lO (i8 (j9 (p6 "list" Y1))) (lO (hZ (fNe (mD (e7 Y1 fG)) (fI 2))) (lO (i8 (j9 (f7 1 jV (e7 (fIx Y1 (fI 0)) fG)))) (i8 (j9 (f7 1 jV (e7 (fIx Y1 (fI 1)) fG))))))) (gF (fC (.bl false))) iE)
def q9:FS:=
 (fM (fIf (lO (i8 (j9 (p6 "list" Y0))) (hZ (fEq Y0 (fS (gE fG))))) (gF (fC (.bl false))) iE)
  (fM (oR Y0 (gN 1)
   oO)
  (gF (fC (.bl true)))))
def oU:List T->Option T:=iX q9 2
end K54
namespace TL
open PySem L2
end TL
namespace K54
open PySem L2 TL Lib NF K51
theorem aGz{E Q:Nat->Int}{k:Nat}:oU [.lst ((fd E Q k).map iT)]=some (.bl true):=by
 apply iW;unfold q9;walk_at "b"
 refine fJ.mpr (mE.mpr (m7.mpr (kG.mpr (jO.mpr (tK.mpr (e9.mpr ⟨_,rfl,true,rfl,true,rfl,?_⟩))))))
 rw[if_neg (by simp)]
 refine g8.mpr (fK.mpr (e9.mpr ⟨_,rfl,gA.mpr (hV.mpr (fH.mpr ⟨by decide,?_⟩))⟩))
 refine(vU (f:=fun xs:List (List Int)=>T.lst (xs.map iT)) (x:=fd E Q k) (y:=[]) (fun _ _=>rD fun _ _=>aGL) (iD (by rw[gK];exact aIf)) (iD rfl)).mpr ⟨_,rfl,?_⟩
 rw[if_neg (by simp[fd])]
 refine gY.mpr (fW.mpr (fJ.mpr (nK.mpr (e9.mpr ⟨_,rfl,_,rfl,?_⟩))))
 refine j0 (xs:=fd E Q k) (en:=iT) (fun j τ C=>C=[]/\∃a,τ=[some (.lst ((fd E Q k).map iT)),a]) ⟨rfl,_,rfl⟩ ?_ ?_
 ·rintro j r τ _ hj ⟨rfl,a,rfl⟩;obtain⟨i,hi,rfl⟩:=bM.mp (bF hj);unfold oO
  refine gB.mpr ?_
  dsimp only[b4]
  refine ifF (aE9 (a:=1) rfl) (gY.mpr ⟨trivial,rfl,_,rfl⟩)
 rintro τ _ ⟨rfl,a,rfl⟩
 exact fW.mpr (iJ.mpr (gL.mpr (iD l6)))
section
variable {ws:List (Int×Int×Int)}{ps:List (Int×Int)}{nd:List (List Int)}{bs fs:List Int}{z y bd:Int}
end
end K54
namespace K55
open PySem L2 TL Lib
def oM:FS:=
 (fM (fY (mL (fIx (fIx Y0 Y3) (fI 1)) (fIx (fIx Y0 (mL Y3 (fI 1))) (fI 1))) (gN 4))
  (qJ Y2 (e7 (aAe Y4 (aGT (e7 (fI 1) (e7 (mL (fIx (fIx Y0 (mL Y3 (fI 1))) (fI 0)) (fIx (fIx Y0 Y3) (fI 0))) fG)))) fG)))
def rL:FS:=
 (fM (fY (i0 (gE (e7 (fI 1) fG))) (gN 2))
  (fM (pI (fI 1) (mD (e7 Y0 fG)) (gN 3)
   oM)
  (fM (fY (fIx Y2 (jK (pR Y1 (fI 8)) (mD (e7 Y2 fG)))) (gN 5))
  (gF (fIx (fS (gE (e7 Y5 (e7 (mL Y5 (fI 1)) (e7 (jY Y5 (fI 1)) (e7 Y5 (e7 (lH (jK Y1 (aJp (fI 10) (fI 60))) (jK (jK (pR Y1 (fI 8)) (fI 3)) (fI 2))) fG))))))) (jK Y1 (fI 5)))))))
def nQ:List T->Option T:=iX rL 6
def nF:FS:=
 (gF (jY (fIx Y0 (fI 1)) (lH Y1 (fIx Y0 (fI 0)))))
def k6:List T->Option T:=iX nF 2
def oE:FS:=
 (gF (aAk (e7 (fS (jE Y0 1 [1] (gN 0) iB (f7 2 k6 (e7 Y0 (e7 Y1 fG))))) fG)))
def lJ:List T->Option T:=iX oE 2
def pL:FS:=
 (gF (f7 2 lJ (e7 (tZ 2 kW (e7 Y0 (e7 Y1 fG))) (e7 Y2 fG))))
def nT:List T->Option T:=iX pL 3
end K55
namespace K51
open PySem L2 TL Lib NF
structure Crn(ws:List (Int×Int×Int))(ps:List (Int×Int))(nd:List (List Int))(z y:Int)(k:Nat)(E q A:Nat->Int)(r:Nat->Nat)(D:Sto):Prop where
 cor:Cor (fP ws) ws.length (iA 0 nd) (plenty ws 0) y E q A k
 e:E k=z
 k5:k<=390625
 at_:lc D 1=some ((bK (k+1)).map fun i=>T.cell (r i))
 row:∀i,i<=k->lc D (r i)=some [.int (E i),.int (q i)]
 dr:dr 3 D (.cell 1)=some (.lst ((fd E q k).map iT))
 call:∀{i j:Nat}{τ:TSt}{Q:T->Sto->Prop},τ[i]?=some (some (.lst (ws.map w3)))->τ[j]?=some (some (.lst (ps.map pT)))->Q (.cell 1) D->wpE (tZ 2 kW (e7 (iY i) (e7 (iY j) fG))) τ [] Q
section
variable {ws:List (Int×Int×Int)}{ps:List (Int×Int)}{nd:List (List Int)}{bs fs:List Int}{z y be:Int}{k:Nat}{E q A:Nat->Int}{r:Nat->Nat}{D:Sto}
theorem crn(L:Lot ws ps nd bs fs z y):∃k E q A r D,Crn ws ps nd z y k E q A r D:=by
 obtain⟨k,E,q,A,r,Cn,eC,hR,me,ay,C,hEz⟩:=aDn L;have R0:=(aIk hR ay).sh (C:=[]);have tf:k<=390625:=cA C.count (dY (by decide) L.g.l8)
 refine⟨k,E,q,A,fun i=>0+r i,_,C,hEz,tf,?_,fun i hi=>?_,R0.dr,fun h1 h2 h3=>fV.mpr (fB.mpr (e9.mpr ⟨_,h1,fB.mpr (e9.mpr ⟨_,h2,fH.mpr ((K42.aAK eC rfl K42.aHV).mpr h3)⟩)⟩))⟩
 ·have:=f9.mpr R0.at_;rw[b6,b6]at this
  exact this
 ·refine f9.mpr (R0.rows.2 i _ [E i,q i] ?_ ?_).1
  ·rw[bH,bH,dQ (by lia)];rfl
  ·rw[fd,bH,dQ (by lia)];rfl
end
end K51
namespace K55
open PySem L2 TL Lib NF K51
theorem zL{e p b:Int}(h:jG b e=true):k6 [iT [e,p],.int b]=some (.int (p+b*e)):=by
 apply iW;unfold nF;walk_at "b"
 exact iJ.mpr (fK.mpr (fR (K42.ix1 (a:=0) rfl rfl rfl) (fK.mpr (e9.mpr ⟨_,rfl,fR (K42.ix1 (a:=0) rfl rfl rfl) (mZ.mpr ⟨h,jH.mpr (iD gD)⟩)⟩))))
section
variable {ws:List (Int×Int×Int)}{ps:List (Int×Int)}{nd:List (List Int)}{bs fs:List Int}{z y be:Int}{k:Nat}{E q A:Nat->Int}{r:Nat->Nat}{D:Sto}
noncomputable abbrev sms(E q:Nat->Int)(be:Int)(k:Nat):List Int:=(bK (k+1)).map fun i=>q i+be*E i
theorem aMp:(fd E q k).map iT=(bK (k+1)).map fun i=>iT [E i,q i]:=by rw[fd,b6];rfl
theorem aAR(hk:k<=390625)(hm:∀i,i<=k->jG be (E i)=true):lJ [.lst ((fd E q k).map iT),.int be]=some (.int (qN (sms E q be k))):=by
 apply iW;unfold oE;walk_at "b"
 refine iJ.mpr (fV.mpr (fB.mpr (gA.mpr (jF.mpr (e9.mpr ⟨_,rfl,_,rfl,by rw[aS,aDX];simp[lim];lia,?_⟩)))))
 rw[aMp]
 refine iH (fun i=>T.int (q i+be*E i)) (fun i hi=>?_) (fH.mpr (lQ.mpr ⟨_,rfl,_,lT,by simp,iD gD⟩))
 exact gB.mpr (fV.mpr (fB.mpr (e9.mpr ⟨_,rfl,fB.mpr (e9.mpr ⟨_,rfl,fH.mpr ((gC (zL (hm i (by have:=cG.mp hi;lia))) rfl (by rw[fQ,fQ,gT,gD,aKV];rfl)).mpr ⟨rfl,rfl⟩)⟩)⟩)))
theorem aB4(K:Crn ws ps nd z y k E q A r D)(hm:∀i,i<=k->jG be (E i)=true):nT [.lst (ws.map w3),.lst (ps.map pT),.int be]=some (.int (qN (sms E q be k))):=by
 apply iW;unfold pL;walk_at "b"
 exact iJ.mpr (fV.mpr (fB.mpr (K.call rfl rfl (fB.mpr (e9.mpr ⟨_,rfl,fH.mpr (nN rfl (iI K.dr (iI (iD gD) qE)) ⟨_,aAR K.k5 hm,rfl,iD gD⟩)⟩)))))
structure Lst(E q:Nat->Int)(be:Int)(k i:Nat):Prop where
 le:i<=k
 mn:∀j,j<=k->q i+be*E i<=q j+be*E j
 ls:∀j,i<j->j<=k->q i+be*E i<q j+be*E j
theorem aH7(E q:Nat->Int)(be:Int):∀k,∃i,Lst E q be k i
 |0=>⟨0,bD _,fun j hj=>by rw[Nat.le_zero.mp hj];exact bP _,fun j h1 h2=>by lia⟩
 |k+1=>by
  obtain⟨i,h⟩:=aH7 E q be k;by_cases hc:q i+be*E i<q (k+1)+be*E (k+1)
  ·refine⟨i,aPu h.le,fun j hj=>?_,fun j h1 h2=>?_⟩
   ·rcases aOo hj with z|z
    ·exact h.mn j (by lia)
    ·rw[z];exact d0 hc
   ·rcases aOo h2 with z|z
    ·exact h.ls j h1 (by lia)
    ·rw[z];exact hc
  ·refine⟨k+1,bD _,fun j hj=>?_,fun j h1 h2=>by lia⟩
   rcases aOo hj with z|z
   ·have:=h.mn j (by lia);lia
   ·rw[z];exact bP _
theorem Lst.min{i:Nat}(h:Lst E q be k i):qN (sms E q be k)=q i+be*E i:=by
 obtain⟨h1,h2⟩:=aAs (ns:=sms E q be k) (by simp[sms]);obtain⟨j,hj,e⟩:=bM.mp h1;have h3:=h.mn j (by have:=cG.mp hj;lia);have h4:=h2 _ (cK (cG.mpr (Nat.lt_succ_of_le h.le)))
 lia
theorem aHA(K:Crn ws ps nd z y k E q A r D)(hyz:y<2^250)(xa:0<=z)(hA:∀i,i<k->A (i+1)<=8*2^240)(c:Int):∃be,nQ [.lst ((fd E q k).map iT),.int c]=some (.int be)/\0<=be/\be<2^250:=by
 have C:=K.cor;have tf:=K.k5;suffices h:∃t,nQ [.lst ((fd E q k).map iT),.int c]=some t/\∃be,t=.int be/\0<=be/\be<2^250 by
  obtain⟨_,h1,be,rfl,h2⟩:=h
  exact⟨be,h1,h2⟩
 apply lA;unfold rL;walk_at "b"
 refine fJ.mpr (f6.mpr (jN.mpr (hV.mpr (fB.mpr (gL.mpr (fH.mpr ⟨by simp[lim],gB.mpr (fW.mpr ?_)⟩))))))
 dsimp only[b4,aZ,aP]
 refine fJ.mpr (z6.mpr (gL.mpr (fV.mpr (fB.mpr (e9.mpr ⟨_,rfl,fH.mpr (lP.mpr ⟨_,rfl,_,_,rfl,rfl,?_,?_⟩)⟩)))))
 ·rw[aS,aDX];lia
 rw[aS,aDX,show(((k+1:Nat):Int) - 1).toNat=k by lia]
 refine mO (fun i τ C=>∃xs:List Int,C=[(.l,xs.map T.int)]/\xs.length=i+1/\(∀x∈xs,1<=x/\x<=8*2^240)/\∃a b,τ=[some (.lst ((fd E q k).map iT)),some (.int c),some (.cell 0),a,b,none]) ⟨[1],rfl,rfl,by simp,_,_,rfl⟩ ?_ ?_
 ·rintro i τ _ hi ⟨xs,rfl,jc,fj,a,b,rfl⟩;have f1:=aKZ (E:=E) (Q:=q) (k:=k) (i:=i) (by lia) (j:=1+(i:Int) - 1) (by lia);have f2:=aKZ (E:=E) (Q:=q) (k:=k) (i:=i+1) (by lia) (j:=1+(i:Int)) (by lia);have h1:=C.fall i hi;have h2:=C.dear i hi;have h3:=C.price i hi;have h4:=aEa C (i:=i) (by lia);have h5:=C.le (i:=i) (by lia);have h6:=C.ge (i:=i+1) (by lia);rw[K.e]at h6;unfold oM
  refine gB.mpr ?_
  dsimp only[b4]
  refine sqA (t:=.int (A (i+1)*(E i - E (i+1)))) (fK.mpr (fR (K42.ix2 (a:=0) (k:=3) rfl rfl f2 rfl rfl) (fR (ix2m (a:=0) (k:=3) rfl rfl f1 rfl rfl) (jH.mpr ⟨by rw[h3];congr 1;lia,rfl⟩)))) ?_
  dsimp only[b4];have hmx:max 1 (E i - E (i+1))=E i - E (i+1):=by lia
  have hdv:A (i+1)*(E i - E (i+1))/(E i - E (i+1))=A (i+1):=Int.mul_ediv_cancel _ (by lia)
  refine o9.mpr (e9.mpr ⟨_,rfl,fB.mpr (fK.mpr (e9.mpr ⟨_,rfl,fV.mpr (fB.mpr (gL.mpr (fB.mpr (fK.mpr (fR (ix2m (a:=0) (k:=3) rfl rfl f1 rfl rfl) (fR (K42.ix2 (a:=0) (k:=3) rfl rfl f2 rfl rfl) (jH.mpr (fH.mpr (aBL.mpr ?_)))))))))⟩))⟩)
  rw[hmx]
  refine mZ.mpr ⟨kX ⟨by lia,by lia⟩,fH.mpr ⟨0,rfl,rfl,_,rfl,pQ.mpr ⟨by simp[lim];lia,trivial,xs++[A (i+1)],?_,by simp[jc],fun x hx=>?_,_,_,rfl⟩⟩⟩
  ·rw[hdv,bQ];rfl
  ·rcases bL.mp hx with hx|hx
   ·exact fj x hx
   ·rw[bR.mp hx];have:=hA i hi;exact⟨by lia,this⟩
 rintro τ _ ⟨xs,rfl,jc,fj,a,b,rfl⟩;have hm:=iO (x:=c/8) (m:=((k+1:Nat):Int)) (by lia);have bg:atI (xs.map T.int) (c/8%((k+1:Nat):Int))=some (.int (xs[(c/8%((k+1:Nat):Int)).toNat]'(by lia))):=u5 hm.1 (by lia);have xl:=fj _ (dB (l:=xs) (n:=(c/8%((k+1:Nat):Int)).toNat) (by lia));generalize xs[(c/8%((k+1:Nat):Int)).toNat]'(by lia)=stp at bg xl
 refine fW.mpr (sqA (t:=.int stp) (fK.mpr (e9.mpr ⟨_,rfl,fK.mpr (fK.mpr (e9.mpr ⟨_,rfl,gL.mpr (mZ.mpr ⟨by decide,fV.mpr (fB.mpr (e9.mpr ⟨_,rfl,fH.mpr (lP.mpr ⟨_,rfl,mZ.mpr ⟨?_,kQ.mpr ⟨_,rfl,.int stp,?_,rfl,rfl⟩⟩⟩)⟩))⟩)⟩))⟩)) ?_)
 ·rw[aS,jc];exact kX (by lia)
 ·rw[aS,jc];exact bg
 dsimp only[b4];have c60:0<=c%10^eO 60/\c%10^eO 60<10^60:=⟨aO9 _ (by decide),aOM _ (by decide)⟩;have c2:=iO (x:=c/8%3) (m:=2) (by decide);have hm5:=iO (x:=c) (m:=5) (by decide);have yn:0<=c%10^eO 60*(c/8%3%2)/\c%10^eO 60*(c/8%3%2)<10^60:=by
  rcases(by lia:c/8%3%2=0\/c/8%3%2=1)with h|h<;>rw[h]<;>lia
 have hmul:jG (c%10^eO 60) (c/8%3%2)=true:=hW c2.1 (by lia);generalize hfe:c%10^eO 60*(c/8%3%2)=vg at yn;obtain⟨be,iz,hb⟩:∃be:Int,atI [T.int stp,.int (stp - 1),.int (stp+1),.int stp,.int vg] (c%5)=some (.int be)/\0<=be/\be<2^250:=by
  obtain⟨t,ht,et⟩:=wD (xs:=[stp,stp - 1,stp+1,stp,vg]) hm5.1 hm5.2
  refine⟨t,by rw[show[T.int stp,.int (stp - 1),.int (stp+1),.int stp,.int vg]=[stp,stp - 1,stp+1,stp,vg].map T.int from rfl,wC,et];rfl,?_⟩
  simp only[bE,cB,or_false]at ht;rcases ht with rfl|rfl|rfl|rfl|rfl<;>lia
 simp_arith[↓fL,hfe,↓fU iz]
 exact⟨by decide,by decide,by decide,by decide,by decide,hmul,by decide,by decide,_,iD gD,_,rfl,hb⟩
end
end K55
namespace K56
open PySem L2 TL Lib
def oM:FS:=
 (fM (fY (mL (fIx (fIx Y0 Y3) (fI 1)) (fIx (fIx Y0 (mL Y3 (fI 1))) (fI 1))) (gN 4))
  (qJ Y2 (e7 (aAe Y4 (aGT (e7 (fI 1) (e7 (mL (fIx (fIx Y0 (mL Y3 (fI 1))) (fI 0)) (fIx (fIx Y0 Y3) (fI 0))) fG)))) fG)))
def rL:FS:=
 (fM (fY (i0 (gE (e7 (fI 1) fG))) (gN 2))
  (fM (pI (fI 1) (mD (e7 Y0 fG)) (gN 3)
   oM)
  (fM (fY (fIx Y2 (jK (pR Y1 (fI 8)) (mD (e7 Y2 fG)))) (gN 5))
  (gF (fIx (fS (gE (e7 Y5 (e7 (mL Y5 (fI 1)) (e7 (jY Y5 (fI 1)) (e7 Y5 (e7 (lH (jK Y1 (aJp (fI 10) (fI 60))) (jK (jK (pR Y1 (fI 8)) (fI 3)) (fI 2))) fG))))))) (jK Y1 (fI 5)))))))
def nQ:List T->Option T:=iX rL 6
def sQ:FS:=
 (fM (fY (kU 2 kB (e7 (jW "Net" "open_pipes" 1 iG Y0 fG) (e7 (jW "Net" "moments" 2 iL Y0 (e7 (fI 0) fG)) fG))) (gN 3))
  (fM (mB (kU 2 uH (e7 Y3 (e7 (rN (e7 Y2 (e7 (kU 1 nO (e7 Y3 fG)) fG))) fG))))
  (fY (mL Y1 (jW "Net" "amount" 1 j6 Y0 fG)) (gN 2))))
def xE:FS:=
 (fM (fY (mL Y1 (jW "Net" "amount" 1 j6 Y0 fG)) (gN 2))
  (lN (hZ (fGt Y2 (fI 0))) sQ (10^200)))
def pN:List T->Sto->Option (T×Sto):=nA xE 4
def qT:FS:=
 (fM (mB (f7 2 lE (e7 (mD (e7 Y0 fG)) (e7 Y1 fG))))
  (fM (fIf (i8 (j9 Y0)) (gF (i0 (gE fG))) iE)
  (fM (fY (sS "Net" 4 lK [] (e7 Y0 (e7 Y1 (e7 Y2 fG)))) (gN 3))
  (fM (mB (jW "Net" "lead" 2 pN Y3 (e7 Y2 fG)))
  (gF (jW "Net" "stream" 1 nC Y3 fG))))))
def kO:List T->Option (T×Sto):=aAP qT 4
def oK:FS:=
 (qJ Y1 (e7 (fI 7) fG))
def o5:FS:=
 (fM (oR Y0 (gN 1)
  oK)
  (qJ Y0 (e7 (fS (gE (e7 (fI 8) fG))) fG)))
def mF:List T->Sto->Option Sto:=aCT o5 2
def oO:FS:=
 (fIf (lO (i8 (j9 (p6 "list" Y1))) (lO (hZ (fNe (mD (e7 Y1 fG)) (fI 2))) (lO (i8 (j9 (f7 1 jV (e7 (fIx Y1 (fI 0)) fG)))) (i8 (j9 (f7 1 jV (e7 (fIx Y1 (fI 1)) fG))))))) (gF (fC (.bl false))) iE)
def q9:FS:=
 (fM (fIf (lO (i8 (j9 (p6 "list" Y0))) (hZ (fEq Y0 (fS (gE fG))))) (gF (fC (.bl false))) iE)
  (fM (oR Y0 (gN 1)
   oO)
  (gF (fC (.bl true)))))
def oU:List T->Option T:=iX q9 2
def nL:FS:=
 (fM (fIf (lO (i8 (j9 (f7 1 jV (e7 (fIx Y2 Y3) fG)))) (lO (hZ (fLt (fIx Y2 Y3) (fI 0))) (hZ (fGe (fIx Y2 Y3) Y0)))) (gF (fC (.bl false))) iE)
  (fIf (pZ (hZ (fGt Y3 (fI 0))) (hZ (aFZ (fS (gE (e7 (fIx Y2 (mL Y3 (fI 1))) (e7 (fIx Y2 Y3) fG)))) Y1))) (gF (fC (.bl false))) iE))
def pA:FS:=
 (fM (fIf (hZ (fEq Y2 (fS (gE fG)))) (gF (fC (.bl false))) iE)
  (fM (lD (mD (e7 Y2 fG)) (gN 3)
   nL)
  (gF (fC (.bl true)))))
def mH:List T->Option T:=iX pA 4
def lC:FS:=
 (fM (fIf (lO (i8 (j9 (p6 "list" Y3))) (lO (hZ (fLt (mD (e7 Y3 fG)) (fI 2))) (lO (i8 (j9 (f7 1 jV (e7 (fIx Y3 (fI 0)) fG)))) (hZ (fLt (fIx Y3 (fI 0)) (fI 1)))))) (gF (fC (.bl false))) iE)
  (fIf (i8 (j9 (f7 3 mH (e7 Y0 (e7 Y1 (e7 (fS (fSl Y3 (qW (fI 1)) mT)) fG)))))) (gF (fC (.bl false))) iE))
def mM:FS:=
 (fM (fIf (i8 (j9 (p6 "list" Y2))) (gF (fC (.bl false))) iE)
  (fM (oR Y2 (gN 3)
   lC)
  (gF (fC (.bl true)))))
def k8:List T->Option T:=iX mM 4
def oJ:FS:=
 (fM (fY (fIx Y0 Y4) (gU [5,6,7]))
  (fM (fY (aC8 (e7 (fS (jE Y1 1 [4] (gN 0) (hZ (fIn Y1 (fS (fSl Y0 (qW (fI 1)) mT)))) (fIx Y0 (fI 0)))) fG)) (gN 8))
  (fY (jY Y3 (rN (e7 (lH Y8 Y5) (e7 (jY (lH Y7 (mL Y5 Y6)) (lH Y8 Y6)) fG)))) (gN 3))))
def rF:FS:=
 (fM (fY (mL (fI 0) (lH Y2 (aC8 (e7 (fS (jE Y1 1 [] (gN 0) iB (fIx Y0 (fI 0)))) fG)))) (gN 3))
  (fM (lD (mD (e7 Y0 fG)) (gN 4)
   oJ)
  (gF Y3)))
def oZ:List T->Option T:=iX rF 9
def nF:FS:=
 (gF (jY (fIx Y0 (fI 1)) (lH Y1 (fIx Y0 (fI 0)))))
def k6:List T->Option T:=iX nF 2
def oE:FS:=
 (gF (aAk (e7 (fS (jE Y0 1 [1] (gN 0) iB (f7 2 k6 (e7 Y0 (e7 Y1 fG))))) fG)))
def lJ:List T->Option T:=iX oE 2
def pL:FS:=
 (gF (f7 2 lJ (e7 (tZ 2 kW (e7 Y0 (e7 Y1 fG))) (e7 Y2 fG))))
def nT:List T->Option T:=iX pL 3
def aK3:FS:=
 (fM (fY (f7 3 aAD (e7 Y0 (e7 (fI 8) (e7 (aJp (fI 10) (fI 20)) fG)))) (gU [1,2]))
  (fM (fY (tZ 2 kW (e7 Y1 (e7 Y2 fG))) (gN 3))
  (fM (fIf (i8 (j9 (f7 1 oU (e7 Y3 fG)))) (gF (fC (.bl false))) iE)
  (fM (fY (f7 2 nQ (e7 Y3 (e7 (f7 2 iZ (e7 Y0 (e7 (fI 2) fG))) fG))) (gN 4))
  (fM (fY (fS (gE (e7 (fS (jE Y1 1 [] (gN 0) iB (fS (aC0 (e7 Y0 fG))))) (e7 (fS (jE Y2 1 [] (gN 0) iB (fS (aC0 (e7 Y0 fG))))) fG)))) (gN 5))
  (fM (fY (tZ 3 kO (e7 (fIx Y5 (fI 0)) (e7 (fIx Y5 (fI 1)) (e7 Y4 fG)))) (gN 6))
  (fM (fIf (lO (hZ (fNe Y5 (fS (gE (e7 Y1 (e7 Y2 fG)))))) (i8 (j9 (f7 3 k8 (e7 (mD (e7 Y1 fG)) (e7 Y2 (e7 Y6 fG))))))) (gF (fC (.bl false))) iE)
  (fM (fIf (hZ (fNe (aC8 (e7 (fS (jE Y6 1 [] (gN 0) iB (fIx Y0 (fI 0)))) fG)) (lH Y4 (tS (e7 (fGt (mD (e7 Y1 fG)) (fI 0)) fG))))) (gF (fC (.bl false))) iE)
  (fM (fY (aAk (e7 (fS (jE Y3 2 [4] (gU [0,1]) iB (jY Y1 (lH Y2 Y0)))) fG)) (gN 7))
  (fM (fIf (lO (hZ (fNe (f7 3 oZ (e7 Y1 (e7 Y6 (e7 (fI 0) fG)))) Y7)) (hZ (fNe (f7 3 nT (e7 (fIx Y5 (fI 0)) (e7 (fIx Y5 (fI 1)) (e7 Y4 fG)))) Y7))) (gF (fC (.bl false))) iE)
  (fM (aFp 1 mF (e7 Y6 fG))
  (gF (fEq Y5 (fS (gE (e7 Y1 (e7 Y2 fG)))))))))))))))))
def aER:List T->Option T:=iX aK3 8
end K56
namespace K56
open PySem L2 TL Lib NF
theorem aKI{w:Wk}{n:Nat}{es:List (Nat×Nat)}{P:Int}(W:Wel w n es P)(lx:0<n){b:Int}(gn:0<=b)(hbP:b<P)(hbb:b<10^199){p0:Nat->Int}(G0:Good w n es P (fun _=>0) 0 p0)(hb:sm (2*n+2) p0<10^199)
 {c:Nat}{C:Sto}(A:gS (net w n es P) (fun _=>0) c (2*n+2:Nat) C){Q:T->Sto->Prop}
 (q:∀f p C',Good w n es P f b p->(∀v,v<2*n+2->p v<=p0 v)->gS (net w n es P) f c (2*n+2:Nat) C'->Q .non C'):wpO (pN [.cell c,.int b] C) Q:=by
 have hn8:=W.n8
 refine iN ?_
 unfold xE;walk_at "b"
 refine fJ.mpr (f6.mpr (fK.mpr (e9.mpr ⟨_,rfl,jI (e9.mpr ⟨_,rfl,jZ A.net rfl,fH.mpr ⟨rfl,t9 A W.m G0.flo (jH.mpr (gB.mpr (fW.mpr ?_)))⟩⟩)⟩)))
 refine sF (fun m τ C'=>∃f p a x,τ=[some (.cell c),some (.int b),some (.int (b - a)),x]/\gS (net w n es P) f c (2*n+2:Nat) C'/\Good w n es P f a p/\(∀v,v<2*n+2->p v<=p0 v)/\0<=a/\a<=b/\b - a<=(m:Int)) (m:=b.toNat) ?_ ?_ ?_
 ·have h3:b.toNat<=10^199:=by lia
  exact dW h3 (aPj (by decide) (by decide))
 ·exact⟨_,p0,0,none,rfl,A,G0,fun _ _=>bP _,bP _,gn,by lia⟩
 rintro m τ C' ⟨f,p,a,x,rfl,A',G,hle,kq,mm,sk⟩
 refine g8.mpr (fK.mpr (e9.mpr ⟨_,rfl,gL.mpr (jH.mpr ⟨_,rfl,?_⟩)⟩))
 by_cases hp:0<b - a
 ·rw[if_pos (decide_eq_true hp)];have di:sm (2*n+2) p<10^199:=dA (tT hle) hb;unfold sQ
  refine fJ.mpr (f6.mpr (i7.mpr (fB.mpr (jI (e9.mpr ⟨_,rfl,jZ A'.net rfl,fH.mpr ⟨rfl,oT A' W.m ?_⟩⟩)))))
  refine fB.mpr (jI (e9.mpr ⟨_,rfl,jZ A'.net rfl,fB.mpr (gL.mpr (fH.mpr ⟨rfl,moments0 W A' G di fun p1 L1 G1 h1=>fH.mpr ⟨rfl,?_⟩⟩))⟩))
  have A1:gS (net w n es P) f c (2*n+2:Nat) (C'++[(.l,kH (2*n+2) p1)]):=A'.app A'.len;have ho:=W.open G1 (by lia)
  refine qZ A1 W.m (uG W.ein) (by lia) (by lia) (mq:=C'.length) (p:=p1) (by simp) (fun R r0 hc=>G1.route L1 ho W.ein W.l0 lx R r0 hc) fun r G2 hr=>?_
  have A2:gS (net w n es P) f c (2*n+2:Nat) (C'++[(.l,kH (2*n+2) p1)]++G2):=A1.app A1.len;have ay:r≠[]:=fun z=>by
   subst z
   exact absurd (show(0:Nat)=1 from hr.wk) (by decide)
  have lp:∀o∈r,o.1<(net w n es P).m:=fun o bj=>(hr.op o bj).1
  have cq:=uG (w:=w) (P:=P) W.ein;have dj:r.length<1000:=by
   have h5:=lR (2*n+2) _ (bS.mp hr.nd).2 fun v hv=>by
    obtain⟨⟨k,d⟩,bj,rfl⟩:=bM.mp hv;have:=cq k (hr.op _ bj).1;unfold rh;cases d<;>simp<;>lia
   rw[aS]at h5
   lia
  refine gB.mpr (fW.mpr (fJ.mpr (mW.mpr (i7.mpr (fB.mpr (e9.mpr ⟨_,rfl,fB.mpr (fV.mpr (fB.mpr (e9.mpr ⟨_,rfl,fB.mpr (i7.mpr (fB.mpr (e9.mpr ⟨_,rfl,fH.mpr ⟨rfl,y0 A2 ay lp dj ?_⟩⟩)))⟩)))⟩))))))
  refine fH.mpr (wM.mpr (fH.mpr ⟨rfl,?_⟩))
  have hx:=aC3 ay hr.op;generalize hxe:min (b - a) (rmin (net w n es P) f r)=x
  refine aEz A2 lp fun C3 A3 hl3 hf3=>?_
  have G3:Good w n es P (pr r x f) (a+x) p1:=G1.pour hr.wk hr.pipes hr.tg (by lia) fun o bj=>dZ (by lia) (aEF bj)
  refine fW.mpr (f6.mpr (fK.mpr (e9.mpr ⟨_,rfl,jI (e9.mpr ⟨_,rfl,jZ A3.net rfl,fH.mpr ⟨rfl,t9 A3 W.m G3.flo (jH.mpr (gB.mpr ?_))⟩⟩)⟩)))
  exact⟨(b - (a+x)).toNat,by lia,_,p1,a+x,_,rfl,A3,G3,fun v hv=>dZ (h1 v hv) (hle v hv),by lia,by lia,by lia⟩
 ·rw[if_neg (by rw[decide_eq_false hp];simp)];have:a=b:=by lia
  subst this
  exact q f p C' G hle A'
section
variable {ws:List (Int×Int×Int)}{ps:List (Int×Int)}{nd:List (List Int)}{bs fs:List Int}{z y b:Int}
theorem vR(L:Lot ws ps nd bs fs z y)(gn:0<=b)(oz:b<2^250):∃rl rw Cn,kO [.lst (ws.map w3),.lst (ps.map pT),.int b]=some (.cell rw,Cn)/\Cn[rw]?=some (.l,rl.map fun z=>.cell z.1)/\(∀z∈rl,Cn[z.1]?=some (aAT z))/\rl.length<40000/\
 (ws=[]/\rl=[]\/0<ws.length/\∃f p,Good (fP ws) ws.length (iA 0 nd) (plenty ws b) f b p/\p 1<=y/\yU ws.length (iA 0 nd) (stp (hJ ws nd b) f (hJ ws nd b).m) b rl [] 0):=by
 have G:=L.g;have hn:=G.l8;have W:=G.wel gn;obtain⟨_,p0,G0,hb,jt⟩:=G.free L.f gn;rw[L.yy]at jt;obtain⟨_,eo,_⟩:=y3 G.l8 G.pl G.inw G.acy;have ox:CFs [.int ws.length,T.lst (ps.map pT)]=true:=by rw[fQ,fQ,gT,gD,gK,lU];rfl
 have h:wpO (kO [.lst (ws.map w3),.lst (ps.map pT),.int b]) fun t Cn=>∃rl rw,t=.cell rw/\Cn[rw]?=some (.l,rl.map fun z=>.cell z.1)/\(∀z∈rl,Cn[z.1]?=some (aAT z))/\rl.length<40000/\
  (ws=[]/\rl=[]\/0<ws.length/\∃f p,Good (fP ws) ws.length (iA 0 nd) (plenty ws b) f b p/\p 1<=y/\yU ws.length (iA 0 nd) (stp (hJ ws nd b) f (hJ ws nd b).m) b rl [] 0):=by
  refine aAF ?_
  unfold qT;walk_at "b"
  refine fJ.mpr (mW.mpr (fV.mpr (fB.mpr (fV.mpr (fB.mpr (e9.mpr ⟨_,rfl,fH.mpr (lP.mpr ⟨_,rfl,fB.mpr (e9.mpr ⟨_,rfl,fH.mpr ?_⟩)⟩)⟩))))))
  rw[aS]
  refine(gC eo rfl ox).mpr (fW.mpr ?_)
  rcases eJ ws.length with h0|h0
  ·have fm:=d9.mp h0
   refine fJ.mpr (ifT (kG.mpr (jO.mpr (e9.mpr ⟨_,rfl,_,aEi,by rw[fm];exact⟨rfl,rfl⟩⟩))) ?_)
   exact iJ.mpr (jN.mpr (hV.mpr (fH.mpr ⟨by decide,[],0,rfl,rfl,(fun z hz=>by cases hz),by decide,.inl ⟨fm,rfl⟩⟩)))
  ·have ay:ws.isEmpty=false:=by cases ws with
    |nil=>simp at h0
    |cons _ _=>rfl
   refine fJ.mpr (ifF (kG.mpr (jO.mpr (e9.mpr ⟨_,rfl,_,aEi,by rw[ay];exact⟨rfl,rfl⟩⟩))) (gY.mpr (fW.mpr ?_)))
   refine fJ.mpr (f6.mpr (sV (fB.mpr (e9.mpr ⟨_,rfl,fB.mpr (e9.mpr ⟨_,rfl,fB.mpr (e9.mpr ⟨_,rfl,fH.mpr ⟨rfl,?_⟩⟩)⟩)⟩))))
   refine yO (nd:=nd) (bonus:=b) G.l8 G.pl G.inw G.need G.ndd fun C1 P1=>⟨rfl,gB.mpr (fW.mpr (fJ.mpr (mW.mpr (jI ?_))))⟩
   have A1:gS (hJ ws nd b) (fun _=>0) 0 (2*ws.length+2:Nat) C1:=by
    have:=P1.at;rw[show((2*ws.length+2:Nat):Int)=2*(ws.length:Int)+2 by lia];exact this
   have av:b<plenty ws b:=by have:=W.pP;have h2:0<=sm ws.length (fP ws).p:=mK fun i hi=>(nZ (P:=p8) G.ok hi).2.2.1;rw[Gvn.price (bonus:=b)]at h2;lia
   refine e9.mpr ⟨_,rfl,jZ A1.net rfl,fB.mpr (e9.mpr ⟨_,rfl,fH.mpr ⟨rfl,?_⟩⟩)⟩
   refine aKI W h0 gn av (by lia) G0 (aO4 hb (by decide)) A1 fun f p C2 Gf hle A2=>fW.mpr (iJ.mpr (jI (e9.mpr ⟨_,rfl,jZ A2.net rfl,fH.mpr ⟨rfl,?_⟩⟩)))
   obtain⟨ρ,Fl⟩:=aMl W Gf.flo Gf.cap
   refine aFE A2 W.m Fl (fun s hs=>aNk hs) gn (by lia) fun rl rw C3 lp R h1 h2=>?_
   exact⟨rl,rw,rfl,h1,h2,dW lp W.m,.inr ⟨h0,f,p,Gf,by rw[<-jt];exact hle 1 (by lia),R⟩⟩
 obtain⟨_,Cn,e1,rl,rw,rfl,h1⟩:=h
 exact⟨rl,rw,Cn,e1,h1⟩
end
end K56
namespace K56
open PySem L2 TL Lib NF K51 K55
section
variable {ws:List (Int×Int×Int)}{ps:List (Int×Int)}{nd:List (List Int)}{bs fs:List Int}{z y b:Int}{k:Nat}{E q A:Nat->Int}{r:Nat->Nat}{D:Sto}
theorem aE7(L:Lot ws ps nd bs fs z y)(K:Crn ws ps nd z y k E q A r D)(gn:0<=b){f p:Nat->Int}(Gf:Good (fP ws) ws.length (iA 0 nd) (plenty ws b) f b p)(hp:p 1<=y){i:Nat}(hi:Lst E q b k i):q i+b*E i=len (hJ ws nd b) f:=by
 have G:=L.g;have C:=K.cor;have W:=G.wel gn;have av:b<plenty ws b:=by have h2:0<=sm ws.length (fP ws).p:=mK fun i hi=>(nZ (P:=p8) G.ok hi).2.2.1;rw[Gvn.price (bonus:=b)]at h2;lia
 obtain⟨k1,k2,k3⟩:=aEU W Gf rfl av fun i hi=>(nZ (P:=p8) G.ok hi).2.1
 have pl:Pl ws ps (p 1) (beg p) (hrs (fP ws) p):=⟨fun i hi=>(k1 i hi).1,fun i hi=>(k1 i hi).2.1,fun i hi=>(k1 i hi).2.2.1,fun i hi=>(k1 i hi).2.2.2,fun p hp=>k2 _ (aBK G.inw G.ndd hp)⟩;have hz:=L.pl_z pl (Gf.ge 1 (by lia));have k3:cst ws (hrs (fP ws) p)=len (hJ ws nd b) f - b*p 1:=k3
 refine aOB ?_ ?_
 ·rcases C.seg_of (x:=p 1) (by rw[C.e0];exact hp) (bD k) (by rw[K.e];exact hz)with h| ⟨j,hj,h1,h2⟩
  ·have h3:=aG3 L C (cV k);rw[<-h]at h3;have h4:=h3.le G pl;have h5:=hi.mn 0 (cV _);rw[<-h]at h5
   lia
  ·have h4:=(aAr L C hj h1 h2).le G pl;have h5:=hi.mn j (by lia);have h6:=hi.mn (j+1) hj;have h7:=C.price j hj;rw[k3]at h4;by_cases hc:b<=A (j+1)
   ·have h8:=b9 hc (show 0<=E j - p 1 by lia);rw[cI b]at h8
    lia
   ·have h8:=b9 (show A (j+1)<=b by lia) (show 0<=p 1 - E (j+1)by lia);rw[cI b,cI]at h8;rw[cI]at h4 h7
    lia
 ·obtain⟨b',h',pl',e'⟩:=(aG3 L C hi.le).plan G;have:=pl'.best G Gf.flo Gf.cap;rw[e']at this;show len (net (fP ws) ws.length (iA 0 nd) (plenty ws b)) f<=_
  lia
end
theorem aHE:∀ns:List Int,ns.length<=63->(∀n∈ns,Builtin.Int.intBits n<=2^20)->aER [.lst (ns.map T.int)]=some (.bl true):=by
 intro ns hl hb;obtain⟨ws,ps,nd,bs,fs,z,y,e1,L,hw8,hp20,dg⟩:=lotM hl (M:=8) (by decide) (by decide) (u:=10^20) (by decide) (by decide);have G:=L.g;have hn:=G.l8;have xa:=L.z0;have hyC:=L.yC dg;have hsC:=L.sC dg;obtain⟨k,E,q,A,r,D,K⟩:=crn L;have C:=K.cor;have tf:=K.k5;obtain⟨be,eb,gn,oz⟩:=aHA K (by lia) xa (fun i hi=>dZ (aIJ C hi) hsC) (m8 ns 2);have hE:∀i,i<=k->z<=E i/\E i<=y:=fun i hi=>⟨by rw[<-K.e];exact C.ge hi,C.le hi⟩
 have hm:∀i,i<=k->jG be (E i)=true:=fun i hi=>yN (Bt.of_lt (k:=256) gn (by lia)) (Bt.of_lt (k:=256) (by have:=hE i hi;lia) (by have:=hE i hi;lia)) (by decide)
 obtain⟨i,hi⟩:=aH7 E q be k;have eB:=aB4 K hm;rw[hi.min]at eB;obtain⟨rl,rw,Cn,eR,c1,c2,dj,hcs⟩:=vR L gn oz;have jf:∀i,i<ws.length->(fP ws).l i<=(fP ws).u i:=fun i hi=>(nZ (P:=p8) G.ok hi).2.1
 obtain⟨hok,rg,ll⟩:(∀x∈rl,1<=x.2.1/\x.2.2≠[]/\(∀i∈x.2.2,i<ws.length)/\NF.Chn (iA 0 nd) none x.2.2/\∀i,x.2.2.count i<=1)/\(rl.map fun z=>z.2.1).sum=be*(if decide (0<(ws.length:Int))=true then 1 else 0)/\
  sm ws.length (fun i=>min ((rl.map fun z=>z.2.1*(z.2.2.count i:Int)).sum*(fP ws).u i) ((fP ws).p i*((fP ws).u i - (fP ws).l i)+(rl.map fun z=>z.2.1*(z.2.2.count i:Int)).sum*(fP ws).l i))=q i+be*E i:=by
  rcases hcs with⟨fm,rfl⟩| ⟨h0,f,p,Gf,xw,RO⟩
  ·refine⟨(fun x hx=>by cases hx),(by rw[fm];simp),?_⟩
   have hy0:y=0:=by
    have h1:=L.yy;rw[fm]at h1;have h2:=L.f.len;rw[fm]at h2;rw[<-h1,d9.mp (h2.trans rfl)];rfl
   have hE0:=hE i hi.le;have hi0:i=0:=by
    rcases eJ i with h|h
    ·exact h
    ·have:=C.falls h hi.le;have:=hE 0 (cV _)
     lia
   rw[hi0]at hE0|-;rw[C.q0,show E 0=0 by lia,fm];simp[sm]
  ·refine⟨RO.ok,by rw[RO.sum,if_pos (kX (by lia))];lia,?_⟩
   have h1:=aB8 Gf Gf rfl rfl jf RO;rw[RO.sum,dJ,aPY be]at h1;rw[aE7 L K gn Gf xw hi];show _=len (net (fP ws) ws.length (iA 0 nd) (plenty ws be)) f
   lia
 have hzz:∀x∈rl,1<=x.2.1/\∀i,x.2.2.count i<=1:=fun x hx=>⟨(hok x hx).1,(hok x hx).2.2.2.2⟩
 have xl:0<=(rl.map fun z=>z.2.1).sum/\(rl.map fun z=>z.2.1).sum<2^256:=by
  rw[rg];split<;>lia
 have eW:=K42.aD3 (e:=0) hn G.ok (by lia) hzz (bP _) (by decide) xl fun i hi=>by
  have h1:=K42.aKe (i:=i) hzz
  lia
 rw[ll,dI,dJ,eG]at eW;have eS:=K42.aA1 (m:=ws.length) (ps:=ps) (rl:=rl) fun x hx=>by
  obtain⟨x1,x2,x3,x4,x5⟩:=hok x hx
  exact⟨x1,x2,by have:=K42.lR x5 x3;lia,x3,fun k a c ha hc=>(xL G.inw G.ndd (K42.aEt x4 ha hc)).1⟩
 have xo:rl.map (fun z=>iT (K42.rI z))=(rl.map K42.rI).map iT:=by rw[b6];rfl
 rw[xo]at eS eW;have R2:=(K42.aCL c1 c2).sh (C:=D);have d2:=R2.dr;have cn:D<+:D++Cn.map (shc D.length):=aPp _ _;have w1:∀{C Q},wpO (kE 3 aAD [.lst (ns.map T.int),.int 8,.int (10^eO 20)] C) Q↔Q (.tup [.lst (ws.map w3),.lst (ps.map pT)]) C:=gC e1 rfl (by walk_at "c");apply iW;unfold aK3;walk_at "b"
 refine fJ.mpr (f6.mpr (fV.mpr (fB.mpr (e9.mpr ⟨_,rfl,fB.mpr (gL.mpr (fB.mpr (fK.mpr (gL.mpr (gL.mpr (mZ.mpr ⟨by decide,fH.mpr (w1.mpr (wS.mpr ⟨_,rfl,rfl,fW.mpr ?_⟩))⟩))))))⟩))))
 dsimp only[setAll,b4]
 refine fJ.mpr (f6.mpr (K.call rfl rfl (gB.mpr (fW.mpr ?_))))
 dsimp only[b4]
 refine fJ.mpr (ifF (kG.mpr (jO.mpr (fV.mpr (fB.mpr (e9.mpr ⟨_,rfl,fH.mpr (nN rfl (iI K.dr qE) ⟨_,K54.aGz,rfl,true,rfl,rfl,rfl⟩)⟩))))) (gY.mpr (fW.mpr ?_)))
 refine sqA (t:=.int be) (fV.mpr (fB.mpr (e9.mpr ⟨_,rfl,fB.mpr (fV.mpr (fB.mpr (e9.mpr ⟨_,rfl,fB.mpr (gL.mpr (fH.mpr ((nU (by decide)).mpr (fH.mpr (nN rfl (iI K.dr (iI (iD gD) qE)) ⟨_,eb,rfl,rfl,rfl⟩)))))⟩)))⟩))) ?_
 dsimp only[b4]
 refine sqA (t:=K42.hdd ws ps) (K42.hand hn L.g.pl rfl rfl ⟨rfl,rfl⟩) ?_
 dsimp only[b4]
 refine fJ.mpr (f6.mpr (fV.mpr (fB.mpr (fR (K42.ix1 (a:=5) rfl rfl rfl) (fB.mpr (fR (K42.ix1 (a:=5) rfl rfl rfl) (fB.mpr (e9.mpr ⟨_,rfl,fH.mpr ((K42.aAK eR rfl K42.aGM).mpr (gB.mpr (fW.mpr ?_)))⟩))))))))
 dsimp only[b4];rw[show TL.sh D.length (.cell rw)=.cell (D.length+rw)from rfl];generalize hD2:D++Cn.map (shc D.length)=D2 at R2 d2 cn;have k2:=f9.mpr R2.at_
 refine fJ.mpr (ifF ?_ (gY.mpr (fW.mpr ?_)))
 ·refine m7.mpr (g8.mpr (fK.mpr (e9.mpr ⟨_,rfl,gA.mpr (hV.mpr (fB.mpr (e9.mpr ⟨_,rfl,fB.mpr (e9.mpr ⟨_,rfl,fH.mpr ⟨by simp[lim],K42.self2.mpr ⟨_,rfl,?_⟩⟩⟩)⟩)))⟩)))
  rw[if_neg (by simp)]
  refine kG.mpr (jO.mpr (fV.mpr (fB.mpr (fV.mpr (fB.mpr (e9.mpr ⟨_,rfl,fH.mpr (lP.mpr ⟨_,rfl,fB.mpr (e9.mpr ⟨_,rfl,fB.mpr (e9.mpr ⟨_,rfl,fH.mpr ?_⟩)⟩)⟩)⟩))))))
  rw[aS]
  exact nN rfl (iI (iD gD) (iI K42.aOd (iI d2 qE))) ⟨_,eS,rfl,true,rfl,rfl,rfl⟩
 refine fJ.mpr (ifF ?_ (gY.mpr (fW.mpr ?_)))
 ·refine g8.mpr (fK.mpr (fV.mpr (fB.mpr (gA.mpr (jF.mpr (e9.mpr ⟨_,rfl,_,k2,by simp[lim];lia,?_⟩))))))
  rw[b6,b6]
  refine iH (xs:=rl) (en:=fun z=>T.cell (D.length+z.1)) (fun z=>T.int z.2.1) (fun x hx=>?_) ?_
  ·have h1:=K42.aHQ (C:=D) (c2 x hx);rw[hD2]at h1;have h2:shs D.length (.int x.2.1::x.2.2.map fun i:Nat=>T.int (i:Int))=.int x.2.1::shs D.length (x.2.2.map fun i:Nat=>T.int (i:Int)):=by rw[shs];rfl
   have h3:lc D2 (D.length+x.1)=some (.int x.2.1::shs D.length (x.2.2.map fun i:Nat=>T.int (i:Int))):=f9.mpr (by rw[<-h2];exact h1)
   exact gB.mpr (fR (K42.ix1 (a:=0) rfl h3 aKT) ⟨rfl,rfl⟩)
  ·refine fH.mpr (lQ.mpr ⟨_,rfl,_,lT,rfl,?_⟩)
   refine fK.mpr (e9.mpr ⟨_,rfl,fV.mpr (fB.mpr (fK.mpr (fV.mpr (fB.mpr (e9.mpr ⟨_,rfl,fH.mpr (lP.mpr ⟨_,rfl,gL.mpr (jH.mpr (fH.mpr (aAc.mpr (mZ.mpr ⟨?_,sI.mpr ⟨_,rfl,?_,rfl⟩⟩))))⟩)⟩)))))⟩)
   ·exact gR (by split<;>exact Bt.of_lt (by decide) (by decide))
   ·rw[aS];rw[show(rl.map fun z=>z.2.1).sum=_ from rg];simp
 refine sqA (t:=.int (q i+be*E i)) (fV.mpr (fB.mpr (gA.mpr (jF.mpr (e9.mpr ⟨_,rfl,_,aDh cn K.at_,by simp[lim];lia,iH (fun i=>T.int (q i+be*E i)) (fun j hj=>?_) (fH.mpr (lQ.mpr ⟨_,rfl,_,lT,by simp,?_,rfl⟩))⟩))))) ?_
 ·have hj:j<=k:=by have:=cG.mp hj;lia
  exact wS.mpr ⟨_,aDh cn (K.row j hj),rfl,fK.mpr (e9.mpr ⟨_,rfl,fK.mpr (e9.mpr ⟨_,rfl,e9.mpr ⟨_,rfl,mZ.mpr ⟨hm j hj,jH.mpr ⟨rfl,rfl⟩⟩⟩⟩)⟩)⟩
 ·rw[show qN ((bK (k+1)).map fun i=>q i+be*E i)=q i+be*E i from hi.min]
 dsimp only[b4]
 refine fJ.mpr (ifF ?_ (gY.mpr (fW.mpr ?_)))
 ·refine m7.mpr (g8.mpr (fK.mpr (fV.mpr (fB.mpr (e9.mpr ⟨_,rfl,fB.mpr (e9.mpr ⟨_,rfl,fB.mpr (gL.mpr (fH.mpr (nN rfl (iI K42.aNE (iI d2 (iI (iD gD) qE))) ⟨_,eW,rfl,e9.mpr ⟨_,rfl,sI.mpr ⟨_,rfl,?_⟩⟩⟩)))⟩)⟩)))))
  rw[if_neg (by simp)]
  refine g8.mpr (fK.mpr (fV.mpr (fB.mpr (fR (K42.ix1 (a:=5) rfl rfl rfl) (fB.mpr (fR (K42.ix1 (a:=5) rfl rfl rfl) (fB.mpr (e9.mpr ⟨_,rfl,fH.mpr ((gC eB rfl K42.aGM).mpr (e9.mpr ⟨_,rfl,sI.mpr ⟨_,rfl,?_,rfl⟩⟩))⟩))))))))
  simp
 have q2:∀r∈rl.map K42.rI,r.length<=2000:=fun r hr=>by
  obtain⟨x,hx,rfl⟩:=bM.mp hr;have:=K42.lR (hok x hx).2.2.2.2 (hok x hx).2.2.1;simp[K42.rI,K42.nI];lia
 obtain⟨D4,x4,o4⟩:=R2.spoil (by simp;lia) q2
 refine fJ.mpr (K42.aJX.mpr (fB.mpr (e9.mpr ⟨_,rfl,fH.mpr ⟨rfl,D4,x4,fW.mpr ?_⟩⟩)))
 exact iJ.mpr (fK.mpr (e9.mpr ⟨_,rfl,gA.mpr (hV.mpr (fB.mpr (e9.mpr ⟨_,rfl,fB.mpr (e9.mpr ⟨_,rfl,fH.mpr ⟨by simp[lim],K42.self2.mpr (iD l6)⟩⟩)⟩)))⟩))
end K56
end
namespace K56
open PySem L2 TL Lib
open HT (top)
local macro_rules| `(tactic|walk_at "bq")=>`(tactic|first|exact fun _ _ _ _ _ _=>len1 fun _=>rfl|exact fun _ _ _ _ _ _=>zW fun _=>len1 fun _=>rfl|exact fun _ _ _ _ _ _=>zW fun _=>zW fun _=>len1 fun _=>rfl|exact fun _ _ _ _ _ _=>zW fun _=>zW fun _=>zW fun _=>len1 fun _=>rfl|exact fun _ _ _ _ _ _=>zW fun _=>zW fun _=>zW fun _=>zW fun _=>len1 fun _=>rfl)
section
variable {P:Program}{w:World}{K:aO}{mg:Str->Option Value}{base:Heap}{f:Addr}{fd:FuncData}
set_option maxHeartbeats 0
theorem aFl:Ky P w K mg base "_law_mixed" "_law_mixed" (top 44) ["_law_cell","_law_k"] 1 (spT K 2 lV):=fun F=>okB (N:=["_law_cell","_law_k","_law_number"]) F gM (iF gO) fun nd hr=>
 (fA (fN nd 2 (iK (iR (iR (kK (eY 0) fE) (kK (kK (eY 1) (eY 1)) fE)) fE) fE))
  (fA (fN nd 2 (iK (kK (eY 2) (eY 2)) fE))
  (fF (fT (iK (kK (eY 2) (eY 2)) fE)))))
theorem aDE(ax:mg "len"=none):Ky P w K mg base "_law_cell_at" "_law_cell_at" (top 43) ["_law_script","_law_k"] 1 (spT K 2 iZ):=fun F=>okB (N:=["_law_script","_law_k"]) F gM (iF gO) fun nd hr=>
 (fA (j7 (aIb (eY 1) (l7 ax (eZ (eY 0) fD))) (fF (fT (gP (eY 0) (eY 1)))) iC)
  (fF (fT fE)))
theorem aCB(my:jT P w K mg base 1 "_law_mixed" 2 lV)(gd:jT P w K mg base 1 "_law_cell_at" 2 iZ)(bh:mg "range"=none)(bo:mg "min"=none)(ax:mg "len"=none):Ky P w K mg base "_law_numbers" "_law_numbers" (top 46) ["_law_cells"] 2 (spT K 1 n6):=fun F=>okB (N:=["_law_cells","_law_numbers_here","_law_k","_law_at"]) F gM (iF gO) fun nd hr=>
 (fA (uQ nd 1 bh rfl (cok ["_law_k"] ["_law_cells"] [0]) fE (jJ (by decide)) (fun _ _ _ _=>(jP (show List.Nodup (["_law_k","_law_cells"]:List Str)by decide) 0)) (fun _ _ _ _=>iU) (fun _ _ _ _=>(f8 my (rdn hr) (eZ (f8 gd (rdn hr) (eZ (eY 1) (eZ fE fD))) (eZ (iR fE (eY 0)) fD)))))
  (fA (yF bh rfl fE (qX bo rfl (eZ fE (eZ (l7 ax (eZ (eY 0) fD)) fD))) (jP nd 2) (fA (fN nd 3 (iK (eY 2) fE))
  (fF (v6 (f8 my (rdn hr) (eZ (iR (gP (eY 1) (eY 3)) (gP (eY 0) (eY 2))) (eZ (eY 2) fD))) (eY 1) (eY 3)))))
  (fF (fT (eY 1)))))
theorem aFg(my:jT P w K mg base 1 "_law_mixed" 2 lV)(bh:mg "range"=none):Ky P w K mg base "_law_names" "_law_names" (top 45) ["_law_cell","_law_many"] 2 (spT K 2 tW):=fun F=>okB (N:=["_law_cell","_law_many","_law_points","_law_k"]) F gM (iF gO) fun nd hr=>
 (fA (fN nd 2 (kJ (gG fD)))
  (fA (nW bh rfl (eY 1) (jP nd 3) (fF (aDI (eY 2) (eZ (iK (f8 my (rdn hr) (eZ (eY 0) (eZ (eY 3) fD))) (iR (eY 3) fE)) (eZ (eY 3) fD)))))
  (fF (fT (eY 2)))))
theorem aBX(gd:jT P w K mg base 1 "_law_cell_at" 2 iZ)(bh:mg "range"=none)(cj:mg "int"=none):Ky P w K mg base "_law_lot_free" "_law_lot_free" (top 48) ["_law_cells","_law_many","_law_unit"] 2 (spT K 3 pM):=fun F=>okB (N:=["_law_cells","_law_many","_law_unit","_law_base","_law_works","_law_k","_law_left","_law_least","_law_more","_law_order","_law_needs","_law_a"]) F gM (iF gO) fun nd hr=>
 (fA (fN nd 3 (gP (fZ (gG (eZ fE (eZ (kK (eY 2) (aHk fE fE)) fD)))) (iK (kS (f8 gd (rdn hr) (eZ (eY 0) (eZ fE fD))) fE) fE)))
  (fA (fN nd 4 (kJ (gG fD)))
  (fA (nW bh rfl (eY 1) (jP nd 5) (fA (fN nd 6 (f8 gd (rdn hr) (eZ (eY 0) (eZ (iR fE (eY 5)) fD))))
  (fA (fN nd 7 (iK (eY 6) (gP (fZ (gG (eZ fE (eZ (eY 3) fD)))) (qI cj (eZ (aDD (eY 3) fE) fD)))))
  (fA (fN nd 6 (vW (eY 6) (gP (fZ (gG (eZ fE (eZ (eY 3) fD)))) (qI cj (eZ (aDD (eY 3) fE) fD)))))
  (fA (fN nd 8 (iK (eY 6) (gP (fZ (gG (eZ fE (eZ (eY 3) fD)))) (qI cj (eZ (aDD (eY 3) fE) fD)))))
  (fA (fN nd 6 (vW (eY 6) (gP (fZ (gG (eZ fE (eZ (eY 3) fD)))) (qI cj (eZ (aDD (eY 3) fE) fD)))))
  (fF (n4 (eY 4) (eZ (fZ (gG (eZ (iR (eY 7) (eY 8)) (eZ (eY 7) (eZ (iK (eY 6) (gP (fZ (gG (eZ fE (eZ (eY 3) fD)))) (qI cj (eZ (aDD (eY 3) fE) fD)))) fD))))) fD)))))))))
  (fA (fN nd 6 (f8 gd (rdn hr) (eZ (eY 0) (eZ fE fD))))
  (fA (fN nd 9 (kJ (gG fD)))
  (fA (nW bh rfl (eY 1) (jP nd 5) (fA (aDI (eY 9) (eZ (iK (eY 6) (iR (eY 5) fE)) (eZ (eY 5) fD)))
  (fF (fN nd 6 (vW (eY 6) (iR (eY 5) fE))))))
  (fA (fN nd 10 (kJ (gG fD)))
  (fA (nW bh rfl (eY 1) (jP nd 5) (fF (m4 rfl (fZ (vV (eY 9) tO (aBH (eY 5)))) (jP nd 11) (fA (j7 (vK (hu20 hr) (iK (eY 6) fE) fE) (fF (n4 (eY 10) (eZ (fZ (gG (eZ (eY 11) (eZ (gP (eY 9) (eY 5)) fD)))) fD))) iC)
  (fF (fN nd 6 (kS (eY 6) fE)))))))
  (fF (fT (aDH (eZ (eY 4) (eZ (eY 10) fD)))))))))))))
theorem aIB(cj:mg "int"=none):Ky P w K mg base "_law_work" "_law_work" (top 47) ["_law_one","_law_two","_law_three","_law_mode","_law_unit"] 1 (spT K 5 sX):=fun F=>okB (N:=["_law_one","_law_two","_law_three","_law_mode","_law_unit","_law_least","_law_more","_law_price"]) F gM (iF gO) fun nd hr=>
 (fA (fN nd 5 (iK (eY 0) fE))
  (fA (fN nd 6 (iK (eY 1) fE))
  (fA (fN nd 7 (iK (eY 2) fE))
  (fA (j7 (vK (hu20 hr) (eY 3) fE) (fA (fN nd 5 (iR (kK (eY 0) (eY 4)) (iK (eY 1) fE)))
  (fA (fN nd 6 (kK (kK (eY 1) (eY 4)) (qI cj (eZ (aDD (iK (eY 1) fE) fE) fD))))
  (fF (fN nd 7 (iR (kK (eY 2) (eY 4)) (iK (eY 0) fE)))))) iC)
  (fA (j7 (vK (hu20 hr) (eY 3) fE) (fA (fN nd 6 (kK (iK (eY 1) fE) (iK (kS (eY 1) fE) fE)))
  (fF (fN nd 7 (gP (fZ (gG (eZ fE (eZ fE (eZ fE (eZ (iR fE (iK (eY 2) fE)) fD)))))) (iK (kS (eY 2) fE) fE))))) iC)
  (fA (j7 (t_w (aCI (vK (hu20 hr) (eY 3) fE) (xX (vK (hu20 hr) (iK (eY 0) fE) fE)))) (fF (fN nd 5 fE)) iC)
  (fF (fT (fZ (gG (eZ (iR (eY 5) (eY 6)) (eZ (eY 5) (eZ (eY 7) fD)))))))))))))
theorem aMB(d62:jT P w K mg base 2 "_law_numbers" 1 n6)(gd:jT P w K mg base 1 "_law_cell_at" 2 iZ)(d63:jT P w K mg base 2 "_law_names" 2 tW)(d64:jT P w K mg base 2 "_law_lot_free" 3 pM)(d65:jT P w K mg base 1 "_law_work" 5 sX)(bh:mg "range"=none)(bo:mg "min"=none)(cj:mg "int"=none)(ax:mg "len"=none):Ky P w K mg base "_law_lot" "_law_lot" (top 49) ["_law_cells","_law_most","_law_unit"] 3 (spT K 3 aAD):=fun F=>okB (N:=["_law_cells","_law_most","_law_unit","_law_numbers_here","_law_first","_law_few","_law_many","_law_cell","_law_works","_law_names_here","_law_needs","_law_k","_law_b","_law_back","_law_a"]) F gM (iF gO) fun nd hr=>
 (fA (fN nd 3 (f8 d62 (rdn hr) (eZ (eY 0) fD)))
  (fA (fN nd 4 (f8 gd (rdn hr) (eZ (eY 0) (eZ fE fD))))
  (fA (fN nd 5 (iK (kS (eY 4) fE) (qX bo rfl (eZ fE (eZ (iR (eY 1) fE) fD)))))
  (fA (fN nd 6 (gP (fZ (gG (eZ (eY 5) (eZ (mV (eY 1) (gP (fZ (gG (eZ fE (eZ fE (eZ fE (eZ fE fD)))))) (iK (kS (eY 4) fE) fE))) (eZ (eY 5) (eZ (qX bo rfl (eZ (eY 1) (eZ (iR fE (iK (kS (eY 4) fE) fE)) fD))) fD)))))) (iK (eY 4) fE)))
  (fA (fN nd 7 (f8 gd (rdn hr) (eZ (eY 0) (eZ fE fD))))
  (fA (j7 (vK (hu20 hr) (iK (kS (eY 7) fE) fE) fE) (fF (fT (f8 d64 (rdn hr) (eZ (eY 0) (eZ (qX bo rfl (eZ (eY 6) (eZ (gP (fZ (gG (eZ fE (eZ fE fD)))) (qI cj (eZ (aN4 (eY 1) fE) fD))) fD))) (eZ (eY 2) fD)))))) iC)
  (fA (aFT nd 8 bh rfl (cok ["_law_k"] ["_law_numbers_here","_law_cell","_law_unit"] [3,7,2]) (eY 6) (jJ (by decide)) (fun _ _ _ _=>(jP (show List.Nodup (["_law_k","_law_numbers_here","_law_cell","_law_unit"]:List Str)by decide) 0)) (fun _ _ _ _=>iU) (fun _ _ _ _=>(f8 d65 (rdn hr) (eZ (gP (eY 1) (eY 0)) (eZ (gP (eY 1) (iR fE (eY 0))) (eZ (gP (eY 1) (iR fE (eY 0))) (eZ (iK (eY 2) fE) (eZ (eY 3) fD))))))))
  (fA (fN nd 9 (f8 d63 (rdn hr) (eZ (gP (eY 3) fE) (eZ (eY 6) fD))))
  (fA (fN nd 10 (kJ (gG fD)))
  (fA (yF bh rfl fE (iR fE (qX bo rfl (eZ fE (eZ (iR (eY 6) (iK (kS (eY 7) fE) fE)) fD)))) (jP nd 11) (fF (j7 (aC4 (eY 6) fE) (fA (fN nd 12 (iR fE (iK (gP (eY 3) (eY 11)) (mV (eY 6) fE))))
  (fA (fN nd 13 (iK (kS (gP (eY 3) (eY 11)) fE) (qX bo rfl (eZ (eY 12) (eZ (gP (fZ (gG (eZ fE (eZ fE (eZ fE fD))))) (iK (kS (eY 7) fE) fE)) fD)))))
  (fA (fN nd 14 (gP (fZ (gG (eZ (mV (mV (eY 12) fE) (eY 13)) (eZ (eY 13) fD)))) (iK (kS (eY 7) fE) fE)))
  (fF (aDI (eY 10) (eZ (iK (kS (gP (eY 3) (eY 11)) fE) (iR (l7 ax (eZ (eY 10) fD)) fE)) (eZ (fZ (gG (eZ (gP (eY 9) (eY 14)) (eZ (gP (eY 9) (eY 12)) fD)))) fD))))))) iC)))
  (fF (fT (aDH (eZ (eY 8) (eZ (fZ (vV (eY 10) (aBH (iK (kS (eY 7) fE) fE)) tO)) fD)))))))))))))))
theorem vF(wt:mg "zip"=none):Ky P w K mg base "done_moments" "done_moments" (top 11) ["begins","hours"] 1 (spT K 2 kP):=fun F=>okB (N:=["begins","hours"]) F gM (iF gO) fun nd hr=>
 (fF (fT (fZ (aKy wt rfl (cok ["begin","took"] [] []) (eY 0) (eY 1) (aDZ (by decide)) (fun _ _ _ _=>(u3 rfl (kL (show List.Nodup (["begin","took"]:List Str)by decide) 0 (kL (show List.Nodup (["begin","took"]:List Str)by decide) 1 vD)))) (fun _ _ _ _=>iU) (fun _ _ _ _=>(iR (eY 0) (eY 1)))))))
theorem aDk:Ky P w K mg base "is_work" "is_work" (top 5) ["many","number"] 1 (spT K 2 lM):=fun F=>okB (N:=["many","number"]) F gM (iF gO) fun nd hr=>
 (fF (fT (zQ fE (eY 1) (eY 0))))
theorem vE(vo:jT P w K mg base 1 "is_work" 2 lM)(bh:mg "range"=none):Ky P w K mg base "needed_works" "needed_works" (top 6) ["many","needs"] 2 (spT K 2 gQ):=fun F=>okB (N:=["many","needs","needed","first","second"]) F gM (iF gO) fun nd hr=>
 (fA (uQ nd 2 bh rfl (cok ["work"] [] []) (eY 0) (jJ (by decide)) (fun _ _ _ _=>(jP (show List.Nodup (["work"]:List Str)by decide) 0)) (fun _ _ _ _=>iU) (fun _ _ _ _=>(kJ (gG fD))))
  (fA (m4 rfl (eY 1) (u3 rfl (kL nd 3 (kL nd 4 vD))) (fA (j7 (t_w (vN (oG (l9 (f8 vo (rdn hr) (eZ (eY 0) (eZ (eY 3) fD))))) (xO (oG (l9 (f8 vo (rdn hr) (eZ (eY 0) (eZ (eY 4) fD)))))))) (fF aCr) iC)
  (fF (j7 (aHP (hu20 hr) (eY 3) (gP (eY 2) (eY 4))) (fF (n4 (gP (eY 2) (eY 4)) (eZ (eY 3) fD))) iC))))
  (fF (fT (eY 2)))))
theorem yA(bh:mg "range"=none)(ax:mg "len"=none)(wn:mg "all"=none):Ky P w K mg base "least_ready" "least_ready" (top 7) ["needed","told"] 1 (spT K 2 mN):=fun F=>okB (N:=["needed","told","work"]) F gM (iF gO) fun nd hr=>
 (fA (nW bh rfl (l7 ax (eZ (eY 0) fD)) (jP nd 2) (fF (j7 (t_w (aCI (aHP (hu20 hr) (eY 2) (eY 1)) (xX (l9 (aNv wn rfl (eZ (fZ (j5 rfl (cok ["first"] ["told"] [1]) (gP (eY 0) (eY 2)) (jJ (by decide)) (fun _ _ _ _=>(jP (show List.Nodup (["first","told"]:List Str)by decide) 0)) (fun _ _ _ _=>iU) (fun _ _ _ _=>(aOb (hu20 hr) (eY 0) (eY 1))))) fD)))))) (fF (fT (eY 2))) iC)))
  (fF aCr))
theorem aCV(jm:jT P w K mg base 2 "needed_works" 2 gQ)(d68:jT P w K mg base 1 "least_ready" 2 mN)(ax:mg "len"=none):Ky P w K mg base "order_of" "order_of" (top 4) ["many","needs"] 3 (spT K 2 lE):=fun F=>okB (N:=["many","needs","needed","order"]) F gM (iF gO) fun nd hr=>
 (fA (fN nd 2 (f8 jm (rdn hr) (eZ (eY 0) (eZ (eY 1) fD))))
  (fA (fN nd 3 (kJ (gG fD)))
  (fA (mU 10 (aIb (l7 ax (eZ (eY 3) fD)) (eY 0)) (fF (n4 (eY 3) (eZ (f8 d68 (rdn hr) (eZ (eY 2) (eZ (eY 3) fD))) fD))))
  (fF (fT (eY 3))))))
theorem aCp(px:jT P w K mg base 3 "order_of" 2 lE)(jm:jT P w K mg base 2 "needed_works" 2 gQ)(ax:mg "len"=none)(jp:mg "max"=none):Ky P w K mg base "earliest" "earliest" (top 9) ["hours","needs"] 4 (spT K 2 mJ):=fun F=>okB (N:=["hours","needs","order","needed","begins","work"]) F gM (iF gO) fun nd hr=>
 (fA (fN nd 2 (f8 px (rdn hr) (eZ (l7 ax (eZ (eY 0) fD)) (eZ (eY 1) fD))))
  (fA (fN nd 3 (f8 jm (rdn hr) (eZ (l7 ax (eZ (eY 0) fD)) (eZ (eY 1) fD))))
  (fA (fN nd 4 (kJ (j5 rfl (cok ["work"] [] []) (eY 2) (jJ (by decide)) (fun _ _ _ _=>(jP (show List.Nodup (["work"]:List Str)by decide) 0)) (fun _ _ _ _=>iU) (fun _ _ _ _=>fE))))
  (fA (m4 rfl (eY 2) (jP nd 5) (fF (v6 (aGg jp rfl (fZ (j5 rfl (cok ["first"] ["begins","hours"] [4,0]) (gP (eY 3) (eY 5)) (jJ (by decide)) (fun _ _ _ _=>(jP (show List.Nodup (["first","begins","hours"]:List Str)by decide) 0)) (fun _ _ _ _=>iU) (fun _ _ _ _=>(iR (gP (eY 1) (eY 0)) (gP (eY 2) (eY 0)))))) fE) (eY 4) (eY 5))))
  (fF (fT (eY 4)))))))
theorem aE1(d70:jT P w K mg base 1 "done_moments" 2 kP)(d71:jT P w K mg base 4 "earliest" 2 mJ)(jp:mg "max"=none):Ky P w K mg base "length" "length" (top 10) ["hours","needs"] 5 (spT K 2 kI):=fun F=>okB (N:=["hours","needs"]) F gM (iF gO) fun nd hr=>
 (fF (fT (aGg jp rfl (f8 d70 (rdn hr) (eZ (f8 d71 (rdn hr) (eZ (eY 0) (eZ (eY 1) fD))) (eZ (eY 0) fD))) fE)))
theorem yI:Ky P w K mg base "least_hours" "least_hours" (top 32) ["works"] 1 (spT K 1 k7):=fun F=>okB (N:=["works"]) F gM (iF gO) fun nd hr=>
 (fF (fT (fZ (j5 rfl (cok ["work"] [] []) (eY 0) (jJ (by decide)) (fun _ _ _ _=>(jP (show List.Nodup (["work"]:List Str)by decide) 0)) (fun _ _ _ _=>iU) (fun _ _ _ _=>(gP (eY 0) fE))))))
theorem aAX(pw:jT P w K mg base 5 "length" 2 kI)(d73:jT P w K mg base 1 "least_hours" 1 k7):Ky P w K mg base "least_end" "least_end" (top 30) ["works","needs"] 6 (spT K 2 mX):=fun F=>okB (N:=["works","needs"]) F gM (iF gO) fun nd hr=>
 (fF (fT (f8 pw (rdn hr) (eZ (f8 d73 (rdn hr) (eZ (eY 0) fD)) (eZ (eY 1) fD)))))
theorem zS:Ky P w K mg base "free_hours" "free_hours" (top 33) ["work"] 1 (spT K 1 l4):=fun F=>okB (N:=["work"]) F gM (iF gO) fun nd hr=>
 (fF (fT (aNa (vK (hu20 hr) (gP (eY 0) fE) fE) (gP (eY 0) fE) (gP (eY 0) fE))))
theorem aCN(pw:jT P w K mg base 5 "length" 2 kI)(zx:jT P w K mg base 1 "free_hours" 1 l4):Ky P w K mg base "free_end" "free_end" (top 31) ["works","needs"] 6 (spT K 2 nX):=fun F=>okB (N:=["works","needs"]) F gM (iF gO) fun nd hr=>
 (fF (fT (f8 pw (rdn hr) (eZ (fZ (j5 rfl (cok ["work"] [] []) (eY 0) (jJ (by decide)) (fun _ _ _ _=>(jP (show List.Nodup (["work"]:List Str)by decide) 0)) (fun _ _ _ _=>iU) (fun _ _ _ _=>(f8 zx (rdn hr) (eZ (eY 0) fD))))) (eZ (eY 1) fD)))))
theorem aCn(cy:iQ K "Pipe" "tail")(ed:iQ K "Pipe" "head")(jx:iQ K "Pipe" "hours")(cw:iQ K "Pipe" "room")(cv:iQ K "Pipe" "back"):Ky P w K mg base "__init__" "Pipe.__init__" (inClass (top 15) 0) ["self","tail","head","hours","room"] 1 (spS K 5 mI):=fun F=>okB (N:=["self","tail","head","hours","room"]) F jB j4 fun nd hr=>
 (fA (pE cy (eY 0) (eY 1))
  (fA (pE ed (eY 0) (eY 2))
  (fA (pE jx (eY 0) (eY 3))
  (fA (pE cw (eY 0) (eY 4))
  (fF (pE cv (eY 0) aNN))))))
theorem aD5(vm:aDN P w K mg base 1 "Pipe" 5 mI [] [])(cv:iQ K "Pipe" "back")(dy:iQ K "Net" "pipes"):Ky P w K mg base "lay" "Net.lay" (inClass (top 16) 1) ["self","tail","head","hours","room"] 3 (spS K 5 jL):=fun F=>okB (N:=["self","tail","head","hours","room","pipe","back"]) F jB j4 fun nd hr=>
 (fA (fN nd 5 (aA9 vm (rdn hr) (eZ (eY 1) (eZ (eY 2) (eZ (eY 3) (eZ (eY 4) fD))))))
  (fA (fN nd 6 (aA9 vm (rdn hr) (eZ (eY 2) (eZ (eY 1) (eZ (aNY (eY 3)) (eZ fE fD))))))
  (fA (pE cv (eY 5) (eY 6))
  (fA (pE cv (eY 6) (eY 5))
  (fF (n4 (jS dy (eY 0)) (eZ (eY 5) fD)))))))
theorem zG:Ky P w K mg base "begin_place" "begin_place" (top 17) ["work"] 1 (spT K 1 iS):=fun F=>okB (N:=["work"]) F gM (iF gO) fun nd hr=>
 (fF (fT (iR (kK fE (eY 0)) fE)))
theorem zX:Ky P w K mg base "done_place" "done_place" (top 18) ["work"] 1 (spT K 1 jC):=fun F=>okB (N:=["work"]) F gM (iF gO) fun nd hr=>
 (fF (fT (iR (kK fE (eY 0)) fE)))
theorem yP{dV:Value}(kz:m9 P w K mg base 3 "Net" "lay" 5 jL)(jm:jT P w K mg base 2 "needed_works" 2 gQ)(mx:jT P w K mg base 1 "begin_place" 1 iS)(mw:jT P w K mg base 1 "done_place" 1 jC)(dy:iQ K "Net" "pipes")(nv:iQ K "Net" "places")(qu:mg "enumerate"=none)(ax:mg "len"=none)(gi:mg "sum"=none)(ic:∃t,mg "SOURCE"=some (.int 0 t))(dw:∃t,mg "SINK"=some (.int 1 t))(F:aId K "__init__" "Net.__init__" (inClass (top 16) 0) f fd dV):nY P w K mg base CX0 4 f fd ["self","works","needs","bonus"] (spS K 4 lK):=okD (N:=["self","works","needs","bonus","plenty","number","work","second","firsts","first"]) F jB j4 fun nd hr=>
 (fA (pE dy (eY 0) (kJ (gG fD)))
  (fA (pE nv (eY 0) (iR (kK fE (l7 ax (eZ (eY 1) fD))) fE))
  (fA (fN nd 4 (iR (iR (aCm gi rfl (eZ (fZ (j5 rfl (cok ["work"] [] []) (eY 1) (jJ (by decide)) (fun _ _ _ _=>(jP (show List.Nodup (["work"]:List Str)by decide) 0)) (fun _ _ _ _=>iU) (fun _ _ _ _=>(gP (eY 0) fE)))) fD)) (eY 3)) fE))
  (fA (aES qu rfl (eY 1) (u3 rfl (kL nd 5 (kL nd 6 vD))) (fA (lZ (yZ kz (rdn hr) (eY 0) (eZ (mS ic) (eZ (f8 mx (rdn hr) (eZ (eY 5) fD)) (eZ fE (eZ (eY 4) fD))))))
  (fA (lZ (yZ kz (rdn hr) (eY 0) (eZ (f8 mx (rdn hr) (eZ (eY 5) fD)) (eZ (f8 mw (rdn hr) (eZ (eY 5) fD)) (eZ (gP (eY 6) fE) (eZ (gP (eY 6) fE) fD))))))
  (fA (lZ (yZ kz (rdn hr) (eY 0) (eZ (f8 mx (rdn hr) (eZ (eY 5) fD)) (eZ (f8 mw (rdn hr) (eZ (eY 5) fD)) (eZ (gP (eY 6) fE) (eZ (eY 4) fD))))))
  (fF (lZ (yZ kz (rdn hr) (eY 0) (eZ (f8 mw (rdn hr) (eZ (eY 5) fD)) (eZ (mS dw) (eZ fE (eZ (eY 4) fD)))))))))))
  (fF (aES qu rfl (f8 jm (rdn hr) (eZ (l7 ax (eZ (eY 1) fD)) (eZ (eY 2) fD))) (u3 rfl (kL nd 7 (kL nd 8 vD))) (fF (m4 rfl (eY 8) (jP nd 9) (fF (lZ (yZ kz (rdn hr) (eY 0) (eZ (f8 mw (rdn hr) (eZ (eY 9) fD)) (eZ (f8 mx (rdn hr) (eZ (eY 7) fD)) (eZ fE (eZ (eY 4) fD)))))))))))))))
theorem sR(dy:iQ K "Net" "pipes")(cv:iQ K "Pipe" "back")(cw:iQ K "Pipe" "room"):Ky P w K mg base "open_pipes" "Net.open_pipes" (inClass (top 16) 6) ["self"] 1 (spS K 1 iG):=fun F=>okB (N:=["self","both"]) F jB j4 fun nd hr=>
 (fA (fN nd 1 (fZ (aGB (jS dy (eY 0)) (fZ (j5 rfl (cok ["pipe"] [] []) (jS dy (eY 0)) (jJ (by decide)) (fun _ _ _ _=>(jP (show List.Nodup (["pipe"]:List Str)by decide) 0)) (fun _ _ _ _=>iU) (fun _ _ _ _=>(jS cv (eY 0))))))))
  (fF (fT (fZ (j5 rfl (cok ["pipe"] [] []) (eY 1) (jJ (by decide)) (fun _ _ _ _=>(jP (show List.Nodup (["pipe"]:List Str)by decide) 0)) (fun _ _ _ _=>(sO (aC4 (jS cw (eY 0)) fE))) (fun _ _ _ _=>(eY 0)))))))
theorem t6(jx:iQ K "Pipe" "hours")(cy:iQ K "Pipe" "tail")(ed:iQ K "Pipe" "head"):Ky P w K mg base "raise_moments" "raise_moments" (top 20) ["moments","pipes"] 1 (spS K 2 lB):=fun F=>okB (N:=["moments","pipes","raised","pipe","reached"]) F jB j4 fun nd hr=>
 (fA (fN nd 2 qO)
  (fA (m4 rfl (eY 1) (jP nd 3) (fA (fN nd 4 (iR (gP (eY 0) (jS cy (eY 3))) (jS jx (eY 3))))
  (fF (j7 (aC4 (eY 4) (gP (eY 0) (jS ed (eY 3)))) (fA (v6 (eY 4) (eY 0) (jS ed (eY 3)))
  (fF (fN nd 2 qO))) iC))))
  (fF (fT (eY 2)))))
theorem zB(jw:m9 P w K mg base 1 "Net" "open_pipes" 1 iG)(zw:sU P w K mg base 1 "raise_moments" 2 lB)(nv:iQ K "Net" "places")(bh:mg "range"=none)(dw:∃t,mg "SINK"=some (.int 1 t)):Ky P w K mg base "moments" "Net.moments" (inClass (top 16) 4) ["self","end"] 2 (spS K 2 iL):=fun F=>okB (N:=["self","end","found","pipes"]) F jB j4 fun nd hr=>
 (fA (uQ nd 2 bh rfl (cok ["place"] [] []) (jS nv (eY 0)) (jJ (by decide)) (fun _ _ _ _=>(jP (show List.Nodup (["place"]:List Str)by decide) 0)) (fun _ _ _ _=>iU) (fun _ _ _ _=>fE))
  (fA (v6 (eY 1) (eY 2) (mS dw))
  (fA (fN nd 3 (vB jw (rdn hr) (eY 0)))
  (fA (mU (10^200) (l9 (kF zw (rdn hr) (eZ (eY 2) (eZ (eY 3) fD)))) (fF aJQ))
  (fF (fT (eY 2)))))))
theorem xR(cy:iQ K "Pipe" "tail")(ed:iQ K "Pipe" "head"):Ky P w K mg base "next_routes" "next_routes" (top 22) ["routes","pipes"] 1 (spS K 2 mQ):=fun F=>okB (N:=["routes","pipes","fresh","pipe"]) F jB j4 fun nd hr=>
 (fA (fN nd 2 aIX)
  (fA (m4 rfl (eY 1) (jP nd 3) (fF (j7 (t_w (aCI (aNZ (hu20 hr) (jS cy (eY 3)) (eY 0)) (xX (aHt (hu20 hr) (jS ed (eY 3)) (eY 0))))) (fF (aEI (hu20 hr) (eY 2) (jS ed (eY 3)) (fZ (aGB (aA3 (hu20 hr) (eY 0) (jS cy (eY 3))) (fZ (gG (eZ (eY 3) fD))))))) iC)))
  (fF (fT (eY 2)))))
theorem w6(zu:sU P w K mg base 1 "next_routes" 2 mQ)(jx:iQ K "Pipe" "hours")(ed:iQ K "Pipe" "head")(cy:iQ K "Pipe" "tail")(ic:∃t,mg "SOURCE"=some (.int 0 t))(dw:∃t,mg "SINK"=some (.int 1 t)):Ky P w K mg base "tight_route" "tight_route" (top 21) ["pipes","moments"] 2 (spS K 2 kB):=fun F=>okB (N:=["pipes","moments","tight","routes"]) F jB j4 fun nd hr=>
 (fA (aKo nd 2 rfl (cok ["pipe"] ["moments"] [1]) (eY 0) (jJ (by decide)) (fun _ _ _ _=>(jP (show List.Nodup (["pipe","moments"]:List Str)by decide) 0)) (fun _ _ _ _=>(sO (vK (hu20 hr) (iR (gP (eY 1) (jS cy (eY 0))) (jS jx (eY 0))) (gP (eY 1) (jS ed (eY 0)))))) (fun _ _ _ _=>(eY 0)))
  (fA (fN nd 3 (aI0 (mS ic) (fZ (gG fD))))
  (fA (mU 40 (aHt (hu20 hr) (mS dw) (eY 3)) (fF (lZ (aMg (eY 3) (kF zu (rdn hr) (eZ (eY 3) (eZ (eY 2) fD)))))))
  (fF (fT (aA3 (hu20 hr) (eY 3) (mS dw)))))))
theorem aJ6(cw:iQ K "Pipe" "room")(cv:iQ K "Pipe" "back"):Ky P w K mg base "pour" "pour" (top 24) ["route","amount"] 1 (spS K 2 uH):=fun F=>okB (N:=["route","amount","pipe"]) F jB j4 fun nd hr=>
 (fF (m4 rfl (eY 0) (jP nd 2) (fA (aFP cw (eY 2) (eY 1))
  (fF (aE3 cw (jS cv (eY 2)) (eY 1))))))
theorem aD2(cw:iQ K "Pipe" "room")(bo:mg "min"=none):Ky P w K mg base "room_on" "room_on" (top 23) ["route"] 1 (spS K 1 nO):=fun F=>okB (N:=["route"]) F jB j4 fun nd hr=>
 (fF (fT (aAZ bo rfl (eZ (fZ (j5 rfl (cok ["pipe"] [] []) (eY 0) (jJ (by decide)) (fun _ _ _ _=>(jP (show List.Nodup (["pipe"]:List Str)by decide) 0)) (fun _ _ _ _=>iU) (fun _ _ _ _=>(jS cw (eY 0))))) fD))))
theorem aCq(jl:m9 P w K mg base 2 "Net" "moments" 2 iL)(pq:sU P w K mg base 2 "tight_route" 2 kB)(pj:sU P w K mg base 1 "pour" 2 uH)(jw:m9 P w K mg base 1 "Net" "open_pipes" 1 iG)(pi:sU P w K mg base 1 "room_on" 1 nO)(dw:∃t,mg "SINK"=some (.int 1 t)):Ky P w K mg base "fill" "Net.fill" (inClass (top 16) 2) ["self","end"] 3 (spS K 2 pJ):=fun F=>okB (N:=["self","end","moments","route"]) F jB j4 fun nd hr=>
 (fA (fN nd 2 (yZ jl (rdn hr) (eY 0) (eZ fE fD)))
  (fF (mU (10^200) (aC4 (gP (eY 2) (mS dw)) (eY 1)) (fA (fN nd 3 (kF pq (rdn hr) (eZ (vB jw (rdn hr) (eY 0)) (eZ (eY 2) fD))))
  (fA (lZ (kF pj (rdn hr) (eZ (eY 3) (eZ (kF pi (rdn hr) (eZ (eY 3) fD)) fD))))
  (fF (fN nd 2 (yZ jl (rdn hr) (eY 0) (eZ fE fD)))))))))
theorem sD(jl:m9 P w K mg base 2 "Net" "moments" 2 iL)(dw:∃t,mg "SINK"=some (.int 1 t)):Ky P w K mg base "open_length" "Net.open_length" (inClass (top 16) 5) ["self"] 3 (spS K 1 kD):=fun F=>okB (N:=["self"]) F jB j4 fun nd hr=>
 (fF (fT (gP (yZ jl (rdn hr) (eY 0) (eZ fE fD)) (mS dw))))
theorem zR(cw:iQ K "Pipe" "room")(cv:iQ K "Pipe" "back")(dy:iQ K "Net" "pipes")(cy:iQ K "Pipe" "tail")(gi:mg "sum"=none)(ic:∃t,mg "SOURCE"=some (.int 0 t)):Ky P w K mg base "amount" "Net.amount" (inClass (top 16) 7) ["self"] 1 (spS K 1 j6):=fun F=>okB (N:=["self"]) F jB j4 fun nd hr=>
 (fF (fT (aCm gi rfl (eZ (fZ (j5 rfl (cok ["pipe"] [] []) (jS dy (eY 0)) (jJ (by decide)) (fun _ _ _ _=>(jP (show List.Nodup (["pipe"]:List Str)by decide) 0)) (fun _ _ _ _=>(sO (vK (hu20 hr) (jS cy (eY 0)) (mS ic)))) (fun _ _ _ _=>(jS cw (jS cv (eY 0)))))) fD))))
theorem aDi(zt:jT P w K mg base 6 "least_end" 2 mX)(zr:jT P w K mg base 6 "free_end" 2 nX)(zq:aDN P w K mg base 4 "Net" 4 lK [.int 0] [.int 0])(zp:m9 P w K mg base 3 "Net" "fill" 2 pJ)(zo:m9 P w K mg base 3 "Net" "open_length" 1 kD)(mv:m9 P w K mg base 1 "Net" "amount" 1 j6):Ky P w K mg base "corners" "corners" (top 35) ["works","needs"] 7 (aBT K 2 kW):=fun F=>okB (N:=["works","needs","last","end","price","found","net","sooner"]) F aCD (aEp aBM) fun nd hr=>
 (fA (fN nd 2 (f8 zt (rdn hr) (eZ (eY 0) (eZ (eY 1) fD))))
  (fA (fN nd 3 (f8 zr (rdn hr) (eZ (eY 0) (eZ (eY 1) fD))))
  (fA (fN nd 4 fE)
  (fA (fN nd 5 (kJ (gG (eZ (kJ (gG (eZ (eY 3) (eZ (eY 4) fD)))) fD))))
  (fA (fN nd 6 (aA9 zq (rdn hr) (eZ (eY 0) (eZ (eY 1) fD))))
  (fA (mU (10^200) (aC4 (eY 3) (eY 2)) (fA (lZ (yZ zp (rdn hr) (eY 6) (eZ (mV (eY 3) fE) fD)))
  (fA (fN nd 7 (vB zo (rdn hr) (eY 6)))
  (fA (aFn nd 4 (kK (vB mv (rdn hr) (eY 6)) (mV (eY 3) (eY 7))))
  (fA (fN nd 3 (eY 7))
  (fF (n4 (eY 5) (eZ (kJ (gG (eZ (eY 3) (eZ (eY 4) fD)))) fD))))))))
  (fF (fT (eY 5)))))))))
theorem aDw(bh:mg "range"=none)(ax:mg "len"=none)(jp:mg "max"=none):Ky P w K mg base "_law_bonus" "_law_bonus" (top 54) ["_law_found","_law_cell"] 1 (spT K 2 nQ):=fun F=>okB (N:=["_law_found","_law_cell","_law_steps","_law_k","_law_dearer","_law_step"]) F gM (iF gO) fun nd hr=>
 (fA (fN nd 2 (kJ (gG (eZ fE fD))))
  (fA (yF bh rfl fE (l7 ax (eZ (eY 0) fD)) (jP nd 3) (fA (fN nd 4 (mV (gP (gP (eY 0) (eY 3)) fE) (gP (gP (eY 0) (mV (eY 3) fE)) fE)))
  (fF (n4 (eY 2) (eZ (vW (eY 4) (aM0 jp rfl (eZ fE (eZ (mV (gP (gP (eY 0) (mV (eY 3) fE)) fE) (gP (gP (eY 0) (eY 3)) fE)) fD)))) fD)))))
  (fA (fN nd 5 (gP (eY 2) (iK (kS (eY 1) fE) (l7 ax (eZ (eY 2) fD)))))
  (fF (fT (gP (fZ (gG (eZ (eY 5) (eZ (mV (eY 5) fE) (eZ (iR (eY 5) fE) (eZ (eY 5) (eZ (kK (iK (eY 1) (aHk fE fE)) (iK (iK (kS (eY 1) fE) fE) fE)) fD))))))) (iK (eY 1) fE)))))))
theorem aCR(mv:m9 P w K mg base 1 "Net" "amount" 1 j6)(pq:sU P w K mg base 2 "tight_route" 2 kB)(pj:sU P w K mg base 1 "pour" 2 uH)(jw:m9 P w K mg base 1 "Net" "open_pipes" 1 iG)(jl:m9 P w K mg base 2 "Net" "moments" 2 iL)(pi:sU P w K mg base 1 "room_on" 1 nO)(bo:mg "min"=none):Ky P w K mg base "lead" "Net.lead" (inClass (top 16) 3) ["self","amount"] 3 (spS K 2 pN):=fun F=>okB (N:=["self","amount","missing","route"]) F jB j4 fun nd hr=>
 (fA (fN nd 2 (mV (eY 1) (vB mv (rdn hr) (eY 0))))
  (fF (mU (10^200) (aC4 (eY 2) fE) (fA (fN nd 3 (kF pq (rdn hr) (eZ (vB jw (rdn hr) (eY 0)) (eZ (yZ jl (rdn hr) (eY 0) (eZ fE fD)) fD))))
  (fA (lZ (kF pj (rdn hr) (eZ (eY 3) (eZ (qX bo rfl (eZ (eY 2) (eZ (kF pi (rdn hr) (eZ (eY 3) fD)) fD))) fD))))
  (fF (fN nd 2 (mV (eY 1) (vB mv (rdn hr) (eY 0))))))))))
theorem zM:Ky P w K mg base "steps_from" "steps_from" (top 26) ["place","flows"] 1 (spS K 2 l5):=fun F=>okB (N:=["place","flows"]) F jB j4 fun nd hr=>
 (fF (fT (fZ (aJl rfl (cok ["step"] ["place","flows"] [0,1]) (eY 1) (jJ (by decide)) (fun _ _ _ _=>(jP (show List.Nodup (["step","place","flows"]:List Str)by decide) 0)) (fun _ _ _ _=>(sO (t_w (aCI (vK (hu20 hr) (gP (eY 0) fE) (eY 1)) (xX (aC4 (aA3 (hu20 hr) (eY 2) (eY 0)) fE)))))) (fun _ _ _ _=>(eY 0))))))
theorem uL(vj:sU P w K mg base 1 "steps_from" 2 l5)(ic:∃t,mg "SOURCE"=some (.int 0 t)):Ky P w K mg base "flowing_route" "flowing_route" (top 25) ["flows"] 2 (spS K 1 j8):=fun F=>okB (N:=["flows","route","steps"]) F jB j4 fun nd hr=>
 (fA (fN nd 1 (kJ (gG fD)))
  (fA (fN nd 2 (kF vj (rdn hr) (eZ (mS ic) (eZ (eY 0) fD))))
  (fA (mU 40 (l9 (eY 2)) (fA (n4 (eY 1) (eZ (gP (eY 2) fE) fD))
  (fF (fN nd 2 (kF vj (rdn hr) (eZ (gP (gP (eY 2) fE) fE) (eZ (eY 0) fD)))))))
  (fF (fT (eY 1))))))
theorem aDV:Ky P w K mg base "work_at" "work_at" (top 19) ["place"] 1 (spT K 1 rA):=fun F=>okB (N:=["place"]) F gM (iF gO) fun nd hr=>
 (fF (fT (mV (kS (eY 0) fE) fE)))
theorem aCZ(zn:jT P w K mg base 1 "work_at" 1 rA):Ky P w K mg base "works_on" "works_on" (top 28) ["route"] 2 (spS K 1 pB):=fun F=>okB (N:=["route"]) F jB j4 fun nd hr=>
 (fF (fT (fZ (j5 rfl (cok ["tail","head"] [] []) (fZ (aND (eY 0))) (aDZ (by decide)) (fun _ _ _ _=>(u3 rfl (kL (show List.Nodup (["tail","head"]:List Str)by decide) 0 (kL (show List.Nodup (["tail","head"]:List Str)by decide) 1 vD)))) (fun _ _ _ _=>iU) (fun _ _ _ _=>(f8 zn (rdn hr) (eZ (eY 0) fD)))))))
theorem aCb(bo:mg "min"=none):Ky P w K mg base "take_out" "take_out" (top 27) ["flows","route"] 1 (spS K 2 pC):=fun F=>okB (N:=["flows","route","amount","step"]) F jB j4 fun nd hr=>
 (fA (fN nd 2 (aAZ bo rfl (eZ (fZ (j5 rfl (cok ["step"] ["flows"] [0]) (eY 1) (jJ (by decide)) (fun _ _ _ _=>(jP (show List.Nodup (["step","flows"]:List Str)by decide) 0)) (fun _ _ _ _=>iU) (fun _ _ _ _=>(aA3 (hu20 hr) (eY 1) (eY 0))))) fD)))
  (fA (m4 rfl (eY 1) (jP nd 3) (fF (aDr (hu20 hr) (eY 0) (eY 3) (eY 2))))
  (fF (fT (eY 2)))))
theorem zP(vh:sU P w K mg base 2 "flowing_route" 1 j8)(zm:sU P w K mg base 2 "works_on" 1 pB)(zl:sU P w K mg base 1 "take_out" 2 pC)(dy:iQ K "Net" "pipes")(cy:iQ K "Pipe" "tail")(ed:iQ K "Pipe" "head")(cw:iQ K "Pipe" "room")(cv:iQ K "Pipe" "back"):Ky P w K mg base "stream" "Net.stream" (inClass (top 16) 8) ["self"] 3 (spS K 1 nC):=fun F=>okB (N:=["self","flows","pipe","step","rows","route"]) F jB j4 fun nd hr=>
 (fA (fN nd 1 aJZ)
  (fA (m4 rfl (jS dy (eY 0)) (jP nd 2) (fA (fN nd 3 (aDH (eZ (jS cy (eY 2)) (eZ (jS ed (eY 2)) fD))))
  (fF (aEI (hu20 hr) (eY 1) (eY 3) (iR (aJE (hu20 hr) (eY 1) (eY 3) fE) (jS cw (jS cv (eY 2))))))))
  (fA (fN nd 4 (kJ (gG fD)))
  (fA (fN nd 5 (kF vh (rdn hr) (eZ (eY 1) fD)))
  (fA (mU (10^200) (l9 (eY 5)) (fA (n4 (eY 4) (eZ (kJ (aGB (fZ (gG (eZ (kF zl (rdn hr) (eZ (eY 1) (eZ (eY 5) fD))) fD))) (kF zm (rdn hr) (eZ (eY 5) fD)))) fD))
  (fF (fN nd 5 (kF vh (rdn hr) (eZ (eY 1) fD))))))
  (fF (fT (eY 4))))))))
theorem vM(px:jT P w K mg base 3 "order_of" 2 lE)(zk:aDN P w K mg base 4 "Net" 4 lK [] [])(zj:m9 P w K mg base 3 "Net" "lead" 2 pN)(zi:m9 P w K mg base 3 "Net" "stream" 1 nC)(ax:mg "len"=none):Ky P w K mg base "bonus_stream" "bonus_stream" (top 38) ["works","needs","bonus"] 6 (aBT K 3 kO):=fun F=>okB (N:=["works","needs","bonus","net"]) F aCD (aEp aBM) fun nd hr=>
 (fA (lZ (f8 px (rdn hr) (eZ (l7 ax (eZ (eY 0) fD)) (eZ (eY 1) fD))))
  (fA (j7 (oG (l9 (eY 0))) (fF (fT (kJ (gG fD)))) iC)
  (fA (fN nd 3 (aA9 zk (rdn hr) (eZ (eY 0) (eZ (eY 1) (eZ (eY 2) fD)))))
  (fA (lZ (yZ zj (rdn hr) (eY 3) (eZ (eY 2) fD)))
  (fF (fT (vB zi (rdn hr) (eY 3))))))))
theorem aDJ:Ky P w K mg base "_law_spoil" "_law_spoil" (top 55) ["_law_rows"] 1 (aDj K 1 mF):=fun F=>okB (N:=["_law_rows","_law_row"]) F aGO aJT fun nd hr=>
 (fA (m4 rfl (eY 0) (jP nd 1) (fF (n4 (eY 1) (eZ fE fD))))
  (fF (n4 (eY 0) (eZ (fZ (gG (eZ fE fD))) fD))))
theorem aG5(ig:mg "isinstance"=none)(cj:mg "int"=none)(wm:mg "bool"=none):Ky P w K mg base "_law_whole" "_law_whole" (top 42) ["_law_found"] 1 (spT K 1 jV):=fun F=>okB (N:=["_law_found"]) F gM (iF gO) fun nd hr=>
 (fF (fT (aNM (aEY ig cj (eY 0)) (aNs (aNS (aDY ig wm (eY 0)))))))
theorem aD0(ce:jT P w K mg base 1 "_law_whole" 1 jV)(ig:mg "isinstance"=none)(ie:mg "list"=none)(ax:mg "len"=none):Ky P w K mg base "_law_pairs" "_law_pairs" (top 50) ["_law_found"] 2 (spT K 1 oU):=fun F=>okB (N:=["_law_found","_law_row"]) F gM (iF gO) fun nd hr=>
 (fA (j7 (t_w (vN (oG (l9 (pF ig ie (eY 0)))) (xO (vK (hu20 hr) (eY 0) (fZ (gG fD)))))) (fF (fT qO)) iC)
  (fA (m4 rfl (eY 0) (jP nd 1) (fF (j7 (t_w (vN (oG (l9 (pF ig ie (eY 1)))) (vN (aGS (hu20 hr) (l7 ax (eZ (eY 1) fD)) fE) (vN (oG (l9 (f8 ce (rdn hr) (eZ (gP (eY 1) fE) fD)))) (xO (oG (l9 (f8 ce (rdn hr) (eZ (gP (eY 1) fE) fD))))))))) (fF (fT qO)) iC)))
  (fF (fT qO))))
theorem aCC(ce:jT P w K mg base 1 "_law_whole" 1 jV)(bh:mg "range"=none)(ax:mg "len"=none):Ky P w K mg base "_law_is_way" "_law_is_way" (top 51) ["_law_many","_law_needs","_law_some"] 2 (spT K 3 mH):=fun F=>okB (N:=["_law_many","_law_needs","_law_some","_law_k"]) F gM (iF gO) fun nd hr=>
 (fA (j7 (vK (hu20 hr) (eY 2) (fZ (gG fD))) (fF (fT qO)) iC)
  (fA (nW bh rfl (l7 ax (eZ (eY 2) fD)) (jP nd 3) (fA (j7 (t_w (vN (oG (l9 (f8 ce (rdn hr) (eZ (gP (eY 2) (eY 3)) fD)))) (vN (aIb (gP (eY 2) (eY 3)) fE) (xO (aOc (gP (eY 2) (eY 3)) (eY 0)))))) (fF (fT qO)) iC)
  (fF (j7 (t_w (aCI (aC4 (eY 3) fE) (xX (aHP (hu20 hr) (fZ (gG (eZ (gP (eY 2) (mV (eY 3) fE)) (eZ (gP (eY 2) (eY 3)) fD)))) (eY 1))))) (fF (fT qO)) iC))))
  (fF (fT qO))))
theorem wV(nq:jT P w K mg base 2 "_law_is_way" 3 mH)(ce:jT P w K mg base 1 "_law_whole" 1 jV)(ig:mg "isinstance"=none)(ie:mg "list"=none)(ax:mg "len"=none):Ky P w K mg base "_law_is_stream" "_law_is_stream" (top 52) ["_law_many","_law_needs","_law_rows"] 3 (spT K 3 k8):=fun F=>okB (N:=["_law_many","_law_needs","_law_rows","_law_row"]) F gM (iF gO) fun nd hr=>
 (fA (j7 (oG (l9 (pF ig ie (eY 2)))) (fF (fT qO)) iC)
  (fA (m4 rfl (eY 2) (jP nd 3) (fA (j7 (t_w (vN (oG (l9 (pF ig ie (eY 3)))) (vN (aIb (l7 ax (eZ (eY 3) fD)) fE) (vN (oG (l9 (f8 ce (rdn hr) (eZ (gP (eY 3) fE) fD)))) (xO (aIb (gP (eY 3) fE) fE)))))) (fF (fT qO)) iC)
  (fF (j7 (oG (l9 (f8 nq (rdn hr) (eZ (eY 0) (eZ (eY 1) (eZ (fZ (vV (eY 3) (aBH fE) tO)) fD)))))) (fF (fT qO)) iC))))
  (fF (fT qO))))
theorem aDe(bh:mg "range"=none)(ax:mg "len"=none)(gi:mg "sum"=none)(bo:mg "min"=none):Ky P w K mg base "_law_worth" "_law_worth" (top 53) ["_law_works","_law_rows","_law_end"] 1 (spT K 3 oZ):=fun F=>okB (N:=["_law_works","_law_rows","_law_end","_law_total","_law_k","_law_usual","_law_least","_law_price","_law_amount"]) F gM (iF gO) fun nd hr=>
 (fA (fN nd 3 (mV fE (kK (eY 2) (aCm gi rfl (eZ (fZ (j5 rfl (cok ["_law_row"] [] []) (eY 1) (jJ (by decide)) (fun _ _ _ _=>(jP (show List.Nodup (["_law_row"]:List Str)by decide) 0)) (fun _ _ _ _=>iU) (fun _ _ _ _=>(gP (eY 0) fE)))) fD)))))
  (fA (nW bh rfl (l7 ax (eZ (eY 0) fD)) (jP nd 4) (fA (aHH (gP (eY 0) (eY 4)) (u3 rfl (kL nd 5 (kL nd 6 (kL nd 7 vD)))))
  (fA (fN nd 8 (aCm gi rfl (eZ (fZ (j5 rfl (cok ["_law_row"] ["_law_k"] [4]) (eY 1) (jJ (by decide)) (fun _ _ _ _=>(jP (show List.Nodup (["_law_row","_law_k"]:List Str)by decide) 0)) (fun _ _ _ _=>(sO (aN8 (hu20 hr) (eY 1) (fZ (vV (eY 0) (aBH fE) tO))))) (fun _ _ _ _=>(gP (eY 0) fE)))) fD)))
  (fF (fN nd 3 (iR (eY 3) (qX bo rfl (eZ (kK (eY 8) (eY 5)) (eZ (iR (kK (eY 7) (mV (eY 5) (eY 6))) (kK (eY 8) (eY 6))) fD)))))))))
  (fF (fT (eY 3)))))
theorem zV:Ky P w K mg base "corner_sum" "corner_sum" (top 40) ["corner","bonus"] 1 (spT K 2 k6):=fun F=>okB (N:=["corner","bonus"]) F gM (iF gO) fun nd hr=>
 (fF (fT (iR (gP (eY 0) fE) (kK (eY 1) (gP (eY 0) fE)))))
theorem aBh(nl:jT P w K mg base 1 "corner_sum" 2 k6)(bo:mg "min"=none):Ky P w K mg base "least_sum" "least_sum" (top 39) ["told","bonus"] 2 (spT K 2 lJ):=fun F=>okB (N:=["told","bonus"]) F gM (iF gO) fun nd hr=>
 (fF (fT (aAZ bo rfl (eZ (fZ (j5 rfl (cok ["corner"] ["bonus"] [1]) (eY 0) (jJ (by decide)) (fun _ _ _ _=>(jP (show List.Nodup (["corner","bonus"]:List Str)by decide) 0)) (fun _ _ _ _=>iU) (fun _ _ _ _=>(f8 nl (rdn hr) (eZ (eY 0) (eZ (eY 1) fD)))))) fD))))
theorem aBY(nk:jT P w K mg base 2 "least_sum" 2 lJ)(ib:aCu P w K mg base 7 "corners" 2 kW):Ky P w K mg base "best_sum" "best_sum" (top 37) ["works","needs","bonus"] 8 (spT K 3 nT):=fun F=>okB (N:=["works","needs","bonus"]) F gM (iF gO) fun nd hr=>
 (fF (fT (f8 nk (rdn hr) (eZ (aBj ib (rdn hr) (eZ (eY 0) (eZ (eY 1) fD))) (eZ (eY 2) fD)))))
theorem aLH(nj:jT P w K mg base 3 "_law_lot" 3 aAD)(ib:aCu P w K mg base 7 "corners" 2 kW)(ni:jT P w K mg base 1 "_law_bonus" 2 nQ)(nh:aCu P w K mg base 6 "bonus_stream" 3 kO)(ng:aID P w K mg base 1 "_law_spoil" 1 mF)(nc:jT P w K mg base 2 "_law_pairs" 1 oU)(gd:jT P w K mg base 1 "_law_cell_at" 2 iZ)(nb:jT P w K mg base 3 "_law_is_stream" 3 k8)(na:jT P w K mg base 1 "_law_worth" 3 oZ)(mz:jT P w K mg base 8 "best_sum" 3 nT)(bo:mg "min"=none)(gi:mg "sum"=none)(ie:mg "list"=none)(cj:mg "int"=none)(ax:mg "len"=none):Ky P w K mg base "law" "law" (top 56) ["_law_script"] 9 (spT K 1 aER):=fun F=>okB (N:=["_law_script","_law_works","_law_needs","_law_found","_law_bonus_here","_law_handed","_law_rows","_law_total"]) F gM (iF gO) fun nd hr=>
 (fA (aHH (f8 nj (rdn hr) (eZ (eY 0) (eZ fE (eZ (aHk fE fE) fD)))) (u3 rfl (kL nd 1 (kL nd 2 vD))))
  (fA (fN nd 3 (aBj ib (rdn hr) (eZ (eY 1) (eZ (eY 2) fD))))
  (fA (j7 (oG (l9 (f8 nc (rdn hr) (eZ (eY 3) fD)))) (fF (fT qO)) iC)
  (fA (fN nd 4 (f8 ni (rdn hr) (eZ (eY 3) (eZ (f8 gd (rdn hr) (eZ (eY 0) (eZ fE fD))) fD))))
  (fA (fN nd 5 (fZ (gG (eZ (fZ (j5 rfl (cok ["_law_work_here"] [] []) (eY 1) (jJ (by decide)) (fun _ _ _ _=>(jP (show List.Nodup (["_law_work_here"]:List Str)by decide) 0)) (fun _ _ _ _=>iU) (fun _ _ _ _=>(fZ (aG0 ie (eZ (eY 0) fD)))))) (eZ (fZ (j5 rfl (cok ["_law_pair"] [] []) (eY 2) (jJ (by decide)) (fun _ _ _ _=>(jP (show List.Nodup (["_law_pair"]:List Str)by decide) 0)) (fun _ _ _ _=>iU) (fun _ _ _ _=>(fZ (aG0 ie (eZ (eY 0) fD)))))) fD)))))
  (fA (fN nd 6 (aBj nh (rdn hr) (eZ (gP (eY 5) fE) (eZ (gP (eY 5) fE) (eZ (eY 4) fD)))))
  (fA (j7 (t_w (vN (aGS (hu20 hr) (eY 5) (fZ (gG (eZ (eY 1) (eZ (eY 2) fD))))) (xO (oG (l9 (f8 nb (rdn hr) (eZ (l7 ax (eZ (eY 1) fD)) (eZ (eY 2) (eZ (eY 6) fD))))))))) (fF (fT qO)) iC)
  (fA (j7 (aGS (hu20 hr) (aCm gi rfl (eZ (fZ (j5 rfl (cok ["_law_row"] [] []) (eY 6) (jJ (by decide)) (fun _ _ _ _=>(jP (show List.Nodup (["_law_row"]:List Str)by decide) 0)) (fun _ _ _ _=>iU) (fun _ _ _ _=>(gP (eY 0) fE)))) fD)) (kK (eY 4) (qI cj (eZ (aDD (l7 ax (eZ (eY 1) fD)) fE) fD)))) (fF (fT qO)) iC)
  (fA (fN nd 7 (aAZ bo rfl (eZ (fZ (j5 rfl (cok ["_law_end","_law_price"] ["_law_bonus_here"] [4]) (eY 3) (aDZ (by decide)) (fun _ _ _ _=>(u3 rfl (kL (show List.Nodup (["_law_end","_law_price","_law_bonus_here"]:List Str)by decide) 0 (kL (show List.Nodup (["_law_end","_law_price","_law_bonus_here"]:List Str)by decide) 1 vD)))) (fun _ _ _ _=>iU) (fun _ _ _ _=>(iR (eY 1) (kK (eY 2) (eY 0)))))) fD)))
  (fA (j7 (t_w (vN (aGS (hu20 hr) (f8 na (rdn hr) (eZ (eY 1) (eZ (eY 6) (eZ fE fD)))) (eY 7)) (xO (aGS (hu20 hr) (f8 mz (rdn hr) (eZ (gP (eY 5) fE) (eZ (gP (eY 5) fE) (eZ (eY 4) fD)))) (eY 7))))) (fF (fT qO)) iC)
  (fA (aMn ng (rdn hr) (eZ (eY 6) fD))
  (fF (fT (aOe (hu20 hr) (eY 5) (fZ (gG (eZ (eY 1) (eZ (eY 2) fD))))))))))))))))))
end
set_option maxHeartbeats 0 in
theorem aMv{l:aPH}{w:World}{K:aO}{h:Heap}{mg:Str->Option Value}{fa:Addr}(X:K.In h)(G:h.Ns mainGlobals mg)(hfa:mg "law"=some (.ref fa))
 {ny:Addr}(h60:Cm K "Pipe" ny)
 {gq:Addr}(h61:Cm K "Net" gq)
 (v60:bZ K (.ref ny) "tail"=some none)
 (v61:bZ K (.ref ny) "head"=some none)
 (v62:bZ K (.ref ny) "hours"=some none)
 (v63:bZ K (.ref ny) "room"=some none)
 (v64:bZ K (.ref ny) "back"=some none)
 (v65:bZ K (.ref gq) "pipes"=some none)
 (v66:bZ K (.ref gq) "places"=some none)
 (a1:Nm K "_law_mixed" (top 44))
 (a2:Nm K "_law_cell_at" (top 43))
 (a3:Nm K "_law_numbers" (top 46))
 (a4:Nm K "_law_names" (top 45))
 (a5:Nm K "_law_lot_free" (top 48))
 (a6:Nm K "_law_work" (top 47))
 (a7:Nm K "_law_lot" (top 49))
 (a8:Nm K "done_moments" (top 11))
 (a9:Nm K "is_work" (top 5))
 (a10:Nm K "needed_works" (top 6))
 (a11:Nm K "least_ready" (top 7))
 (a12:Nm K "order_of" (top 4))
 (a13:Nm K "earliest" (top 9))
 (a14:Nm K "length" (top 10))
 (a15:Nm K "least_hours" (top 32))
 (a16:Nm K "least_end" (top 30))
 (a17:Nm K "free_hours" (top 33))
 (a18:Nm K "free_end" (top 31))
 (a19:Mm K ny "__init__" "Pipe.__init__" (inClass (top 15) 0))
 (a20:Mm K gq "lay" "Net.lay" (inClass (top 16) 1))
 (a21:Nm K "begin_place" (top 17))
 (a22:Nm K "done_place" (top 18))
 {ph:Addr}{wd an23:Option Addr}{vx:Array (Option Value)}{wf ww zh wa uj ct23:Value}
 {T23:Addr}
 (a23:bZ K (.ref gq) "__init__"=some (some (.ref ph)))(l23:K.lookup ph=some ⟨wf,wd,.func (cJ "__init__" "Net.__init__" (jU (inClass (top 16) 0)) (jD (inClass (top 16) 0)) (gJ (inClass (top 16) 0)) (.ref T23) ww zh wa an23 uj ct23),vx⟩)(c23:dM K uj "Net.__init__"=true)(k23:cH K (.ref ph)=true)
 (n23:aOp K (.ref ph)=true)
 {qf:Value}{qe:Option Addr}{vq:Nat}{qd:Array (Option Value)}{qc:Tok}(d23:K.lookup T23=some ⟨qf,qe,.seq #[.int 0 qc] vq,qd⟩)
 (a24:Mm K gq "open_pipes" "Net.open_pipes" (inClass (top 16) 6))
 (a25:Nm K "raise_moments" (top 20))
 (a26:Mm K gq "moments" "Net.moments" (inClass (top 16) 4))
 (a27:Nm K "next_routes" (top 22))
 (a28:Nm K "tight_route" (top 21))
 (a29:Nm K "pour" (top 24))
 (a30:Nm K "room_on" (top 23))
 (a31:Mm K gq "fill" "Net.fill" (inClass (top 16) 2))
 (a32:Mm K gq "open_length" "Net.open_length" (inClass (top 16) 5))
 (a33:Mm K gq "amount" "Net.amount" (inClass (top 16) 7))
 (a34:Nm K "corners" (top 35))
 (a35:Nm K "_law_bonus" (top 54))
 (a36:Mm K gq "lead" "Net.lead" (inClass (top 16) 3))
 (a37:Nm K "steps_from" (top 26))
 (a38:Nm K "flowing_route" (top 25))
 (a39:Nm K "work_at" (top 19))
 (a40:Nm K "works_on" (top 28))
 (a41:Nm K "take_out" (top 27))
 (a42:Mm K gq "stream" "Net.stream" (inClass (top 16) 8))
 (a43:Nm K "bonus_stream" (top 38))
 (a44:Nm K "_law_spoil" (top 55))
 (a45:Nm K "_law_whole" (top 42))
 (a46:Nm K "_law_pairs" (top 50))
 (a47:Nm K "_law_is_way" (top 51))
 (a48:Nm K "_law_is_stream" (top 52))
 (a49:Nm K "_law_worth" (top 53))
 (a50:Nm K "corner_sum" (top 40))
 (a51:Nm K "least_sum" (top 39))
 (a52:Nm K "best_sum" (top 37))
 {zb:Addr}{wc uk:Option Addr}{vv:Array (Option Value)}{we qw ug qp nu uh:Value}
 (a53:bV K mainGlobals "law"=some (some (.ref zb)))(l53:K.lookup zb=some ⟨we,wc,.func (cJ "law" "law" (jU (top 56)) (jD (top 56)) (gJ (top 56)) .none qw ug qp uk nu uh),vv⟩)(c53:dM K nu "law"=true)(k53:cH K (.ref zb)=true)
 (z60:bV K mainGlobals "len"=some none)
 (z61:bV K mainGlobals "range"=some none)
 (z62:bV K mainGlobals "min"=some none)
 (z63:bV K mainGlobals "int"=some none)
 (z64:bV K mainGlobals "zip"=some none)
 (z65:bV K mainGlobals "all"=some none)
 (z66:bV K mainGlobals "max"=some none)
 (z67:bV K mainGlobals "enumerate"=some none)
 (z68:bV K mainGlobals "sum"=some none)
 (z69:bV K mainGlobals "isinstance"=some none)
 (z70:bV K mainGlobals "bool"=some none)
 (z71:bV K mainGlobals "list"=some none)
 {u60:Tok}(y60:bV K mainGlobals "SOURCE"=some (some (.int 0 u60)))
 {u61:Tok}(y61:bV K mainGlobals "SINK"=some (some (.int 1 u61))):
 ∃fd:FuncData,(∀(s:Shared)(v:Value),BindsTo s fd ⟨[v],[]⟩ [("_law_script",v)])/\∀base:Heap,K.In base->base.Ns mainGlobals mg->nY l.prog w K mg base CX0 9 fa fd ["_law_script"] (spT K 1 aER):=by
 have e:=hfa.symm.trans (eN X G a53);cases e;have cy:iQ K "Pipe" "tail":=iQ.of h60.e h60.c v60;have ed:iQ K "Pipe" "head":=iQ.of h60.e h60.c v61;have jx:iQ K "Pipe" "hours":=iQ.of h60.e h60.c v62;have cw:iQ K "Pipe" "room":=iQ.of h60.e h60.c v63;have cv:iQ K "Pipe" "back":=iQ.of h60.e h60.c v64;have dy:iQ K "Net" "pipes":=iQ.of h61.e h61.c v65;have nv:iQ K "Net" "places":=iQ.of h61.e h61.c v66;have ax:=cD X G z60;have bh:=cD X G z61;have bo:=cD X G z62;have cj:=cD X G z63;have wt:=cD X G z64;have wn:=cD X G z65;have jp:=cD X G z66;have qu:=cD X G z67;have gi:=cD X G z68;have ig:=cD X G z69;have wm:=cD X G z70;have ie:=cD X G z71;have ic:∃t,mg "SOURCE"=some (.int 0 t):=⟨_,eN X G y60⟩;have dw:∃t,mg "SINK"=some (.int 1 t):=⟨_,eN X G y61⟩
 refine⟨cJ "law" "law" (jU (top 56)) (jD (top 56)) (gJ (top 56)) .none qw ug qp uk nu uh,fun s v=>.of_eq rfl,fun base _ _=>?_⟩
 have xT:= @mkT l.prog w K mg base h;have xI:= @mkI l.prog w K mg base h;have jy:= @mkMe l.prog w K mg base;have xS:= @mkS l.prog w K mg base h;have xRc:= @mkRc l.prog w K mg base h;have xWc:= @mkWc l.prog w K mg base h;have my:=xT X G a1 aFl;have gd:=xT X G a2 (aDE ax);have d62:=xT X G a3 (aCB my gd bh bo ax);have d63:=xT X G a4 (aFg my bh);have d64:=xT X G a5 (aBX gd bh cj);have d65:=xT X G a6 (aIB cj);have nj:=xT X G a7 (aMB d62 gd d63 d64 d65 bh bo cj ax);have d70:=xT X G a8 (vF wt);have vo:=xT X G a9 aDk;have jm:=xT X G a10 (vE vo bh);have d68:=xT X G a11 (yA bh ax wn);have px:=xT X G a12 (aCV jm d68 ax);have d71:=xT X G a13 (aCp px jm ax jp);have pw:=xT X G a14 (aE1 d70 d71 jp);have d73:=xT X G a15 yI;have zt:=xT X G a16 (aAX pw d73);have zx:=xT X G a17 zS;have zr:=xT X G a18 (aCN pw zx);have vm:=xI X G h60 a19 (aCn cy ed jx cw cv);have kz:=jy h61 a20 (aD5 vm cv dy);have mx:=xT X G a21 zG;have mw:=xT X G a22 zX;have F23:=aIM (st:=(inClass (top 16) 0)) l23 c23;have zk:aDN l.prog w K mg base 4 "Net" 4 lK [] []:=⟨⟨gq,ph,_,["self","works","needs","bonus"],[],h61.e,eN X G h61.e,⟨h61.mi,a23,n23,h61.kp⟩,yP kz jm mx mw dy nv qu ax gi ic dw F23,xG 4 rfl d23 rfl (fun us hl=>match us,hl with| [_,_,_,_],_=>⟨_,rfl,rfl⟩),.nil⟩,fun _ _=>.nil⟩;have zq:aDN l.prog w K mg base 4 "Net" 4 lK [.int 0] [.int 0]:=⟨⟨gq,ph,_,["self","works","needs","bonus"],[.int 0 qc],h61.e,eN X G h61.e,⟨h61.mi,a23,n23,h61.kp⟩,yP kz jm mx mw dy nv qu ax gi ic dw F23,xG 3 rfl d23 rfl (fun us hl=>match us,hl with| [_,_,_],_=>⟨_,rfl,rfl⟩),(.cons ⟨_,rfl⟩ .nil)⟩,fun _ _=>(.cons .int .nil)⟩;have jw:=jy h61 a24 (sR dy cv cw);have zw:=xS X G a25 (t6 jx cy ed);have jl:=jy h61 a26 (zB jw zw nv bh dw);have zu:=xS X G a27 (xR cy ed);have pq:=xS X G a28 (w6 zu jx ed cy ic dw);have pj:=xS X G a29 (aJ6 cw cv);have pi:=xS X G a30 (aD2 cw bo);have zp:=jy h61 a31 (aCq jl pq pj jw pi dw);have zo:=jy h61 a32 (sD jl dw);have mv:=jy h61 a33 (zR cw cv dy cy gi ic);have ib:=xRc X G a34 (aDi zt zr zq zp zo mv);have ni:=xT X G a35 (aDw bh ax jp);have zj:=jy h61 a36 (aCR mv pq pj jw jl pi bo);have vj:=xS X G a37 zM;have vh:=xS X G a38 (uL vj ic);have zn:=xT X G a39 aDV;have zm:=xS X G a40 (aCZ zn);have zl:=xS X G a41 (aCb bo);have zi:=jy h61 a42 (zP vh zm zl dy cy ed cw cv);have nh:=xRc X G a43 (vM px zk zj zi ax);have ng:=xWc X G a44 aDJ;have ce:=xT X G a45 (aG5 ig cj wm);have nc:=xT X G a46 (aD0 ce ig ie ax);have nq:=xT X G a47 (aCC ce bh ax);have nb:=xT X G a48 (wV nq ce ig ie ax);have na:=xT X G a49 (aDe bh ax gi bo);have nl:=xT X G a50 zV;have nk:=xT X G a51 (aBh nl bo);have mz:=xT X G a52 (aBY nk ib)
 exact(aLH nj ib ni nh ng nc gd nb na mz bo gi ie cj ax) (aDA l53 c53 k53)
end K56
open PySem PySem.W PyProof.Rows
local macro_rules| `(tactic|walk_at "kN")=>`(tactic| (refine' TL.Nm.of ?a ?l ?c ?k;(case a=>k_is);(case l=>k_is);(case c=>k_is);(case k=>k_is)))
local macro_rules| `(tactic|walk_at "kM")=>`(tactic| (refine' TL.Mm.of ?a ?l ?c ?k ?n;(case a=>k_is);(case l=>k_is);(case c=>k_is);(case k=>k_is);(case n=>k_is)))
local macro_rules| `(tactic|walk_at "kC")=>`(tactic| (refine'⟨?e,⟨?p,?h,?o,?s⟩,?m,?k⟩;(case e=>k_is);(case p=>k_is);(case h=>k_is);(case o=>k_is);(case s=>k_is);(case m=>k_is);(case k=>k_is)))
set_option maxRecDepth 100000 in
set_option maxHeartbeats 0 in
theorem PySem.Challenge.cw_hastebook_k56_whole_streams_for_bonuses_holds : PySem.Challenge.rw_hastebook_k56_whole_streams_for_bonuses.Holds := by
 refine holds_law (by decide+kernel) fun said=>?_;refine holds_open (q:=HT.vw) (YP:=Hook.says (kHook HT.KH HT.KA HT.ka)) (N:=4080) HT.left (Hook.of (kHook HT.KH HT.KA HT.ka)) (Hook.keeps _) HT.xs XL.keeps rfl rfl rfl HT.rs rfl (by first|assumption|decide+kernel) (by decide+kernel) ⟨rfl,rfl,rfl,rfl,rfl,by decide+kernel⟩ ?hw ?hc;(case hw=>w_witness2)
 k_fill
 refine TL.aFW (l:=PySem.Challenge.rw_hastebook_k56_whole_streams_for_bonuses) (x:="_law_script") (R:=K56.aER) (k:=9) rfl rfl ⟨rfl,by decide,by decide⟩ (fun w h Y=>PySem.W.kIn_of Y) K56.aHE ?F
 case F=>
  intro w mg fa h KX G ye;refine' K56.aMv KX G ye ?h60 ?h61 ?v60 ?v61 ?v62 ?v63 ?v64 ?v65 ?v66 ?a1 ?a2 ?a3 ?a4 ?a5 ?a6 ?a7 ?a8 ?a9 ?a10 ?a11 ?a12 ?a13 ?a14 ?a15 ?a16 ?a17 ?a18 ?a19 ?a20 ?a21 ?a22 ?a23 ?l23 ?c23 ?k23 ?n23 ?d23 ?a24 ?a25 ?a26 ?a27 ?a28 ?a29 ?a30 ?a31 ?a32 ?a33 ?a34 ?a35 ?a36 ?a37 ?a38 ?a39 ?a40 ?a41 ?a42 ?a43 ?a44 ?a45 ?a46 ?a47 ?a48 ?a49 ?a50 ?a51 ?a52 ?a53 ?l53 ?c53 ?k53 ?z60 ?z61 ?z62 ?z63 ?z64 ?z65 ?z66 ?z67 ?z68 ?z69 ?z70 ?z71 ?y60 ?y61
  (case h60=>walk_at "kC")
  (case h61=>walk_at "kC")
  (case v60=>k_is)
  (case v61=>k_is)
  (case v62=>k_is)
  (case v63=>k_is)
  (case v64=>k_is)
  (case v65=>k_is)
  (case v66=>k_is)
  (case a1=>walk_at "kN")
  (case a2=>walk_at "kN")
  (case a3=>walk_at "kN")
  (case a4=>walk_at "kN")
  (case a5=>walk_at "kN")
  (case a6=>walk_at "kN")
  (case a7=>walk_at "kN")
  (case a8=>walk_at "kN")
  (case a9=>walk_at "kN")
  (case a10=>walk_at "kN")
  (case a11=>walk_at "kN")
  (case a12=>walk_at "kN")
  (case a13=>walk_at "kN")
  (case a14=>walk_at "kN")
  (case a15=>walk_at "kN")
  (case a16=>walk_at "kN")
  (case a17=>walk_at "kN")
  (case a18=>walk_at "kN")
  (case a19=>walk_at "kM")
  (case a20=>walk_at "kM")
  (case a21=>walk_at "kN")
  (case a22=>walk_at "kN")
  (case a23=>k_is)
  (case l23=>k_is)
  (case c23=>k_is)
  (case k23=>k_is)
  (case n23=>k_is)
  (case d23=>k_is)
  (case a24=>walk_at "kM")
  (case a25=>walk_at "kN")
  (case a26=>walk_at "kM")
  (case a27=>walk_at "kN")
  (case a28=>walk_at "kN")
  (case a29=>walk_at "kN")
  (case a30=>walk_at "kN")
  (case a31=>walk_at "kM")
  (case a32=>walk_at "kM")
  (case a33=>walk_at "kM")
  (case a34=>walk_at "kN")
  (case a35=>walk_at "kN")
  (case a36=>walk_at "kM")
  (case a37=>walk_at "kN")
  (case a38=>walk_at "kN")
  (case a39=>walk_at "kN")
  (case a40=>walk_at "kN")
  (case a41=>walk_at "kN")
  (case a42=>walk_at "kM")
  (case a43=>walk_at "kN")
  (case a44=>walk_at "kN")
  (case a45=>walk_at "kN")
  (case a46=>walk_at "kN")
  (case a47=>walk_at "kN")
  (case a48=>walk_at "kN")
  (case a49=>walk_at "kN")
  (case a50=>walk_at "kN")
  (case a51=>walk_at "kN")
  (case a52=>walk_at "kN")
  (case a53=>k_is)
  (case l53=>k_is)
  (case c53=>k_is)
  (case k53=>k_is)
  (case z60=>k_is)
  (case z61=>k_is)
  (case z62=>k_is)
  (case z63=>k_is)
  (case z64=>k_is)
  (case z65=>k_is)
  (case z66=>k_is)
  (case z67=>k_is)
  (case z68=>k_is)
  (case z69=>k_is)
  (case z70=>k_is)
  (case z71=>k_is)
  (case y60=>k_is)
  (case y61=>k_is)
