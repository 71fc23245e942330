import PyProof.Rows.All
import Wide.All
import OpenK.AllK
import Wide.FinOn
import Lean
import PyProof.EqAt
import PyProof.EqKinds
import PyProof.TupleCall
import PyProof.ExcClass3
import PyProof.NeKinds
import PyProof.ZipIter
import PyProof.ExcArgsOwn
import PyProof.EnumFor
import PyProof.EnumMake
import PyProof.DictUpdate
import PyProof.DictWalks
import PySem.Challenge.RW_hastebook_k58_whole_rests_and_prices
open List renaming map_cons->aK,length_cons->aM,length_map->aN,getElem?_eq_getElem->aO,replicate->aP,append_nil->aQ,cons_append->aR,getElem?_set_ne->aT,length_nil->aU,nil_append->aV,getElem?_append_left->aW,mem_cons_of_mem->aX,map_nil->aY,mem_of_getElem?->aZ,getElem?_map->bA,size_toArray->bB,mem_cons_self->bC,getElem?_append_right->bD,length_append->bF,range->bH,getD_eq_getElem?_getD->bI,getElem?_set_self->bK,map_append->bN,getElem?_cons_succ->bO,getElem?_cons_zero->bP,map_map->bR,lookup_cons->bT,mem_cons->bU,set_append_right->bY,not_mem_nil->b4,getElem?_eq_none->b5,zip_cons_cons->b6,length_zip->b7,length_set->cA,mem_append_right->cC,map_congr_left->cF,nodup_cons->cH,append_assoc->cJ,mem_map_of_mem->cM,getElem?_replicate->cN,take_length->cO,getElem?_range->cW,of_mem_zip->cY,find?_cons->cZ,length_take->c8,getElem_mem->c9,getElem?_take_of_lt->dE,sum_cons->dG,lookup->dH,take_of_length_le->dL,mem_singleton->dO,length_filter_le->dR,getElem?_zip_eq_some->dS,getElem?_zipIdx->dW,take_add_one->dY,range_succ_eq_map->d3,getElem_range->d4,drop_eq_nil_of_le->d7,set_set->d9,mem_append->eB,count_cons->eG,length_replicate->eJ,set_getElem_self->eK,length_range->eL,mem_append_left->eO,take_succ->eQ,all_eq_true->eR,getElem_map->aRA,drop_eq_getElem_cons->aRB,filterMap_cons->aRC,length_erase_of_mem->aRF,sum_append->aRH,ext_getElem?->aRJ,any_cons->aRO,foldl_cons->aRR,map_eq_nil_iff->aRT,idxOf_lt_length_of_mem->aRU,mem_range->aRV,pairwise_cons->aRW,prefix_append->aR2,length_zipIdx->aR3,mem_or_eq_of_mem_set->aR4,getElem_inj->aSd,length_drop->aSe,filter_cons_of_pos->aSg,filter_cons_of_neg->aSh,mem_map->aSj,mem_filter->aSl,range_succ->aSq,length_singleton->aSs,mem_of_mem_take->aSz,set_append_left->aSA,count_singleton->aSB,cons->aSE,take_succ_cons->aSF,getElem_range'->aSG,mem_filterMap->aSH,foldl->aSI,filterMap_map->aSJ,map_replicate->aSK,length_range'->aSM,map_set->aSS,getElem?_inj->aST,count_append->aSU,prefix_refl->aS2,any_eq_true->aS3,filter_cons->aS5,getElem_zip->aS7,length->aS8,map_const'->aTc,nodup_nil->aTe,drop_zero->aTf,all_cons->aTj,map_drop->aTm,map_take->aTn,all_map->aTq,map->aTz,range'->aTC,tail->aTG,sum->aTI
open PySem.W renaming Frag->aL,nsIn->bQ,findIn->bW,mg_none_of->b8,keepIn->cI,fnOf->cK,kitOne->cT,emptyDict->cX,codeIn->dI,instObj->dJ,kia_one->eE,mg_of->aRE,isFn->aRI,plainGet->aRL,plainGet_of->aRS,lookIn->aRY,callWith_K->aRZ,methodObj->aR5,hasDictIn->aR6,cellsFrom_some->aSk,takerIn->aSm,makesIn->aSn,methodCall_KW->aSr,kl_ins->aSx,plainOver->aSO,handedIn->aSZ,OpenLaw->aTb
open Option renaming bind_some->aS,getD_some->b9,some->cE,toList_some->dD,map_some->dU,isSome_iff_exists->aRD,isSome_map->aR9,map_eq_some_iff->aSi,getD_none->aS1,none->aTx
open Nat renaming le_refl->bE,lt_of_lt_of_le->bL,ne_of_lt->bS,le_trans->bV,lt_irrefl->cR,sub_self->c7,zero_le->dM,lt_of_le_of_lt->dP,zero_add->dX,lt_succ_self->dZ,le_add_right->eS,le_of_not_lt->aRM,pow_le_pow_right->aRP,le_succ_of_le->aR7,lt_succ_of_lt->aR8,add_assoc->aSc,min_eq_right->aSf,min_eq_left->aSo,le_succ->aSw,mul_le_mul_right->aSC,le_of_lt->aSN,lt_trans->aSP,min_self->aSQ,add_zero->aSR,succ_le_succ->aS6,le_of_eq->aTp,sub_zero->aTt,log2_lt->aTy
open Int renaming toNat_of_nonneg->bG,le_refl->bM,toNat_natCast->cB,lt_trans->cD,le_trans->cL,mul_le_mul_of_nonneg_right->cP,zero_mul->cS,lt_of_le_of_lt->cU,mul_sub->dA,zero_add->dF,mul_nonneg->dQ,add_mul->d0,mul_zero->d8,le_of_lt->eA,toNat->eU,sub_zero->aRz,le_antisymm->aRG,add_zero->aRK,sub_mul->aRQ,fdiv_eq_ediv_of_nonneg->aRX,lt_of_lt_of_le->aR0,emod_lt_of_pos->aR1,one_mul->aSb,emod_nonneg->aSp,mul_one->aSv,natAbs_of_nonneg->aSy,lt_add_one_of_le->aSD,natCast_nonneg->aSL,le_of_eq->aSV,sub_self->aSW,pow_succ->aSY,natCast_succ->aS4,mul_add->aS9,min_le_left->aTd,mul_le_mul->aTi,ofNat_lt->aTs,not_le->aTD,lt_min->aTE
open Bool renaming false_ne_true->bJ,false_eq_true->bZ,and_true->cG,and_self->cQ,eq_iff_iff->eC,and_eq_true_iff->eN,and_eq_true->aRN,false_and->aSu,not_eq_true'->aSX,or_eq_true->aTa,not_false->aTh,false_or->aTl
open Array renaming length_toList->bX,mk->aSt
open Classical renaming byContradiction->cV,choose_spec->dC,axiomOfChoice->aTo,choose->aTH
open PyProof.Rows renaming callWith_type1->dB,callWith_builtin1->aS0,callWith_kw->aTk,iadd_int->aTu,isub_int->aTv
open Function renaming comp->dN
open Iff renaming rfl->aSa
open Or renaming inr->aTg,inl->aTr
open Prod renaming ext->aTw,fst->aTA,snd->aTB,mk->aTF
set_option hygiene false in
local macro_rules|`(tactic|walk_at "a")=>`(tactic|(simp only [gp, aK, aY, aM, aU, Nat.reduceAdd, Nat.reduceSub, aP, aQ, aR, aV]))
set_option hygiene false in
local macro_rules|`(tactic|walk_at "b")=>`(tactic|(first | exact l6 (by lia) | lia | (simp only [aN, bF, aM, aU, lim]; lia) | (first | (apply lG <;> lia) | (apply mH <;> lia) | (apply jS; assumption) | (apply kB; assumption)) | decide))
set_option hygiene false in
local macro_rules|`(tactic|walk_at "c")=>`(tactic|(simp only [fW, hJ, gW, mB, gY, lE, iX, cG, cQ]))
set_option Elab.async false
set_option linter.all false
set_option bootstrap.genMatcherCode false
set_option compiler.extract_closed false
namespace L2
open PySem
def k9(s:Stmt):Arguments:=match s with
 | .FunctionDef _ a _ _ _ _ _ _ _ _=>a
 |_=>{posonlyargs:=[],args:=[],vararg:=none,kwonlyargs:=[],kw_defaults:=[],kwarg:=none,defaults:=[]}
def kE(s:Stmt):List Stmt:=match s with
 | .FunctionDef _ _ b _ _ _ _ _ _ _=>b
 |_=>[]
def iM(s:Stmt):Scope:=match s with
 | .FunctionDef _ _ _ _ _ _ a _ _ _=>a
 |_=>{kind:=.function,names:=[],isGenerator:=false,isCoroutine:=false}
def inClass(s:Stmt)(j:Nat):Stmt:=match s with
 | .ClassDef _ _ _ body _ _ _ _ _ _ _=>body.getD j (.Pass ⟨0,0,0,0⟩)
 |_=>.Pass ⟨0,0,0,0⟩
end L2
namespace HT
open PySem PySem.W PyProof.Rows
abbrev so(x:String):Str:=Str.ofString x
abbrev de:=PySem.DictEntry.mk
abbrev ob:=PySem.Obj.mk
abbrev kh:=PySem.PyData.keyHash
abbrev vs(x:String)(n:Tok):Value:=.str (so x) n
abbrev vi(i:Int):Value:=.int i 0
abbrev vr(a:Addr):Value:=.ref a
abbrev vn:Value:=.none
abbrev vb:Value:=.bool true
abbrev vt(x:String):Value:=.type x
abbrev dx(P:Params)(x:String)(n:Tok)(v:Value):DictEntry:=.mk (kh P (so x)) (vs x n) v
abbrev oc(x q:String)(i j k:Tok)(l a b:Int)(r:Addr)(h:Int)(s t u v:Addr)(z m:Int)(n:Tok):Obj:=ob (vt "code") none (Data.fields #[vs x i,vs q j,vs "/claim/cut.py" k,vi l,vi a,vi 0,vi 0,vi b,vr r,vb,vi h,vr s,vn,vr t,vr u,vr v,vi z,vi m,vs "/claim/cut.py" n]) #[]
open L2 (k9 kE iM inClass)
abbrev PR:Program:=PySem.Challenge.pw_hastebook_k58_whole_rests_and_prices
def top(i:Nat):Stmt:=PR.main.body.getD i (.Pass ⟨0,0,0,0⟩)
abbrev of(x q:String)(s:Stmt)(p:String)(n:Tok)(c:Addr):Obj:=ob (vt "function") none (Data.func (cK x q (k9 s) (kE s) (iM s) vn vn vn (vs p n) none (vr c) vn)) #[]
noncomputable def KH:Params->aL:=λP=>
 (nat_lit 2,ob vn none (Data.dict #[]) #[])::
 (nat_lit 3,ob (vt "dict") none (Data.dict #[dx P "__name__" 165 (vs "law_hastebook_k58_whole_rests_and_prices" 652),dx P "__doc__" 166 vn,dx P "__package__" 167 vn,dx P "__loader__" 168 (Value.builtin "__main__.__loader__#opaque"),dx P "__spec__" 169 vn,dx P "__annotations__" 170 (vr 6),dx P "__builtins__" 171 (vr 4),dx P "__file__" 173 (vs "/claim/cut.py" 172),dx P "__cached__" 174 vn,dx P "_wall" 193 (vr 21),dx P "BookError" 213 (vr 31),dx P "NoOrder" 229 (vr 44),dx P "order_of" 241 (vr 53),dx P "is_work" 249 (vr 60),dx P "needed_works" 255 (vr 65),dx P "least_ready" 261 (vr 70),dx P "price_of" 269 (vr 75),dx P "done_at" 276 (vr 82),dx P "rest_of" 284 (vr 87),dx P "spent" 290 (vr 92),dx P "rest_of_work" 300 (vr 99),dx P "is_done" 308 (vr 106),dx P "waits" 316 (vr 113),dx P "earliest" 324 (vr 118),dx P "length" 332 (vr 125),dx P "done_moments" 338 (vr 130),dx P "SOURCE" 342 (Value.int 0 341),dx P "SINK" 344 (Value.int 1 343),dx P "Pipe" 380 (vr 147),dx P "Net" 477 (vr 217),dx P "begin_place" 484 (vr 228),dx P "done_place" 491 (vr 235),dx P "work_at" 498 (vr 242),dx P "raise_moments" 509 (vr 249),dx P "tight_route" 515 (vr 254),dx P "next_routes" 525 (vr 261),dx P "room_on" 531 (vr 266),dx P "pour" 540 (vr 273),dx P "flowing_route" 549 (vr 280),dx P "steps_from" 555 (vr 285),dx P "take_out" 561 (vr 290),dx P "works_on" 567 (vr 295),dx P "least_end" 577 (vr 302),dx P "plan_at" 583 (vr 307),dx P "stream_at" 592 (vr 314),dx P "least_hours" 598 (vr 319),dx P "filled_net" 608 (vr 326),dx P "plan_row" 618 (vr 333),dx P "through" 626 (vr 338),dx P "worth" 632 (vr 343),dx P "work_worth" 640 (vr 350),dx P "price_at" 651 (vr 357),dx P "_law_whole" 660 (vr 364),dx P "_law_cell_at" 668 (vr 371),dx P "_law_mixed" 677 (vr 378),dx P "_law_names" 687 (vr 385),dx P "_law_numbers" 693 (vr 390),dx P "_law_work" 707 (vr 397),dx P "_law_lot_free" 725 (vr 404),dx P "_law_lot" 731 (vr 409),dx P "_law_length" 737 (vr 414),dx P "_law_ends" 743 (vr 419),dx P "_law_is_plan" 749 (vr 424),dx P "_law_price" 755 (vr 429),dx P "_law_plan_by" 774 (vr 436),dx P "_law_moment" 786 (vr 443),dx P "_law_left" 798 (vr 450),dx P "_law_twice" 813 (vr 457),dx P "_law_total" 826 (vr 464),dx P "law" 832 (vr 469)] 70) #[])::
 (nat_lit 22,ob (vt "tuple") none (Data.seq #[vt "ValueError"]) #[])::
 (nat_lit 29,ob (vt "tuple") none (Data.seq #[]) #[])::
 (nat_lit 30,ob (vt "dict") none (Data.dict #[dx P "__module__" 203 (vs "hastebook.errors" 194),dx P "__firstlineno__" 207 (Value.int 5 206),dx P "__static_attributes__" 208 (vr 29),dx P "__weakref__" 210 (vr 32),dx P "__doc__" 211 vn] 3) #[])::
 (nat_lit 31,ob (vt "type") none (Data.cls (PySem.ClassData.mk (so "BookError") [vt "ValueError"] [vr 31,vt "ValueError",vt "Exception",vt "BaseException",vt "object"] 30 (so "BookError") true [] [vr 44] false none false)) #[some (vr 22),none,some (vs "BookError" 196),some (vs "BookError" 204),some (Value.builtin "ValueError.__new__"),some (vb)])::
 (nat_lit 32,ob (vt "getset_descriptor") none (Data.fields #[vs "__weakref__" 209,vr 31,Value.builtin "ExceptionGroup.__weakref__",vn]) #[])::
 (nat_lit 35,ob (vt "tuple") none (Data.seq #[vr 31]) #[])::
 (nat_lit 42,ob (vt "tuple") none (Data.seq #[]) #[])::
 (nat_lit 43,ob (vt "dict") none (Data.dict #[dx P "__module__" 221 (vs "hastebook.errors" 194),dx P "__firstlineno__" 225 (Value.int 7 224),dx P "__static_attributes__" 226 (vr 42),dx P "__doc__" 227 vn] 2) #[])::
 (nat_lit 44,ob (vt "type") none (Data.cls (PySem.ClassData.mk (so "NoOrder") [vr 31] [vr 44,vr 31,vt "ValueError",vt "Exception",vt "BaseException",vt "object"] 43 (so "NoOrder") true [] [] false none false)) #[some (vr 35),none,some (vs "NoOrder" 214),some (vs "NoOrder" 222),some (Value.builtin "ValueError.__new__"),some (vb)])::
 (nat_lit 52,oc "order_of" "order_of" 232 233 234 10 2 3 47 181 48 49 50 51 239 10 240)::
 (nat_lit 53,of "order_of" "order_of" (top 5) "hastebook.needs" 230 52)::
 (nat_lit 59,oc "is_work" "is_work" 242 243 244 16 2 3 54 181 55 56 57 58 247 16 248)::
 (nat_lit 60,of "is_work" "is_work" (top 6) "hastebook.needs" 230 59)::
 (nat_lit 64,ob (vt "code") none (Data.fields #[vs "needed_works" 250,vs "needed_works" 251,vs "/claim/cut.py" 252,vi 18,vi 2,vi 0,vi 0,vi 3,vr 61,vb,vi 181,vr 62,vn,vn,vn,vr 63,vi 253,vi 18,vs "/claim/cut.py" 254]) #[])::
 (nat_lit 65,of "needed_works" "needed_works" (top 7) "hastebook.needs" 230 64)::
 (nat_lit 69,ob (vt "code") none (Data.fields #[vs "least_ready" 256,vs "least_ready" 257,vs "/claim/cut.py" 258,vi 26,vi 2,vi 0,vi 0,vi 3,vr 66,vb,vi 181,vr 67,vn,vn,vn,vr 68,vi 259,vi 26,vs "/claim/cut.py" 260]) #[])::
 (nat_lit 70,of "least_ready" "least_ready" (top 8) "hastebook.needs" 230 69)::
 (nat_lit 74,ob (vt "code") none (Data.fields #[vs "price_of" 264,vs "price_of" 265,vs "/claim/cut.py" 266,vi 32,vi 2,vi 0,vi 0,vi 3,vr 71,vb,vi 181,vr 72,vn,vn,vn,vr 73,vi 267,vi 32,vs "/claim/cut.py" 268]) #[])::
 (nat_lit 75,of "price_of" "price_of" (top 10) "hastebook.plans" 262 74)::
 (nat_lit 81,oc "done_at" "done_at" 270 271 272 34 1 3 76 181 77 78 79 80 274 34 275)::
 (nat_lit 82,of "done_at" "done_at" (top 11) "hastebook.plans" 262 81)::
 (nat_lit 86,ob (vt "code") none (Data.fields #[vs "rest_of" 279,vs "rest_of" 280,vs "/claim/cut.py" 281,vi 37,vi 4,vi 0,vi 0,vi 3,vr 83,vb,vi 181,vr 84,vn,vn,vn,vr 85,vi 282,vi 37,vs "/claim/cut.py" 283]) #[])::
 (nat_lit 87,of "rest_of" "rest_of" (top 13) "hastebook.rests" 277 86)::
 (nat_lit 91,ob (vt "code") none (Data.fields #[vs "spent" 285,vs "spent" 286,vs "/claim/cut.py" 287,vi 42,vi 3,vi 0,vi 0,vi 3,vr 88,vb,vi 181,vr 89,vn,vn,vn,vr 90,vi 288,vi 42,vs "/claim/cut.py" 289]) #[])::
 (nat_lit 92,of "spent" "spent" (top 14) "hastebook.rests" 277 91)::
 (nat_lit 98,oc "rest_of_work" "rest_of_work" 291 292 293 45 3 3 93 181 94 95 96 97 298 45 299)::
 (nat_lit 99,of "rest_of_work" "rest_of_work" (top 15) "hastebook.rests" 277 98)::
 (nat_lit 105,oc "is_done" "is_done" 301 302 303 52 2 3 100 181 101 102 103 104 306 52 307)::
 (nat_lit 106,of "is_done" "is_done" (top 16) "hastebook.rests" 277 105)::
 (nat_lit 112,oc "waits" "waits" 309 310 311 54 2 3 107 181 108 109 110 111 314 54 315)::
 (nat_lit 113,of "waits" "waits" (top 17) "hastebook.rests" 277 112)::
 (nat_lit 117,ob (vt "code") none (Data.fields #[vs "earliest" 319,vs "earliest" 320,vs "/claim/cut.py" 321,vi 57,vi 2,vi 0,vi 0,vi 3,vr 114,vb,vi 181,vr 115,vn,vn,vn,vr 116,vi 322,vi 57,vs "/claim/cut.py" 323]) #[])::
 (nat_lit 118,of "earliest" "earliest" (top 19) "hastebook.moments" 317 117)::
 (nat_lit 124,oc "length" "length" 325 326 327 64 2 3 119 181 120 121 122 123 330 64 331)::
 (nat_lit 125,of "length" "length" (top 20) "hastebook.moments" 317 124)::
 (nat_lit 129,ob (vt "code") none (Data.fields #[vs "done_moments" 333,vs "done_moments" 334,vs "/claim/cut.py" 335,vi 66,vi 2,vi 0,vi 0,vi 3,vr 126,vb,vi 181,vr 127,vn,vn,vn,vr 128,vi 336,vi 66,vs "/claim/cut.py" 337]) #[])::
 (nat_lit 130,of "done_moments" "done_moments" (top 21) "hastebook.moments" 317 129)::
 (nat_lit 143,oc "__init__" "Pipe.__init__" 357 358 359 73 5 3 138 181 139 140 141 142 365 73 366)::
 (nat_lit 144,of "__init__" "Pipe.__init__" (inClass (top 25) 0) "hastebook.nets" 339 143)::
 (nat_lit 145,ob (vt "tuple") none (Data.seq #[vs "back" 368,vs "head" 369,vs "hours" 370,vs "room" 371,vs "tail" 372]) #[])::
 (nat_lit 146,ob (vt "dict") none (Data.dict #[dx P "__module__" 352 (vs "hastebook.nets" 339),dx P "__firstlineno__" 356 (Value.int 71 355),dx P "__init__" 367 (vr 144),dx P "__static_attributes__" 373 (vr 145),dx P "__dict__" 375 (vr 148),dx P "__weakref__" 377 (vr 149),dx P "__doc__" 378 vn] 4) #[])::
 (nat_lit 147,ob (vt "type") none (Data.cls (PySem.ClassData.mk (so "Pipe") [vt "object"] [vr 147,vt "object"] 146 (so "Pipe") true [] [] false none false)) #[none,none,some (vs "Pipe" 345),some (vs "Pipe" 353),some (Value.builtin "object.__new__"),some (vb)])::
 (nat_lit 148,ob (vt "getset_descriptor") none (Data.fields #[vs "__dict__" 374,vr 147,Value.builtin "function.__dict__",Value.builtin "function.__dict__#set"]) #[])::
 (nat_lit 149,ob (vt "getset_descriptor") none (Data.fields #[vs "__weakref__" 376,vr 147,Value.builtin "ExceptionGroup.__weakref__",vn]) #[])::
 (nat_lit 159,ob (vt "tuple") none (Data.seq #[Value.int 0 393]) #[])::
 (nat_lit 163,ob (vt "code") none (Data.fields #[vs "__init__" 394,vs "Net.__init__" 395,vs "/claim/cut.py" 396,vi 81,vi 4,vi 0,vi 0,vi 3,vr 160,vb,vi 181,vr 161,vn,vn,vn,vr 162,vi 397,vi 81,vs "/claim/cut.py" 398]) #[])::
 (nat_lit 164,ob (vt "function") (none) (Data.func (cK "__init__" "Net.__init__" (k9 (inClass (top 26) 0)) (kE (inClass (top 26) 0)) (iM (inClass (top 26) 0)) (vr 159) (vn) (vn) (vs "hastebook.nets" 339) (none) (vr 163) (vn))) (#[]))::
 (nat_lit 170,oc "lay" "Net.lay" 400 401 402 94 5 3 165 181 166 167 168 169 410 94 411)::
 (nat_lit 171,of "lay" "Net.lay" (inClass (top 26) 1) "hastebook.nets" 339 170)::
 (nat_lit 177,oc "fill" "Net.fill" 413 414 415 101 2 3 172 181 173 174 175 176 420 101 421)::
 (nat_lit 178,of "fill" "Net.fill" (inClass (top 26) 2) "hastebook.nets" 339 177)::
 (nat_lit 189,ob (vt "code") none (Data.fields #[vs "moments" 431,vs "Net.moments" 432,vs "/claim/cut.py" 433,vi 111,vi 2,vi 0,vi 0,vi 3,vr 186,vb,vi 181,vr 187,vn,vn,vn,vr 188,vi 434,vi 111,vs "/claim/cut.py" 435]) #[])::
 (nat_lit 190,of "moments" "Net.moments" (inClass (top 26) 4) "hastebook.nets" 339 189)::
 (nat_lit 201,ob (vt "code") none (Data.fields #[vs "open_pipes" 444,vs "Net.open_pipes" 445,vs "/claim/cut.py" 446,vi 122,vi 1,vi 0,vi 0,vi 3,vr 198,vb,vi 181,vr 199,vn,vn,vn,vr 200,vi 447,vi 122,vs "/claim/cut.py" 448]) #[])::
 (nat_lit 202,of "open_pipes" "Net.open_pipes" (inClass (top 26) 6) "hastebook.nets" 339 201)::
 (nat_lit 213,oc "stream" "Net.stream" 456 457 458 129 1 3 208 181 209 210 211 212 465 129 466)::
 (nat_lit 214,of "stream" "Net.stream" (inClass (top 26) 8) "hastebook.nets" 339 213)::
 (nat_lit 215,ob (vt "tuple") none (Data.seq #[vs "pipes" 468,vs "places" 469]) #[])::
 (nat_lit 216,ob (vt "dict") none (Data.dict #[dx P "__module__" 388 (vs "hastebook.nets" 339),dx P "__firstlineno__" 392 (Value.int 79 391),dx P "__init__" 399 (vr 164),dx P "lay" 412 (vr 171),dx P "fill" 422 (vr 178),dx P "lead" 430 (vr 185),dx P "moments" 436 (vr 190),dx P "open_length" 443 (vr 197),dx P "open_pipes" 449 (vr 202),dx P "amount" 455 (vr 207),dx P "stream" 467 (vr 214),dx P "__static_attributes__" 470 (vr 215),dx P "__dict__" 472 (vr 218),dx P "__weakref__" 474 (vr 219),dx P "__doc__" 475 vn] 4) #[])::
 (nat_lit 217,ob (vt "type") none (Data.cls (PySem.ClassData.mk (so "Net") [vt "object"] [vr 217,vt "object"] 216 (so "Net") true [] [] false none false)) #[none,none,some (vs "Net" 381),some (vs "Net" 389),some (Value.builtin "object.__new__"),some (vb)])::
 (nat_lit 218,ob (vt "getset_descriptor") none (Data.fields #[vs "__dict__" 471,vr 217,Value.builtin "function.__dict__",Value.builtin "function.__dict__#set"]) #[])::
 (nat_lit 219,ob (vt "getset_descriptor") none (Data.fields #[vs "__weakref__" 473,vr 217,Value.builtin "ExceptionGroup.__weakref__",vn]) #[])::
 (nat_lit 227,oc "begin_place" "begin_place" 478 479 480 140 1 3 222 181 223 224 225 226 482 140 483)::
 (nat_lit 228,of "begin_place" "begin_place" (top 27) "hastebook.nets" 339 227)::
 (nat_lit 234,oc "done_place" "done_place" 485 486 487 142 1 3 229 181 230 231 232 233 489 142 490)::
 (nat_lit 235,of "done_place" "done_place" (top 28) "hastebook.nets" 339 234)::
 (nat_lit 241,oc "work_at" "work_at" 492 493 494 144 1 3 236 181 237 238 239 240 496 144 497)::
 (nat_lit 242,of "work_at" "work_at" (top 29) "hastebook.nets" 339 241)::
 (nat_lit 248,oc "raise_moments" "raise_moments" 499 500 501 146 2 3 243 181 244 245 246 247 507 146 508)::
 (nat_lit 249,of "raise_moments" "raise_moments" (top 30) "hastebook.nets" 339 248)::
 (nat_lit 253,ob (vt "code") none (Data.fields #[vs "tight_route" 510,vs "tight_route" 511,vs "/claim/cut.py" 512,vi 154,vi 2,vi 0,vi 0,vi 3,vr 250,vb,vi 181,vr 251,vn,vn,vn,vr 252,vi 513,vi 154,vs "/claim/cut.py" 514]) #[])::
 (nat_lit 254,of "tight_route" "tight_route" (top 31) "hastebook.nets" 339 253)::
 (nat_lit 260,oc "next_routes" "next_routes" 516 517 518 160 2 3 255 181 256 257 258 259 523 160 524)::
 (nat_lit 261,of "next_routes" "next_routes" (top 32) "hastebook.nets" 339 260)::
 (nat_lit 265,ob (vt "code") none (Data.fields #[vs "room_on" 526,vs "room_on" 527,vs "/claim/cut.py" 528,vi 166,vi 1,vi 0,vi 0,vi 3,vr 262,vb,vi 181,vr 263,vn,vn,vn,vr 264,vi 529,vi 166,vs "/claim/cut.py" 530]) #[])::
 (nat_lit 266,of "room_on" "room_on" (top 33) "hastebook.nets" 339 265)::
 (nat_lit 272,oc "pour" "pour" 532 533 534 168 2 3 267 181 268 269 270 271 538 168 539)::
 (nat_lit 273,of "pour" "pour" (top 34) "hastebook.nets" 339 272)::
 (nat_lit 279,oc "flowing_route" "flowing_route" 541 542 543 172 1 3 274 181 275 276 277 278 547 172 548)::
 (nat_lit 280,of "flowing_route" "flowing_route" (top 35) "hastebook.nets" 339 279)::
 (nat_lit 284,ob (vt "code") none (Data.fields #[vs "steps_from" 550,vs "steps_from" 551,vs "/claim/cut.py" 552,vi 179,vi 2,vi 0,vi 0,vi 3,vr 281,vb,vi 181,vr 282,vn,vn,vn,vr 283,vi 553,vi 179,vs "/claim/cut.py" 554]) #[])::
 (nat_lit 285,of "steps_from" "steps_from" (top 36) "hastebook.nets" 339 284)::
 (nat_lit 289,ob (vt "code") none (Data.fields #[vs "take_out" 556,vs "take_out" 557,vs "/claim/cut.py" 558,vi 181,vi 2,vi 0,vi 0,vi 3,vr 286,vb,vi 181,vr 287,vn,vn,vn,vr 288,vi 559,vi 181,vs "/claim/cut.py" 560]) #[])::
 (nat_lit 290,of "take_out" "take_out" (top 37) "hastebook.nets" 339 289)::
 (nat_lit 294,ob (vt "code") none (Data.fields #[vs "works_on" 562,vs "works_on" 563,vs "/claim/cut.py" 564,vi 186,vi 1,vi 0,vi 0,vi 3,vr 291,vb,vi 181,vr 292,vn,vn,vn,vr 293,vi 565,vi 186,vs "/claim/cut.py" 566]) #[])::
 (nat_lit 295,of "works_on" "works_on" (top 38) "hastebook.nets" 339 294)::
 (nat_lit 301,oc "least_end" "least_end" 570 571 572 189 2 3 296 181 297 298 299 300 575 189 576)::
 (nat_lit 302,of "least_end" "least_end" (top 40) "hastebook.haste" 568 301)::
 (nat_lit 306,ob (vt "code") none (Data.fields #[vs "plan_at" 578,vs "plan_at" 579,vs "/claim/cut.py" 580,vi 191,vi 3,vi 0,vi 0,vi 3,vr 303,vb,vi 181,vr 304,vn,vn,vn,vr 305,vi 581,vi 191,vs "/claim/cut.py" 582]) #[])::
 (nat_lit 307,of "plan_at" "plan_at" (top 41) "hastebook.haste" 568 306)::
 (nat_lit 313,oc "stream_at" "stream_at" 584 585 586 196 3 3 308 181 309 310 311 312 590 196 591)::
 (nat_lit 314,of "stream_at" "stream_at" (top 42) "hastebook.haste" 568 313)::
 (nat_lit 318,ob (vt "code") none (Data.fields #[vs "least_hours" 593,vs "least_hours" 594,vs "/claim/cut.py" 595,vi 200,vi 1,vi 0,vi 0,vi 3,vr 315,vb,vi 181,vr 316,vn,vn,vn,vr 317,vi 596,vi 200,vs "/claim/cut.py" 597]) #[])::
 (nat_lit 319,of "least_hours" "least_hours" (top 43) "hastebook.haste" 568 318)::
 (nat_lit 325,oc "filled_net" "filled_net" 599 600 601 202 3 3 320 181 321 322 323 324 606 202 607)::
 (nat_lit 326,of "filled_net" "filled_net" (top 44) "hastebook.haste" 568 325)::
 (nat_lit 332,oc "plan_row" "plan_row" 609 610 611 206 3 3 327 181 328 329 330 331 616 206 617)::
 (nat_lit 333,of "plan_row" "plan_row" (top 45) "hastebook.haste" 568 332)::
 (nat_lit 337,ob (vt "code") none (Data.fields #[vs "through" 621,vs "through" 622,vs "/claim/cut.py" 623,vi 210,vi 2,vi 0,vi 0,vi 3,vr 334,vb,vi 181,vr 335,vn,vn,vn,vr 336,vi 624,vi 210,vs "/claim/cut.py" 625]) #[])::
 (nat_lit 338,of "through" "through" (top 47) "hastebook.streams" 619 337)::
 (nat_lit 342,ob (vt "code") none (Data.fields #[vs "worth" 627,vs "worth" 628,vs "/claim/cut.py" 629,vi 216,vi 3,vi 0,vi 0,vi 3,vr 339,vb,vi 181,vr 340,vn,vn,vn,vr 341,vi 630,vi 216,vs "/claim/cut.py" 631]) #[])::
 (nat_lit 343,of "worth" "worth" (top 48) "hastebook.streams" 619 342)::
 (nat_lit 349,oc "work_worth" "work_worth" 633 634 635 220 2 3 344 181 345 346 347 348 638 220 639)::
 (nat_lit 350,of "work_worth" "work_worth" (top 49) "hastebook.streams" 619 349)::
 (nat_lit 356,oc "price_at" "price_at" 643 644 645 225 3 3 351 181 352 353 354 355 649 225 650)::
 (nat_lit 357,of "price_at" "price_at" (top 51) "hastebook.curves" 641 356)::
 (nat_lit 363,oc "_law_whole" "_law_whole" 654 655 656 230 1 3 358 181 359 360 361 362 658 230 659)::
 (nat_lit 364,of "_law_whole" "_law_whole" (top 53) "law_hastebook_k58_whole_rests_and_prices" 652 363)::
 (nat_lit 370,oc "_law_cell_at" "_law_cell_at" 661 662 663 232 2 3 365 181 366 367 368 369 666 232 667)::
 (nat_lit 371,of "_law_cell_at" "_law_cell_at" (top 54) "law_hastebook_k58_whole_rests_and_prices" 652 370)::
 (nat_lit 377,oc "_law_mixed" "_law_mixed" 669 670 671 236 2 3 372 181 373 374 375 376 675 236 676)::
 (nat_lit 378,of "_law_mixed" "_law_mixed" (top 55) "law_hastebook_k58_whole_rests_and_prices" 652 377)::
 (nat_lit 384,oc "_law_names" "_law_names" 678 679 680 240 2 3 379 181 380 381 382 383 685 240 686)::
 (nat_lit 385,of "_law_names" "_law_names" (top 56) "law_hastebook_k58_whole_rests_and_prices" 652 384)::
 (nat_lit 389,ob (vt "code") none (Data.fields #[vs "_law_numbers" 688,vs "_law_numbers" 689,vs "/claim/cut.py" 690,vi 245,vi 1,vi 0,vi 0,vi 3,vr 386,vb,vi 181,vr 387,vn,vn,vn,vr 388,vi 691,vi 245,vs "/claim/cut.py" 692]) #[])::
 (nat_lit 390,of "_law_numbers" "_law_numbers" (top 57) "law_hastebook_k58_whole_rests_and_prices" 652 389)::
 (nat_lit 396,oc "_law_work" "_law_work" 694 695 696 251 5 3 391 181 392 393 394 395 705 251 706)::
 (nat_lit 397,of "_law_work" "_law_work" (top 58) "law_hastebook_k58_whole_rests_and_prices" 652 396)::
 (nat_lit 403,oc "_law_lot_free" "_law_lot_free" 708 709 710 265 3 3 398 181 399 400 401 402 723 265 724)::
 (nat_lit 404,of "_law_lot_free" "_law_lot_free" (top 59) "law_hastebook_k58_whole_rests_and_prices" 652 403)::
 (nat_lit 408,ob (vt "code") none (Data.fields #[vs "_law_lot" 726,vs "_law_lot" 727,vs "/claim/cut.py" 728,vi 287,vi 3,vi 0,vi 0,vi 3,vr 405,vb,vi 181,vr 406,vn,vn,vn,vr 407,vi 729,vi 287,vs "/claim/cut.py" 730]) #[])::
 (nat_lit 409,of "_law_lot" "_law_lot" (top 60) "law_hastebook_k58_whole_rests_and_prices" 652 408)::
 (nat_lit 413,ob (vt "code") none (Data.fields #[vs "_law_length" 732,vs "_law_length" 733,vs "/claim/cut.py" 734,vi 305,vi 2,vi 0,vi 0,vi 3,vr 410,vb,vi 181,vr 411,vn,vn,vn,vr 412,vi 735,vi 305,vs "/claim/cut.py" 736]) #[])::
 (nat_lit 414,of "_law_length" "_law_length" (top 61) "law_hastebook_k58_whole_rests_and_prices" 652 413)::
 (nat_lit 418,ob (vt "code") none (Data.fields #[vs "_law_ends" 738,vs "_law_ends" 739,vs "/claim/cut.py" 740,vi 311,vi 2,vi 0,vi 0,vi 3,vr 415,vb,vi 181,vr 416,vn,vn,vn,vr 417,vi 741,vi 311,vs "/claim/cut.py" 742]) #[])::
 (nat_lit 419,of "_law_ends" "_law_ends" (top 62) "law_hastebook_k58_whole_rests_and_prices" 652 418)::
 (nat_lit 423,ob (vt "code") none (Data.fields #[vs "_law_is_plan" 744,vs "_law_is_plan" 745,vs "/claim/cut.py" 746,vi 314,vi 4,vi 0,vi 0,vi 3,vr 420,vb,vi 181,vr 421,vn,vn,vn,vr 422,vi 747,vi 314,vs "/claim/cut.py" 748]) #[])::
 (nat_lit 424,of "_law_is_plan" "_law_is_plan" (top 63) "law_hastebook_k58_whole_rests_and_prices" 652 423)::
 (nat_lit 428,ob (vt "code") none (Data.fields #[vs "_law_price" 750,vs "_law_price" 751,vs "/claim/cut.py" 752,vi 324,vi 2,vi 0,vi 0,vi 3,vr 425,vb,vi 181,vr 426,vn,vn,vn,vr 427,vi 753,vi 324,vs "/claim/cut.py" 754]) #[])::
 (nat_lit 429,of "_law_price" "_law_price" (top 64) "law_hastebook_k58_whole_rests_and_prices" 652 428)::
 (nat_lit 435,oc "_law_plan_by" "_law_plan_by" 756 757 758 326 4 3 430 181 431 432 433 434 772 326 773)::
 (nat_lit 436,of "_law_plan_by" "_law_plan_by" (top 65) "law_hastebook_k58_whole_rests_and_prices" 652 435)::
 (nat_lit 442,oc "_law_moment" "_law_moment" 775 776 777 340 3 3 437 181 438 439 440 441 784 340 785)::
 (nat_lit 443,of "_law_moment" "_law_moment" (top 66) "law_hastebook_k58_whole_rests_and_prices" 652 442)::
 (nat_lit 449,oc "_law_left" "_law_left" 787 788 789 346 2 3 444 181 445 446 447 448 796 346 797)::
 (nat_lit 450,of "_law_left" "_law_left" (top 67) "law_hastebook_k58_whole_rests_and_prices" 652 449)::
 (nat_lit 456,oc "_law_twice" "_law_twice" 799 800 801 352 5 3 451 181 452 453 454 455 811 352 812)::
 (nat_lit 457,of "_law_twice" "_law_twice" (top 68) "law_hastebook_k58_whole_rests_and_prices" 652 456)::
 (nat_lit 463,oc "_law_total" "_law_total" 814 815 816 359 5 3 458 181 459 460 461 462 824 359 825)::
 (nat_lit 464,of "_law_total" "_law_total" (top 69) "law_hastebook_k58_whole_rests_and_prices" 652 463)::
 (nat_lit 468,ob (vt "code") none (Data.fields #[vs "law" 827,vs "law" 828,vs "/claim/cut.py" 829,vi 362,vi 1,vi 0,vi 0,vi 3,vr 465,vb,vi 181,vr 466,vn,vn,vn,vr 467,vi 830,vi 362,vs "/claim/cut.py" 831]) #[])::
 (nat_lit 469,of "law" "law" (top 70) "law_hastebook_k58_whole_rests_and_prices" 652 468)::[]
def KA:List Addr:=[2,3,22,29,30,31,32,35,42,43,44,52,53,59,60,64,65,69,70,74,75,81,82,86,87,91,92,98,99,105,106,112,113,117,118,124,125,129,130,143,144,145,146,147,148,149,159,163,164,170,171,177,178,189,190,201,202,213,214,215,216,217,218,219,227,228,234,235,241,242,248,249,253,254,260,261,265,266,272,273,279,280,284,285,289,290,294,295,301,302,306,307,313,314,318,319,325,326,332,333,337,338,342,343,349,350,356,357,363,364,370,371,377,378,384,385,389,390,396,397,403,404,408,409,413,414,418,419,423,424,428,429,435,436,442,443,449,450,456,457,463,464,468,469]
noncomputable def rq:Nat->List Obj->BT->BT
 |_,[],t=>t
 |i,o::os,t=>rq (i+1) os (t.ins i o)
noncomputable def jM(p:Program)(w:World)(m:Nat)(an:Option Value):Nat->SharedT->Thread->Option SharedT
 |0,_,_=>none
 |n+1,s,t=>match through t with
  |true=>some s
  |false=>match stepOk m an t with
   |false=>none
   |true=>match stepT (denote treeTable) p w s t with
    |some r=>jM p w m an n r.1 r.2
    |none=>none
theorem Iz{p:Program}{w:World}{m:Nat}{an:Option Value}:∀{n:Nat}{s s':SharedT}{t:Thread},jM p w m an n s t=some s'->topRun treeTable p w m an n s.abs t=some s'.abs
 |0,_,_,_,h=>by cases h
 |n+1,s,s',t,h=>by
  unfold jM at h;unfold topRun;cases h1:through t with
  |true=>rw[h1]at h;cases h;rfl
  |false=>
   rw[h1]at h;cases h2:stepOk m an t with
   |false=>rw[h2]at h;cases h
   |true=>
    rw[h2]at h;cases h3:stepT (denote treeTable) p w s t with
    |none=>rw[h3]at h;cases h
    |some r=>
     rw[h3]at h;rw[show step (denote treeTable) p w s.abs t=.go r.1.abs r.2 from stepT_spec h3]
     exact Iz h
theorem Ab{p q:Program}{Xt:Shared->Bool}{α:Type}{Yf:Shared->α}{Ya:World->α}{N:Nat}{s0:World->OsState->SharedT}{ran:World->OsState->Option SharedT}{fin:World->OsState->Shared}
 (hf:∀w os,fin w os=((ran w os).getD (s0 w os)).abs)
 (hr:∀w os,ran w os=jM p w (boot_heap w.params).objs.size ((boot_heap w.params).nsMap mainGlobals "__annotations__") N (s0 w os) (topStub p))
 (c0:(fun(w:World) (os:OsState)=>(s0 w os).abs)=λw os=>⟨boot_heap w.params,aSt [],boot_drawn,boot_toks,os⟩)
 (c1:(λw:World=>(boot_heap w.params).isNs mainGlobals)=λ_=>true)
 (c2:(fun(w:World) (os:OsState)=>(ran w os).isSome)=λ_ _=>true)
 (c3:(fun(w:World) (os:OsState)=>(staticsOk (importedModules p.main.body) (boot_heap w.params) (fin w os).heap&&namesBound p (fin w os).heap&&gensDone (fin w os))&&laidKept (boot_heap w.params) (fin w os).heap)=λ_ _=>true)
 (c4:(fun(w:World) (os:OsState)=>openSeen q [] (importedModules p.main.body) Xt true (fin w os))=λ_ _=>openGood q [])
 (c5:(fun(w:World) (os:OsState)=>Yf (fin w os))=λw _=>Ya w)
 (c6:opening p=plainProg p.main.scope.names)(hN:Nat.ble 600 N=true)(hm:∀s,fenceModules? p s=some s):LeftO p q [] Xt Yf Ya N:=λw=>by
 obtain⟨⟨h,gs,d,k,os⟩,e,e'⟩:=aSi.mp (boot_open (p:=p) (N:=N) c6 hN hm w);obtain⟨rfl,rfl,rfl,rfl⟩:h=boot_heap w.params/\gs=aSt []/\d=boot_drawn/\k=boot_toks:=by simpa using e'
 have r:topRun treeTable p w (boot_heap w.params).objs.size ((boot_heap w.params).nsMap mainGlobals "__annotations__") N ⟨boot_heap w.params,aSt [],boot_drawn,boot_toks,os⟩ (topStub p)=some (fin w os):=by
  have q0:(s0 w os).abs=⟨boot_heap w.params,aSt [],boot_drawn,boot_toks,os⟩:=congrFun (congrFun c0 w) os;have q2:(ran w os).isSome=true:=congrFun (congrFun c2 w) os;rw[<-q0];obtain⟨x,hx⟩:=aRD.mp q2;have:fin w os=x.abs:=by rw[hf,hx];rfl
  rw[this];rw[hr]at hx
  exact Iz hx
 have t:topFrom treeTable p w N ⟨boot_heap w.params,aSt [],boot_drawn,boot_toks,os⟩=some (fin w os):=by
  unfold topFrom;dsimp only;rw[show(boot_heap w.params).isNs mainGlobals=true from congrFun c1 w,r];have q3:((staticsOk (importedModules p.main.body) (boot_heap w.params) (fin w os).heap&&namesBound p (fin w os).heap&&gensDone (fin w os))&&laidKept (boot_heap w.params) (fin w os).heap)=true:=congrFun (congrFun c3 w) os;show(match((staticsOk (importedModules p.main.body) (boot_heap w.params) (fin w os).heap&&namesBound p (fin w os).heap&&gensDone (fin w os))&&laidKept (boot_heap w.params) (fin w os).heap)with|true=>some (fin w os)|false=>none)=_;rw[q3]
 unfold openEnds;rw[e];show(topFrom treeTable p w N _).map _=_;rw[t]
 exact congrArg some (aTw (congrFun (congrFun c4 w) os) (congrFun (congrFun c5 w) os))
noncomputable def s0(w:World)(os:OsState):SharedT:=⟨rq 0 (boot_heap w.params).objs.toList .nil,(boot_heap w.params).objs.size,(boot_heap w.params).life,#[],boot_drawn,boot_toks,os⟩
noncomputable def ran(w:World)(os:OsState):Option SharedT:=jM PR w (boot_heap w.params).objs.size ((boot_heap w.params).nsMap mainGlobals "__annotations__") 4080 (s0 w os) (topStub PR)
noncomputable def fin(w:World)(os:OsState):Shared:=((ran w os).getD (s0 w os)).abs
def vw:Program:=view PR [0,2,3,5,6,7,8,10,11,13,14,15,16,17,19,20,21,23,24,25,26,27,28,29,30,31,32,33,34,35,36,37,38,40,41,42,43,44,45,47,48,49,51,53,54,55,56,57,58,59,60,61,62,63,64,65,66,67,68,69,70]
noncomputable def xt(s:Shared):Bool:=xlAt vw [] s&&recOk (RowW.records (OpenRow.toRowW (OpenLaw.row PySem.Challenge.rw_hastebook_k58_whole_rests_and_prices))) s
set_option maxHeartbeats 0 in
theorem c0:(fun(w:World) (os:OsState)=>(s0 w os).abs)=λw os=>⟨boot_heap w.params,aSt [],boot_drawn,boot_toks,os⟩:=by kernel_rfl
theorem c1:(λw:World=>(boot_heap w.params).isNs mainGlobals)=λ_=>true:=by kernel_rfl
set_option maxHeartbeats 0 in
theorem c2:(fun(w:World) (os:OsState)=>(ran w os).isSome)=λ_ _=>true:=by kernel_rfl
set_option maxHeartbeats 0 in
theorem c3:(fun(w:World) (os:OsState)=>(staticsOk (importedModules PR.main.body) (boot_heap w.params) (fin w os).heap&&namesBound PR (fin w os).heap&&gensDone (fin w os))&&laidKept (boot_heap w.params) (fin w os).heap)=λ_ _=>true:=by kernel_rfl
set_option maxHeartbeats 0 in
theorem c4:(fun(w:World) (os:OsState)=>openSeen vw [] (importedModules PR.main.body) xt true (fin w os))=λ_ _=>openGood vw []:=by kernel_rfl
set_option maxHeartbeats 0 in
theorem c5:(fun(w:World) (os:OsState)=>KA.map (fin w os).heap.get?)=λw _=>(KH w.params).map λp=>some p.2:=by kernel_rfl
theorem c6:opening PR=plainProg PR.main.scope.names:=by kernel_rfl
theorem left:LeftO PR vw [] xt (λs=>KA.map s.heap.get?) (λw=>(KH w.params).map λp=>some p.2) 4080:=
 Ab (s0:=s0) (ran:=ran) (fin:=fin) (λ_ _=>rfl) (λ_ _=>rfl) c0 c1 c2 c3 c4 c5 c6 rfl (λ_=>rfl)
theorem ka(P:Params):KA=(KH P).map (·.1):=by kernel_rfl
theorem xs:∀s,xt s=true->XL vw [] (s.heap.nsMap mainGlobals) s.heap:=λs e=>xl_of s (eN.mp e).1
theorem rs:∀s,xt s=true->RecFacts (RowW.records (OpenRow.toRowW (OpenLaw.row PySem.Challenge.rw_hastebook_k58_whole_rests_and_prices))) s.heap:=λs e=>recFacts_of (eN.mp e).2
end HT
noncomputable section
def eV:=λ{a b c d e}=>(@Option.bind_eq_some_iff a b c d e).mp
def eZ:=λ{a b c d e}=>(@aSi a b c d e).mp
def fA:=λ{a b c d}=>(@List.getElem?_eq_some_iff a b c d).mp
def fR:=λ{a b c d}=>(@bU a b c d).mp
def fU:=λ{a b c d e}=>(@aSj a b c d e).mp
def fT:=λ{a b c}=>(@List.mem_iff_getElem? a b c).mp
def fY:=λ{a b c d}=>(@eB a b c d).mp
def gJ:=λ{a b c}=>(@dO a b c).mp
def iK:=λ{a b c d}=>(@aSl a b c d).mp
def iY:=λ{a b}=>(@aRV a b).mp
def jF:=λ{a b c d e}=>(@aSj a b c d e).mpr
def i7:=λ{a b c}=>(@cH a b c).mp
def i9:=λ{a b c}=>(@List.nodup_append a b c).mpr
def jQ:=λ{a b c d}=>(@eB a b c d).mpr
def j9:=λ{a b c d}=>(@aSl a b c d).mpr
def iR:=λ{a b}=>(@aRD a b).mp
def jG:=λ{a b}=>(@List.length_pos_iff a b).mpr
def kF:=λ{a b c d}=>(@aRW a b c d).mp
def kX:=λ{a b c d}=>(@decide_eq_decide a b c d).mpr
set_option maxRecDepth 100000
namespace L2
open PySem PySem.Spec PyProof.Rows
variable{H:Hp}{a b:Addr}{o:HO}
noncomputable abbrev Key:=Sum Int Str
def A9:Key->Value->Bool
 | .inl k,v=>Value.isInt k v
 | .inr x,v=>Value.isStrOf x v
def Eu(w:World):Key->Int
 | .inl k=>hashInt k
 | .inr x=>hashStr w x
theorem k6:∀{k:Key}{v:Value},A9 k v=true->(∃i t,k=Sum.inl i/\v=Value.int i t)\/(∃x t,k=Sum.inr x/\v=Value.str x t)
 | .inl i,v,h=>by
   obtain⟨t,e⟩:=Value.isInt_shape (k:=i) (v:=v) h
   exact .inl ⟨i,t,rfl,e⟩
 | .inr x,v,h=>by
   obtain⟨t,e⟩:=Value.isStrOf_shape (x:=x) (v:=v) h
   exact .inr ⟨x,t,rfl,e⟩
theorem T3(i:Int)(t:Tok):A9 (.inl i) (.int i t)=true:=by simp[A9,Value.isInt]
theorem UF(x:Str)(t:Tok):A9 (.inr x) (.str x t)=true:=by simp[A9,Value.isStrOf]
theorem OT(a b:Int):decide ((Sum.inl a:Key)=Sum.inl b)=(a==b):=by
 by_cases e:a=b
 ·subst e;simp
 ·have h:¬(Sum.inl a:Key)=Sum.inl b:=λq=>e (Sum.inl.inj q)
  rw[decide_eq_false h]
  exact(beq_eq_false_iff_ne.mpr e).symm
theorem OC(a b:Str):decide ((Sum.inr a:Key)=Sum.inr b)=decide (a=b):=by
 by_cases e:a=b
 ·subst e;simp
 ·have h:¬(Sum.inr a:Key)=Sum.inr b:=λq=>e (Sum.inr.inj q)
  rw[decide_eq_false h,decide_eq_false e]
theorem NS(a:Int)(b:Str):decide ((Sum.inl a:Key)=Sum.inr b)=false:=decide_eq_false (λq=>nomatch q)
theorem P5(a:Str)(b:Int):decide ((Sum.inr a:Key)=Sum.inl b)=false:=decide_eq_false (λq=>nomatch q)
def j6(c:Program)(w:World):PySem.KeyKind c w Key where
 is:=A9
 hash:=Eu w
 inj:=λv a b m g=>by
  rcases k6 m with⟨i,t,rfl,rfl⟩| ⟨x,t,rfl,rfl⟩
  ·rcases k6 g with⟨j,u,rfl,e⟩| ⟨y,u,rfl,e⟩
   ·injection e with d _;rw[d]
   ·exact nomatch e
  ·rcases k6 g with⟨j,u,rfl,e⟩| ⟨y,u,rfl,e⟩
   ·exact nomatch e
   ·injection e with d _;rw[d]
 byValue:=λk v h=>by
  rcases k6 h with⟨i,t,rfl,rfl⟩| ⟨x,t,rfl,rfl⟩<;>rfl
 pyHash:=λf h=>by
  rcases k6 f with⟨i,t,rfl,rfl⟩| ⟨x,t,rfl,rfl⟩
  ·exact wpAny_pyHash_int h
  ·exact wpAny_pyHash_str h
 eqBool:=λl f h=>by
  rcases k6 l with⟨i,t,rfl,rfl⟩| ⟨x,t,rfl,rfl⟩
  ·rcases k6 f with⟨j,u,rfl,rfl⟩| ⟨y,u,rfl,rfl⟩
   ·rw[OT]at h;exact wpAny_eqBool_int h
   ·rw[NS]at h;exact SeqAt.EqAt.int_str i t y u _ _ _ _ h
  ·rcases k6 f with⟨j,u,rfl,rfl⟩| ⟨y,u,rfl,rfl⟩
   ·rw[P5]at h;exact SeqAt.EqAt.str_int x t j u _ _ _ _ h
   ·rw[OC]at h;exact wpAny_eqBool_str h
 «strs»:=λk x t v h=>by
  rcases k6 h with⟨i,u,rfl,e⟩| ⟨y,u,rfl,e⟩
  ·exact nomatch e
  ·injection e with d _
   subst d;cases v<;>rfl
theorem Wd(c:Program)(w:World)(i:Int)(t:Tok):(j6 c w).is (.inl i) (.int i t)=true:=T3 i t
theorem VW(c:Program)(w:World)(x:Str)(t:Tok):(j6 c w).is (.inr x) (.str x t)=true:=UF x t
inductive V where
 |aH|bl (b:Bool)|int (i:Int)|str (x:Str)|qg (b:Array UInt8)|C9 (b:UInt64)|ref (a:Addr)|ty (n:String)
 deriving DecidableEq
def RelV:V->Value->Prop
 | .aH,u=>u=Value.none
 | .bl b,u=>u=Value.bool b
 | .int i,u=>∃t,u=Value.int i t
 | .str x,u=>∃t,u=Value.str x t
 | .qg b,u=>∃t,u=Value.bytes b t
 | .C9 b,u=>∃t,u=Value.float b t
 | .ref a,u=>u=Value.ref a
 | .ty n,u=>u=Value.type n
abbrev aq:List V->List Value->Prop:=Paired RelV
theorem aq.length{xs:List V}{us:List Value}(r:aq xs us):xs.length=us.length:=Paired.length r
theorem aq.get:∀{xs:List V}{c:List Value}{i:Nat}{x:V},aq xs c->xs[i]?=some x->∃u,c[i]?=some u/\RelV x u
 |_,_,_,_,.nil,e=>by simp at e
 |_,_,0,_,.cons r _,e=>by simp at e;subst e;exact⟨_,rfl,r⟩
 |_,_,i+1,x,.cons _ t,e=>by
  obtain⟨u,f,d⟩:=aq.get (i:=i) (x:=x) t (by simpa using e)
  exact⟨u,by simpa using f,d⟩
theorem aq.set{x:V}{u:Value}(r:RelV x u):∀{xs:List V}{c:List Value}(i:Nat),aq xs c->aq (xs.set i x) (c.set i u)
 |_,_,_,.nil=>.nil
 |_,_,0,.cons _ t=>.cons r t
 |_,_,i+1,.cons q t=>.cons q (aq.set r i t)
theorem aq.append:∀{xs ys:List V}{c ws:List Value},aq xs c->aq ys ws->aq (xs++ys) (c++ws)
 |_,_,_,_,.nil,s=>s
 |_,_,_,_,.cons r t,s=>.cons r (aq.append t s)
theorem aq.take:∀{xs:List V}{c:List Value}(n:Nat),aq xs c->aq (xs.take n) (c.take n)
 |_,_,0,_=>.nil
 |_,_,_+1,.nil=>.nil
 |_,_,n+1,.cons r t=>.cons r (aq.take n t)
theorem aq.drop:∀{xs:List V}{c:List Value}(n:Nat),aq xs c->aq (xs.drop n) (c.drop n)
 |_,_,0,r=>r
 |_,_,_+1,.nil=>.nil
 |_,_,n+1,.cons _ t=>aq.drop n t
def rA:Option V->Option Value->Prop
 |some v,some u=>RelV v u
 |none,none=>True
 |_,_=>False
def KV{c:Type}:List (c×V)->List (c×Value)->Prop:=Paired fun(p:c×V) (q:c×Value)=>p.1=q.1/\RelV p.2 q.2
def kV:Key->V
 | .inl i=>.int i
 | .inr x=>.str x
inductive HO where
 |lst (xs:List V)
 |tup (xs:List V)
 |dK (kvs:List (Key×V))|dT (kvs:List (List Key×V))
 |set (S:Int->Bool) (n:Nat)
 |ins (C dx:Addr) (fs:List (Str×V))
 |own (x:Addr)
 |xd (fs:List (Str×V))
 |met (f x:Addr)
 |kg (lo hi:Int)
 |fo (o:Obj) (u:HO)
 |zk (ps:Array Value)
 |ext (φ:Heap->Prop)
noncomputable abbrev Hp:=Addr->Option HO
noncomputable def upd(H:Hp)(a:Addr)(o:HO):Hp:=λb=>if b=a then some o else H b
theorem j8:upd H a o a=some o:=by unfold upd;rw[if_pos rfl]
theorem gH(h:b≠a):upd H a o b=H b:=by unfold upd;rw[if_neg h]
theorem o8{u:HO}(h:H a=some o)(c:H b=some u)(d:o≠u):a≠b:=by
 intro e;subst e;rw[h]at c;exact d (cE.inj c)
theorem oR(h:H a=some o)(c:H b=none):a≠b:=by
 intro e;subst e;rw[h]at c;cases c
section
variable (P:Program)(w:World)
def kW(H:Hp)(h:Heap)(a:Addr):HO->Prop
 | .lst xs=>xs.length<=sizeLine/\∃(c:List Value)(n:Nat),aq xs c/\h.get? a=some {cls:=.type "list",data:=.seq c.toArray n}
 | .tup xs=>xs.length<=sizeLine/\∃c:List Value,aq xs c/\IsTup h a c.toArray
 | .dK kvs=>kvs.length<=sizeLine/\(a==sysModules)=false/\∃vs,KV kvs vs/\h.DictOf (j6 P w) a vs
 | .dT kvs=>kvs.length<=sizeLine/\(a==sysModules)=false/\∃xs:List (List Key×Addr×Value),
  Paired (fun(p:List Key×V) (q:List Key×Addr×Value)=>p.1=q.1/\H q.2.1=some (.tup (p.1.map kV))/\RelV p.2 q.2.2) kvs xs/\
  ∃o k r,h.get? a=some o/\o.ExactDict/\o.data=.dict k r/\k.toList=xs.map (entryOfKey (tupleKind (j6 P w)))/\(xs.map (·.1)).Nodup
 | .set S n=>h.SetOf (intKind P w) a S n
 | .ins C dx fs=>H dx=some (.own a)/\fs.length<=1000/\dx≠a/\h.get? a=some (dJ C dx)/\
  ∃d,h.Ns1 dx d/\(∀f,rA (fs.lookup f) (d f))/\PySem.Within d (fs.map (·.1))
 | .own _=>∃o,h.get? a=some o
 | .xd fs=>∃d,h.Ns1 a d/\∀f,rA (fs.lookup f) (d f)
 | .kg lo m=>∃t u v,h.get? a=some {cls:=.type "range",data:=.fields #[.int lo t,.int m u,.int 1 v]}
 | .fo o u=>h.get? a=some o/\kW H h a u
 | .zk l=>h.get? a=some {cls:=.none,data:=.fields l}
 | .met f x=>h.get? a=some (aR5 (.ref f) (.ref x))
 | .ext g=>g h/\(∃o,h.get? a=some o)/\∀j i:Heap,g j->(∀o,j.get? a=some o->i.get? a=some o)->g i
def gh(H:Hp)(h:Heap):Prop:=∀a o,H a=some o->kW P w H h a o
end
section
variable {P:Program}{w:World}{H g:Hp}{h h':Heap}{a:Addr}{o:HO}
theorem kW.lt(x:kW P w H h a o):a<h.objs.size:=by
 cases o with
 |lst xs=>obtain⟨_,_,_,_,e⟩:=x;exact Heap.lt_size e
 |tup xs=>obtain⟨_,_,_,p⟩:=x;exact p.lt
 |dK c=>obtain⟨_,_,_,_,o,_,_,e,_⟩:=x;exact Heap.lt_size e
 |dT c=>obtain⟨_,_,_,_,o,_,_,e,_⟩:=x;exact Heap.lt_size e
 |set S n=>obtain⟨o,_,_,_,e,_⟩:=x;exact Heap.lt_size e
 |ins C dx fs=>obtain⟨_,_,_,e,_⟩:=x;exact Heap.lt_size e
 |own y=>obtain⟨_,e⟩:=x;exact Heap.lt_size e
 |xd fs=>obtain⟨_,⟨_,_,_,e,_⟩,_⟩:=x;exact Heap.lt_size e
 |kg lo j=>obtain⟨_,_,_,e⟩:=x;exact Heap.lt_size e
 |fo ob u=>obtain⟨e,_⟩:=x;exact Heap.lt_size e
 |zk i=>exact Heap.lt_size (show h.get? a=some _ from x)
 |met f y=>exact Heap.lt_size (show h.get? a=some _ from x)
 |ext d=>obtain⟨_,⟨_,e⟩,_⟩:=x;exact Heap.lt_size e
theorem Paired.z4{d c:Type}{F G:d->c->Prop}:∀{i:List d}{j:List c},Paired F i j->(∀a b,F a b->G a b)->Paired G i j
 |_,_,.nil,_=>.nil
 |_,_,.cons r t,f=>.cons (f _ _ r) (Paired.z4 t f)
theorem kW.ib(x:kW P w H h a o)(k:∀b u,(b=a\/H b=some (.own a))->h.get? b=some u->h'.get? b=some u)
 (F:∀b,H b=some (.own a)->g b=some (.own a))(D:∀b xs,H b=some (.tup xs)->g b=some (.tup xs)):kW P w g h' a o:=by
 induction o with
 |lst xs=>obtain⟨z,l,n,r,e⟩:=x;exact⟨z,l,n,r,k _ _ (.inl rfl) e⟩
 |tup xs=>obtain⟨z,l,r,ob,e,c⟩:=x;exact⟨z,l,r,ob,k _ _ (.inl rfl) e,c⟩
 |dK s=>obtain⟨z,y,vs,r,ob,i,j,e,c⟩:=x;exact⟨z,y,vs,r,ob,i,j,k _ _ (.inl rfl) e,c⟩
 |dT s=>
  obtain⟨z,y,xs,r,ob,i,j,e,c⟩:=x
  exact⟨z,y,xs,Paired.z4 r λp q z=>⟨z.1,D _ _ z.2.1,z.2.2⟩,ob,i,j,k _ _ (.inl rfl) e,c⟩
 |set S n=>obtain⟨ob,i,j,t,e,c⟩:=x;exact⟨ob,i,j,t,k _ _ (.inl rfl) e,c⟩
 |ins C dx fs=>
  obtain⟨d,z,B,e,m,⟨od,i,j,G,c⟩,r⟩:=x
  exact⟨F _ d,z,B,k _ _ (.inl rfl) e,m,⟨od,i,j,k _ _ (.inr d) G,c⟩,r⟩
 |own y=>obtain⟨ob,e⟩:=x;exact⟨ob,k _ _ (.inl rfl) e⟩
 |xd fs=>obtain⟨m,⟨od,i,j,e,c⟩,r⟩:=x;exact⟨m,⟨od,i,j,k _ _ (.inl rfl) e,c⟩,r⟩
 |kg lo J=>obtain⟨t,u,v,e⟩:=x;exact⟨t,u,v,k _ _ (.inl rfl) e⟩
 |fo ob u ih=>obtain⟨e,q⟩:=x;exact⟨k _ _ (.inl rfl) e,ih q⟩
 |zk A=>
  have e:h.get? a=some {cls:=.none,data:=.fields A}:=x;show h'.get? a=some {cls:=.none,data:=.fields A}
  exact k a _ (.inl rfl) e
 |met f y=>
  have e:h.get? a=some (aR5 (.ref f) (.ref y)):=x;show h'.get? a=some (aR5 (.ref f) (.ref y))
  exact k a _ (.inl rfl) e
 |ext I=>obtain⟨p,⟨o,e⟩,st⟩:=x;exact⟨st _ _ p λo q=>k _ _ (.inl rfl) q,⟨o,k _ _ (.inl rfl) e⟩,st⟩
theorem gh.lt(x:gh P w H h)(e:H a=some o):a<h.objs.size:=(x a o e).lt
theorem gh.fresh(x:gh P w H h)(e:h.objs.size<=a):H a=none:=by
 cases q:H a with
 |none=>rfl
 |some u=>exact absurd (bL (x.lt q) e) (cR _)
theorem gh.kept(x:gh P w H h)(k:∀b u,h.get? b=some u->h'.get? b=some u):gh P w H h':=λa o e=>
 (x a o e).ib (λb u _ q=>k b u q) (λ_ q=>q) λ_ _ q=>q
theorem gh.laid(x:gh P w H h)(k:∀b u,h.get? b=some u->h'.get? b=some u)(j:h.objs.size<=a)(d:kW P w (upd H a o) h' a o):gh P w (upd H a o) h':=λb u e=>by
 have f:=x.fresh j;by_cases i:b=a
 ·subst i;rw[j8]at e;cases e;exact d
 ·rw[gH i]at e
  exact(x b u e).ib (λc v _ q=>k c v q) (λc q=>by rw[gH (oR q f)];exact q) λc xs q=>by rw[gH (oR q f)];exact q
end
def Rd(H:Hp)(a:Addr)(u:HO):Prop:=H a=some u\/∃o,H a=some (.fo o u)
theorem Rd.ok{P:Program}{w:World}{H:Hp}{h:Heap}{a:Addr}{u:HO}(r:Rd H a u)(x:gh P w H h):kW P w H h a u:=by
 rcases r with r| ⟨o,r⟩
 ·exact x a u r
 ·obtain⟨_,q⟩:=x a _ r
  exact q
def CJ:Option HO->Prop
 |some (.lst _)=>True
 |some (.dK _)=>True
 |some (.dT _)=>True
 |some (.set _ _)=>True
 |some (.ins _ _ _)=>True
 |some (.ext _)=>True
 |_=>False
section
variable {P:Program}{w:World}{H:Hp}{h d:Heap}{x e:Addr}{f:HO}
theorem gh.write(ok:gh P w H h)(g:CJ (H x))(s:e=x\/H e=some (.own x))(k:∀b u,b≠e->h.get? b=some u->d.get? b=some u)(A:∃u,d.get? e=some u)
 (m:kW P w (upd H x f) d x f):gh P w (upd H x f) d:=λb u q=>by
 have n:∀c y,H c=some (.own y)->c≠x:=λc y r z=>by subst z;rw[r]at g;exact g
 have t:∀c xs,H c=some (.tup xs)->c≠x:=λc xs r z=>by subst z;rw[r]at g;exact g
 by_cases l:b=x
 ·subst l;rw[j8]at q;cases q;exact m
 ·rw[gH l]at q;by_cases i:b=e
  ·have p:H b=some (.own x):=by
    rcases s with z|z
    ·exact absurd (i.trans z) l
    ·rw[i];exact z
   rw[q]at p;cases p;obtain⟨v,B⟩:=A
   exact⟨v,by rw[i];exact B⟩
  ·refine(ok b u q).ib (λc v j r=>k c v ?_ r) (λc r=>by rw[gH (n c b r)];exact r) λc xs r=>by rw[gH (t c xs r)];exact r
   rcases j with rfl|j
   ·exact i
   ·rintro rfl;rcases s with z|z
    ·exact n c b j z
    ·rw[j]at z;cases z;exact l rfl
end
structure Un(fs ex:List Addr)(H H':Hp)(h h':Heap):Prop where
 keep:∀b o,h.get? b=some o->H b=none->b∉fs->b∉ex->h'.get? b=some o
 slot:∀b o,h.get? b=some o->H b=none->b∈fs->b∉ex->∃sl,h'.get? b=some {o with slots:=sl}
 free:∀b o,h.get? b=some o->H b=none->b∉ex->H' b=none
 there:∀b o,h.get? b=some o->b∉ex->∃o',h'.get? b=some o'
 jt:∀b xs,H b=some (.tup xs)->H' b=some (.tup xs)
 ir:∀b o u,H b=some (.fo o u)->H' b=some (.fo o u)
 ju:∀b ps,H b=some (.zk ps)->∃more,H' b=some (.zk (ps++more))
section
variable {fs f ex g:List Addr}{H d i:Hp}{h c j h':Heap}{a x e:Addr}{o:HO}
theorem Un.any(u:Un fs ex H d h c){b:Addr}{ob:Obj}(q:h.get? b=some ob)(n:H b=none)(k:b∉ex):∃sl,c.get? b=some {ob with slots:=sl}:=by
 by_cases l:b∈fs
 ·exact u.slot b ob q n l k
 ·exact⟨ob.slots,u.keep b ob q n l k⟩
theorem Un.kept(k:∀b u,h.get? b=some u->h'.get? b=some u):Un fs ex H H h h':=
 ⟨λb ob q _ _ _=>k b ob q,λb ob q _ _ _=>⟨ob.slots,k b ob q⟩,λ_ _ _ n _=>n,λb ob q _=>⟨ob,k b ob q⟩,λ_ _ q=>q,λ_ _ _ q=>q,λ_ l q=>⟨#[],by rw[q];simp⟩⟩
theorem Un.refl:Un fs ex H H h h:=Un.kept λ_ _ q=>q
theorem Un.laid(k:∀b u,h.get? b=some u->h'.get? b=some u)(m:h.objs.size<=a)(l:H a=none):Un fs ex H (upd H a o) h h' where
 keep:=λb u q _ _ _=>k b u q
 slot:=λb u q _ _ _=>⟨u.slots,k b u q⟩
 free:=λb u q n _=>by rw[gH (bS (bL (Heap.lt_size q) m))];exact n
 there:=λb u q _=>⟨u,k b u q⟩
 jt:=λb xs q=>by rw[gH (oR q l)];exact q
 ir:=λb u xs q=>by rw[gH (oR q l)];exact q
 ju:=λb p q=>⟨#[],by rw[gH (oR q l),q];simp⟩
theorem Un.write(l:CJ (H x))(y:e=x\/H e=some (.own x))(k:∀b u,b≠e->h.get? b=some u->h'.get? b=some u)(v:∃u,h'.get? e=some u):Un fs ex H (upd H x o) h h':=by
 have s:∀b,H b=none->b≠x:=λb n z=>by subst z;rw[n]at l;exact l
 have t:∀b,H b=none->b≠e:=λb n z=>by
  subst z;rcases y with r|r
  ·exact s b n r
  ·rw[n]at r;cases r
 have m:∀b u,H b=some u->¬CJ (some u)->b≠x:=λb u q w z=>by subst z;rw[q]at l;exact w l
 refine⟨λb u q n _ _=>k b u (t b n) q,λb u q n _ _=>⟨u.slots,k b u (t b n) q⟩,λb u q n _=>by rw[gH (s b n)];exact n,λb u q _=>?_,
  λb xs q=>by rw[gH (m b _ q λz=>z)];exact q,λb u xs q=>by rw[gH (m b _ q λz=>z)];exact q,λb A q=>⟨#[],by rw[gH (m b _ q λz=>z),q];simp⟩⟩
 by_cases p:b=e
 ·subst p;exact v
 ·exact⟨u,k b u p q⟩
end
noncomputable def CW(h:Heap)(H:Hp):List Addr:=(bH h.objs.size).filter λa=>(H a).isSome
def uq(h:Heap)(H:Hp):Heap:=PySem.W.hideAll h (CW h H)
theorem UQ(h:Heap)(H:Hp):(uq h H).objs.size=h.objs.size:=PySem.W.hideAll_size _ _
theorem Tp{h:Heap}{H:Hp}{b:Addr}{o:Obj}(e:h.get? b=some o)(n:H b=none):(uq h H).get? b=some o:=
 PySem.W.hideAll_get _ e λc=>by
  have q:(H b).isSome=true:=(iK c).2;rw[n]at q;simp at q
theorem Su{h:Heap}{H:Hp}{b:Addr}{o:Obj}(e:(uq h H).get? b=some o):h.get? b=some o/\H b=none:=by
 have c:h.get? b=some o:=PySem.W.of_hideAll (CW h H) e
 refine⟨c,?_⟩
 cases q:H b with
 |none=>rfl
 |some x=>
  have d:b∈CW h H:=j9 ⟨aRV.mpr (Heap.lt_size c),by simp[q]⟩;have z:(uq h H).get? b=none:=PySem.W.hideAll_none (CW h H) d;rw[z]at e;cases e
noncomputable def uk(g h:Heap)(L:Addr):List (Addr×Obj):=(bH h.objs.size).filterMap λa=>if a=L\/(g.get? a).isSome=true then none else(h.get? a).map λo=>(a,o)
def rest(g h:Heap)(L d:Addr):List (Addr×Obj):=(uk g h L).filter λp=>decide (p.1≠d)
structure Mod(K:aL)(mg:Str->Option Value)(base:Heap):Prop where
 BS:K.In base
 glob:base.Ns mainGlobals mg
 blt:∃mb,base.Ns builtinsNs mb/\∀x:Str,x≠"__name__"->mb x=bootBuiltins x
 nolimit:base.NoLimit
structure Cx where
 prog:Program
 w:World
 K:aL
 mg:Str->Option Value
 base:Heap
 A:Around
 N:List Str
 fb:Shared
 aE:Hp
 env:Env
 outer:List Env
 stack:List Env
 ex:List Addr
 fn:Str->Bool
 calm:Bool
 pn:List (Addr×Obj)
 xe:Value->Shared->Prop
noncomputable def bx(l:List Env):List Addr:=l.filterMap (·.frame)
abbrev Cx.fs(X:Cx):List Addr:=bx X.outer
def GZ(c:Scope)(x:Str):Prop:=c.names.lookup x=some .local\/c.names.lookup x=some .cell\/c.names.lookup x=some .free
def Loc(c:Scope)(x:Str):Prop:=c.names.lookup x=some .local\/c.names.lookup x=some .cell
def Look(env:Env)(h:Heap)(m:Str->Option Value)(x:Str)(u:Value):Prop:=
 (env.kindOf x=some .local/\m x=some u)\/((env.kindOf x=some .cell\/env.kindOf x=some .free)/\∃c,env.cells.lookup x=some c/\h.IsCell c (some u))
structure Cx.Ok(X:Cx):Prop where
 mod:Mod X.K X.mg X.base
 kind:X.env.scope.kind=.function
 glob:X.env.globals=mainGlobals
 blt:X.env.builtins=builtinsNs
 above:X.fb.heap.objs.size<=X.env.locals
 inj:∀x y c,X.env.cells.lookup x=some c->X.env.cells.lookup y=some c->x=y
 has:∀x,(X.env.kindOf x=some .cell\/X.env.kindOf x=some .free)->∃c,X.env.cells.lookup x=some c
 B4:∀x c,X.fn x=true->X.env.cells.lookup x=some c->X.fb.heap.objs.size<=c
 hd:X.calm=true->X.A.handled=none
 frames:X.A.frames=some X.stack
 CZ:X.stack=X.outer\/(X.stack=X.env::X.outer/\X.env.frame=some X.env.locals)
 ED:∀b∈X.ex,b≠X.env.locals/\∀x c,X.env.cells.lookup x=some c->c≠b
 bs:∀b o,X.base.get? b=some o->X.fb.heap.get? b=some o/\X.aE b=none
 uh:X.base.objs.size<=X.fb.heap.objs.size
 ri:∀b o,X.base.get? b=some o->b∉X.ex
 sk:∀b∈X.ex,b∉X.fs
 ig:X.fb.heap.FunFrames X.base X.outer
 Af:∀b∈X.fs,X.aE b=none
structure Inv(X:Cx)(aa:List (Addr×Obj))(σ:List (Option V))(H:Hp)(s:Shared):Prop where
 ok:X.Ok
 os:s.os=X.fb.os
 bare:AllBare s.gens
 base:Un X.fs X.ex X.aE H X.fb.heap s.heap
 loc:∃m,s.heap.Ns X.env.locals m/\∀(i:Nat)(x:Str)(v:V),X.N[i]?=some x->σ[i]?=some (some v)->GZ X.env.scope x->∃u,RelV v u/\Look X.env s.heap m x u
 cell:∀x c,X.env.cells.lookup x=some c->∃v,s.heap.IsCell c v
 free:H X.env.locals=none
 ej:∀x c,X.env.cells.lookup x=some c->H c=none
 pin:∀p∈X.pn++aa,s.heap.get? p.1=some p.2/\H p.1=none/\p.1≠X.env.locals/\p.1∉X.fs/\∀v,p.2.data≠ .cell v
 bz:gh X.prog X.w H s.heap
 len:σ.length=X.N.length
section
variable {X:Cx}{aa:List (Addr×Obj)}{σ:List (Option V)}{H f:Hp}{s:Shared}{h':Heap}
variable{g':Array GenState}{t' i:Nat}{d':Drawn}{ch:List Addr}{x:Str}{M:Model}{A:Around}{E:Value->Shared->Prop}{v:V}{u:Value}{Q:Unit->Shared->Prop}
theorem Cx.Ok.El(ok:X.Ok){b:Addr}{o:Obj}(e:X.base.get? b=some o):b∉X.fs:=λc=>by
 have:=(ok.ig.mem c).1;rw[e]at this;cases this
theorem Inv.bs(I:Inv X aa σ H s):∀b o,X.base.get? b=some o->s.heap.get? b=some o/\H b=none:=λb o e=>
 ⟨I.base.keep b o (I.ok.bs b o e).1 (I.ok.bs b o e).2 (I.ok.El e) (I.ok.ri b o e),I.base.free b o (I.ok.bs b o e).1 (I.ok.bs b o e).2 (I.ok.ri b o e)⟩
theorem Inv.bk(I:Inv X aa σ H s):∀b o,X.base.get? b=some o->s.heap.get? b=some o:=λb o e=>(I.bs b o e).1
theorem Inv.mod(I:Inv X aa σ H s):Mod X.K X.mg X.base:=I.ok.mod
theorem Inv.jk(I:Inv X aa σ H s):X.K.In s.heap:=I.ok.mod.BS.keeps I.bk
theorem Inv.lt(I:Inv X aa σ H s):X.env.locals<s.heap.objs.size:=let ⟨_,c,_⟩:=I.loc;c.lt
theorem Inv.sz(I:Inv X aa σ H s):X.fb.heap.objs.size<=s.heap.objs.size:=bV I.ok.above (aSN I.lt)
theorem Inv.Ek(I:Inv X aa σ H s){a:Addr}(h:s.heap.objs.size<=a):a∉X.fs:=λd=>by
 obtain⟨_,o,c,_⟩:=I.ok.ig.mem d
 exact absurd (bL (Heap.lt_size c) (bV I.sz h)) (cR _)
theorem Inv.ym(I:Inv X aa σ H s):∀x c,X.env.cells.lookup x=some c->c≠X.env.locals:=λx c e z=>by
 obtain⟨v,o,d,g⟩:=I.cell x c e;obtain⟨m,⟨k,l,n,j,h,_⟩,_⟩:=I.loc;rw[z,j]at d;cases d;rw[h]at g;cases g
theorem Inv.ig(I:Inv X aa σ H s):s.heap.FunFrames X.base X.outer:=by
 have all:∀(l:List Env),(∀b∈bx l,b∈X.fs)->X.fb.heap.FunFrames X.base l->s.heap.FunFrames X.base l:=by
  intro l;induction l with
  |nil=>intro _ _;trivial
  |cons env r ih=>
   intro h n;obtain⟨p,⟨L,o,c,m,k,q⟩,j⟩:=n;have g:L∈X.fs:=h L (by unfold bx;rw[aRC,c];exact bC);obtain⟨sl,e⟩:=I.base.slot L o k (I.ok.Af L g) g λz=>I.ok.sk L z g
   exact⟨p,⟨L,_,c,m,e,q⟩,ih (λb d=>h b (by unfold bx;rw[aRC,c];exact aX _ d)) j⟩
 exact all X.outer (λ_ d=>d) I.ok.ig
theorem Inv.stack(I:Inv X aa σ H s):s.heap.FunFrames X.base X.stack:=by
 rcases I.ok.CZ with e| ⟨e,d⟩
 ·rw[e];exact I.ig
 ·rw[e];obtain⟨m,c,_⟩:=I.loc
  refine .cons (by rw[I.ok.kind];decide) d c ?_ I.ig
  exact Heap.get?_none_of_le (bV I.ok.uh I.ok.above)
theorem Inv.mj(I:Inv X aa σ H s):∀b∈bx X.stack,b∈X.env.locals::X.fs:=λb c=>by
 rcases I.ok.CZ with e| ⟨e,d⟩
 ·rw[e]at c;exact aX _ c
 ·rw[e]at c;unfold bx at c;rw[aRC,d]at c
  exact c
theorem Inv.nv(I:Inv X aa σ H s):∀b∈bx X.stack,H b=none:=λb c=>by
 rcases fR (I.mj b c)with e|c
 ·rw[e];exact I.free
 ·obtain⟨_,o,d,_⟩:=I.ok.ig.mem c
  exact I.base.free b o d (I.ok.Af b c) λz=>I.ok.sk b z c
theorem Inv.step(I:Inv X aa σ H s)
 (N:∀b∈ch,(b∈X.ex\/X.fb.heap.objs.size<=b)/\b≠X.env.locals/\(∀x c,X.env.cells.lookup x=some c->c≠b)/\∀p∈X.pn++aa,p.1≠b)
 (h:∀b o,b≠X.env.locals->b∉X.fs->b∉ch->s.heap.get? b=some o->H b=none->h'.get? b=some o)
 (slot:∀b o,b≠X.env.locals->b∈X.fs->b∉ch->s.heap.get? b=some o->H b=none->∃sl,h'.get? b=some {o with slots:=sl})(free:∀b o,b∉ch->s.heap.get? b=some o->H b=none->f b=none)
 (w:∀b o,b∉ch->s.heap.get? b=some o->∃F,h'.get? b=some F)
 (C:∀b xs,H b=some (.tup xs)->f b=some (.tup xs))(K:∀b o u,H b=some (.fo o u)->f b=some (.fo o u))(D:∀b P,H b=some (.zk P)->∃more,f b=some (.zk (P++more)))
 (ns:∀m,s.heap.Ns X.env.locals m->h'.Ns X.env.locals m)(S:gh X.prog X.w f h')(hg:AllBare g'):
 Inv X aa σ f {s with heap:=h',gens:=g',drawn:=d',toks:=t'}:=by
 have G:∀b o,X.fb.heap.get? b=some o->b≠X.env.locals:=λb o e=>bS (bL (Heap.lt_size e) I.ok.above)
 have O:∀b o,X.fb.heap.get? b=some o->b∉X.ex->b∉ch:=λb o e g y=>by
  rcases(N b y).1 with z|z
  ·exact g z
  ·exact absurd (bL (Heap.lt_size e) z) (cR _)
 have j:∀x c,X.env.cells.lookup x=some c->∀v,s.heap.IsCell c v->h'.IsCell c v:=λx c e v ⟨o,B,U⟩=>by
  have J:c∉ch:=λz=>(N c z).2.2.1 x c e rfl
  by_cases hc:c∈X.fs
  ·obtain⟨sl,q⟩:=slot c o (I.ym x c e) hc J B (I.ej x c e)
   exact⟨_,q,U⟩
  ·exact⟨o,h c o (I.ym x c e) hc J B (I.ej x c e),U⟩
 refine⟨I.ok,I.os,hg,⟨λb o e n y g=>?_,λb o e n y g=>?_,λb o e n g=>?_,λb o e g=>?_,λb xs e=>C b xs (I.base.jt b xs e),λb o xs e=>K b o xs (I.base.ir b o xs e),λb P e=>?_⟩,?_,λx c e=>?_,?_,λx c e=>?_,λp hp=>?_,S,I.len⟩
 ·exact h b o (G b o e) y (O b o e g) (I.base.keep b o e n y g) (I.base.free b o e n g)
 ·obtain⟨sl,t⟩:=I.base.slot b o e n y g;obtain⟨R,L⟩:=slot b _ (G b o e) y (O b o e g) t (I.base.free b o e n g)
  exact⟨R,L⟩
 ·obtain⟨F,t⟩:=I.base.there b o e g
  exact free b F (O b o e g) t (I.base.free b o e n g)
 ·obtain⟨F,t⟩:=I.base.there b o e g
  exact w b F (O b o e g) t
 ·obtain⟨m1,t⟩:=I.base.ju b P e;obtain⟨m2,L⟩:=D b _ t
  exact⟨m1++m2,by rw[L,Array.append_assoc]⟩
 ·obtain⟨m,hn,hl⟩:=I.loc
  refine⟨m,ns m hn,λi x v t L e3=>?_⟩
  obtain⟨u,r,l⟩:=hl i x v t L e3
  refine⟨u,r,?_⟩
  rcases l with l| ⟨k,c,e,z⟩
  ·exact .inl l
  ·exact .inr ⟨k,c,e,j x c e _ z⟩
 ·obtain⟨v,z⟩:=I.cell x c e
  exact⟨v,j x c e v z⟩
 ·obtain⟨m,⟨o,_,_,B,_⟩,_⟩:=I.loc
  exact free _ o (λz=>(N _ z).2.1 rfl) B I.free
 ·obtain⟨v,o,B,U⟩:=I.cell x c e
  exact free c o (λz=>(N c z).2.2.1 x c e rfl) B (I.ej x c e)
 ·obtain⟨e,n,Z,Y,d⟩:=I.pin p hp;have J:p.1∉ch:=λz=>(N p.1 z).2.2.2 p hp rfl
  exact⟨h p.1 p.2 Z Y J e n,free p.1 p.2 J e n,Z,Y,d⟩
theorem Inv.un(I:Inv X aa σ H s)(u:Un X.fs [] H f s.heap h')(c:gh X.prog X.w f h'):Inv X aa σ f {s with heap:=h',toks:=t'}:=by
 obtain⟨m,⟨o,y,B,k,r⟩,_⟩:=id I.loc;obtain⟨sl,q⟩:=u.any k I.free (by simp)
 exact I.step (g':=s.gens) (d':=s.drawn) (ch:=[]) (λ_ z=>nomatch z) (λb o _ d _ e n=>u.keep b o e n d (by simp)) (λb o _ d _ e n=>u.slot b o e n d (by simp)) (λb o _ e n=>u.free b o e n (by simp)) (λb o _ e=>u.there b o e (by simp)) u.jt u.ir u.ju (λw p=>by
  obtain⟨t,g,h,j,l⟩:=p;rw[k]at j;cases j
  exact⟨_,g,h,q,l⟩) c I.bare
theorem Inv.call(I:Inv X aa σ H s)(u:Un (bx X.stack) ch H f s.heap h')(g:gh X.prog X.w f h')(B:AllBare g')
 (t:∀b∈ch,(b∈X.ex\/X.fb.heap.objs.size<=b)/\b≠X.env.locals/\(∀x c,X.env.cells.lookup x=some c->c≠b)/\∀p∈X.pn++aa,p.1≠b):
 Inv X aa σ f {s with heap:=h',gens:=g',drawn:=d',toks:=t'}:=by
 obtain⟨m,⟨o,G,J,q,r⟩,_⟩:=id I.loc;obtain⟨sl,h⟩:=u.any q I.free λz=>(t _ z).2.1 rfl
 exact I.step (ch:=ch) t (λb o h C d e n=>u.keep b o e n (λz=>(fR (I.mj b z)).elim h C) d) (λb o _ _ d e n=>u.any e n d) (λb o d e n=>u.free b o e n d) (λb o d e=>u.there b o e d) u.jt u.ir u.ju (λF y=>by
  obtain⟨D,j,k,l,w⟩:=y;rw[q]at l;cases l
  exact⟨_,j,k,h,w⟩) g B
theorem Inv.turned{d:Addr}(I:Inv X aa σ H s)(k:∀b o,b≠d->s.heap.get? b=some o->h'.get? b=some o)(t:H d=none)(j:d≠X.env.locals)
 (D:d∈X.ex\/X.fb.heap.objs.size<=d)(C:∀x c,X.env.cells.lookup x=some c->c≠d)(B:∀p∈X.pn++aa,p.1≠d):Inv X aa σ H {s with heap:=h',toks:=t'}:=by
 have h:∀b u,H b=some u->b≠d:=λb u e z=>by rw[z,t]at e;cases e
 refine I.step (g':=s.gens) (d':=s.drawn) (ch:=[d]) (λb y=>?_) (λb o _ _ g e _=>k b o (λz=>g (by simp[z])) e) (λb o _ _ g e _=>⟨o.slots,k b o (λz=>g (by simp[z])) e⟩) (λ_ _ _ _ n=>n)
  (λb o g e=>⟨o,k b o (λz=>g (by simp[z])) e⟩) (λ_ _ e=>e) (λ_ _ _ e=>e) (λb J e=>⟨#[],by rw[e];simp⟩) (λm w=>?_) (λb u e=>?_) I.bare
 ·have e:b=d:=by simpa using y
  subst e
  exact⟨D,j,C,B⟩
 ·obtain⟨o,F,G,l,r⟩:=w
  exact⟨o,F,G,k _ o (Ne.symm j) l,r⟩
 ·refine(I.bz b u e).ib (λc v g q=>k c v ?_ q) (λ_ q=>q) λ_ _ q=>q
  rcases g with z|z
  ·rw[z];exact h b u e
  ·exact h c _ z
theorem Inv.tok(I:Inv X aa σ H s)(t:Nat):Inv X aa σ H {s with toks:=t}:=I.un (h':=s.heap) (t':=t) Un.refl I.bz
theorem Inv.kept(I:Inv X aa σ H s)(k:∀b u,s.heap.get? b=some u->h'.get? b=some u):Inv X aa σ H {s with heap:=h',toks:=t'}:=I.un (Un.kept k) (I.bz.kept k)
theorem Inv.laid{a:Addr}{o:HO}(I:Inv X aa σ H s)(k:∀b u,s.heap.get? b=some u->h'.get? b=some u)(d:s.heap.objs.size<=a)(c:kW X.prog X.w (upd H a o) h' a o):
 Inv X aa σ (upd H a o) {s with heap:=h',toks:=t'}:=I.un (Un.laid k d (I.bz.fresh d)) (I.bz.laid k d c)
theorem Inv.write{x e:Addr}{o:HO}(I:Inv X aa σ H s)(g:CJ (H x))(h:e=x\/H e=some (.own x))(k:∀b u,b≠e->s.heap.get? b=some u->h'.get? b=some u)(d:∃u,h'.get? e=some u)
 (c:kW X.prog X.w (upd H x o) h' x o):Inv X aa σ (upd H x o) {s with heap:=h',toks:=t'}:=I.un (Un.write g h k d) (I.bz.write g h k d c)
theorem Inv.n1{c:List (Addr×Obj)}(I:Inv X aa σ H s)(h:∀p∈c,s.heap.get? p.1=some p.2/\H p.1=none/\p.1≠X.env.locals/\p.1∉X.fs/\∀v,p.2.data≠ .cell v):Inv X c σ H s:=
 ⟨I.ok,I.os,I.bare,I.base,I.loc,I.cell,I.free,I.ej,λp d=>(fY d).elim (λz=>I.pin p (eO _ z)) (h p),I.bz,I.len⟩
theorem KP{N:List Str}(c:N.Nodup){j:Nat}(a:N[i]?=some x)(b:N[j]?=some x):i=j:=by
 obtain⟨k,g⟩:=fA a;obtain⟨h,d⟩:=fA b
 exact(aSd c).mp (g.trans d.symm)
theorem Ml(I:Inv X aa σ H s)(hN:X.N.Nodup)(K:X.N[i]?=some x)(B:Loc X.env.scope x)(r:RelV v u)
 (h:∀Y,Inv X aa (σ.set i (some v)) H Y->(∃a,Heap.SameBut a s.heap Y.heap/\(a=X.env.locals\/X.env.cells.lookup x=some a))->Q () Y)(hf:X.fn x=true\/X.env.scope.names.lookup x=some .local:=by first|exact .inl rfl|exact .inr rfl|assumption):wpAny M A (storeName X.env x u) Q E s:=by
 obtain⟨m,hn,hl⟩:=id I.loc;have zq:(X.env.scope.kind== .class||(X.env.scope.kind== .module&&X.env.locals !=X.env.globals))=false:=by rw[I.ok.kind];rfl
 have uj:i<σ.length:=by rw[I.len];exact(fA K).1
 have ym:=I.ym;have l:∀{a:Addr}{h':Heap},(∃o,s.heap.get? a=some o/\H a=none)->Heap.SameBut a s.heap h'->gh X.prog X.w H h':=λ{a h'} ha g b ob e=>by
  obtain⟨_,_,dm⟩:=ha
  refine(I.bz b ob e).ib (λc N w q=>(g.2 c ?_).trans q) (λ_ q=>q) λ_ _ q=>q
  rintro rfl;rcases w with rfl|w
  ·rw[dm]at e;cases e
  ·rw[dm]at w;cases w
 rcases B with D|D
 ·refine wpAny_storeName_local D hn (λh' me g=>?_) zq
  obtain⟨oL,_,_,hoL,_⟩:=id hn
  refine h _ ⟨I.ok,I.os,I.bare,⟨λb o e n G B=>?_,λb o e n G B=>?_,I.base.free,λb o e B=>?_,I.base.jt,I.base.ir,I.base.ju⟩,⟨_,me,λj y S t C e3=>?_⟩,λy c e=>?_,I.free,I.ej,λp hp=>?_,l ⟨oL,hoL,I.free⟩ g,by simpa using I.len⟩ ⟨_,g,.inl rfl⟩
  ·exact(g.2 b (bS (bL (Heap.lt_size e) I.ok.above))).trans (I.base.keep b o e n G B)
  ·obtain⟨sl,t⟩:=I.base.slot b o e n G B
   exact⟨sl,(g.2 b (bS (bL (Heap.lt_size e) I.ok.above))).trans t⟩
  ·obtain⟨o',t⟩:=I.base.there b o e B
   exact⟨o',(g.2 b (bS (bL (Heap.lt_size e) I.ok.above))).trans t⟩
  ·by_cases F:j=i
   ·subst F;rw[K]at t;cases t;rw[bK uj]at C;cases C
    exact⟨u,r,.inl ⟨D,by simp⟩⟩
   ·rw[aT (Ne.symm F)]at C;obtain⟨U,Z,q⟩:=hl j y S t C e3
    refine⟨U,Z,?_⟩
    rcases q with⟨k,e⟩| ⟨k,c,e,z⟩
    ·refine .inl ⟨k,?_⟩
     have:y≠x:=λe=>F (KP hN t (e ▸ K))
     simp[this,e]
    ·exact .inr ⟨k,c,e,z.sameBut g (ym y c e)⟩
  ·obtain⟨N,z⟩:=I.cell y c e
   exact⟨N,z.sameBut g (ym y c e)⟩
  ·obtain⟨e,n,O,nf,d⟩:=I.pin p hp
   exact⟨(g.2 p.1 O).trans e,n,O,nf,d⟩
 ·have R:X.fn x=true:=by
   rcases hf with z|z
   ·exact z
   ·rw[z]at D;cases D
  obtain⟨c,w⟩:=I.ok.has x (.inl D);obtain⟨N,z⟩:=I.cell x c w
  refine wpAny_storeName_cell I.ok.kind D w z (λh' qq g=>?_)
  obtain⟨oc,J,za⟩:=id z
  refine h {s with heap:=h'} ⟨I.ok,I.os,I.bare,⟨λb o e n G B=>?_,λb o e n G B=>?_,I.base.free,λb o e B=>?_,I.base.jt,I.base.ir,I.base.ju⟩,⟨m,hn.sameBut g (Ne.symm (ym x c w)),λj y S t C e3=>?_⟩,λy P e=>?_,I.free,I.ej,λp hp=>?_,l ⟨oc,J,I.ej x c w⟩ g,by simpa using I.len⟩ ⟨c,g,.inr w⟩
  ·exact(g.2 b (bS (bL (Heap.lt_size e) (I.ok.B4 x c R w)))).trans (I.base.keep b o e n G B)
  ·obtain⟨sl,t⟩:=I.base.slot b o e n G B
   exact⟨sl,(g.2 b (bS (bL (Heap.lt_size e) (I.ok.B4 x c R w)))).trans t⟩
  ·obtain⟨o',t⟩:=I.base.there b o e B
   exact⟨o',(g.2 b (bS (bL (Heap.lt_size e) (I.ok.B4 x c R w)))).trans t⟩
  ·by_cases F:j=i
   ·subst F;rw[K]at t;cases t;rw[bK uj]at C;cases C
    exact⟨u,r,.inr ⟨.inl D,c,w,qq⟩⟩
   ·rw[aT (Ne.symm F)]at C;obtain⟨U,Z,q⟩:=hl j y S t C e3
    refine⟨U,Z,?_⟩
    rcases q with q| ⟨k,P,e,z'⟩
    ·exact .inl q
    ·refine .inr ⟨k,P,e,z'.sameBut g ?_⟩
     rintro rfl
     exact F (KP hN t (I.ok.inj _ _ _ e w ▸ K))
  ·by_cases L:P=c
   ·subst L;exact⟨_,qq⟩
   ·obtain⟨w2,z2⟩:=I.cell y P e
    exact⟨w2,z2.sameBut g L⟩
  ·obtain⟨e,n,O,nf,d⟩:=I.pin p hp
   refine⟨(g.2 p.1 ?_).trans e,n,O,nf,d⟩
   intro q;rw[q,J]at e;have q':oc=p.2:=cE.inj e
   exact d N (by rw[<-q'];exact za)
theorem KN(I:Inv X aa σ H s)(k:X.N.Nodup)(g:X.N[i]?=some x)(d:Loc X.env.scope x)(r:RelV v u)
 (h:∀c,Inv X aa (σ.set i (some v)) H c->Q () c)(j:X.fn x=true\/X.env.scope.names.lookup x=some .local:=by first|exact .inl rfl|exact .inr rfl|assumption):wpAny M A (storeName X.env x u) Q E s:=
 Ml I k g d r (λc l _=>h c l) j
theorem Inv.B3{s':Shared}(I:Inv X aa σ H s)(h:s'.os=s.os)(u:Un (bx X.stack) ch H f s.heap s'.heap)(d:gh X.prog X.w f s'.heap)(j:AllBare s'.gens)
 (k:∀b∈ch,(b∈X.ex\/X.fb.heap.objs.size<=b)/\b≠X.env.locals/\(∀x c,X.env.cells.lookup x=some c->c≠b)/\∀p∈X.pn++aa,p.1≠b):Inv X aa σ f s':=by
 obtain⟨h',g',d',t',g⟩:=s';have e:g=s.os:=h;subst e
 exact I.call (g':=g') (t':=t') (d':=d') u d j k
end
abbrev XK:=Value->Option Addr->Hp->Prop
noncomputable abbrev St:=List (Option V)
abbrev VK:=V->Hp->Prop
abbrev TE:=St->Hp->VK->Prop
abbrev TT:=St->Hp->(Bool->Hp->Prop)->Prop
abbrev TA:=St->Hp->(List V->Hp->Prop)->Prop
structure Ends where
 nx:St->Hp->Prop
 rt:VK
 bk:St->Hp->Prop:=λ_ _=>False
 ct:St->Hp->Prop:=λ_ _=>False
abbrev TS:=Ends->St->Hp->Prop
def EP(X:Cx)(g:List (Addr×Obj))(d:St)(Q:VK)(u:Value)(f:Shared):Prop:=∃v c,Inv X g d c f/\RelV v u/\Q v c
def TP(X:Cx)(g:List (Addr×Obj))(d:St)(Q:Bool->Hp->Prop)(b:Bool)(f:Shared):Prop:=∃c,Inv X g d c f/\Q b c
def AP(X:Cx)(h:List (Addr×Obj))(d:St)(Q:List V->Hp->Prop)(f:List Value)(g:Shared):Prop:=∃vs c,Inv X h d c g/\aq vs f/\Q vs c
def SP(X:Cx)(h:List (Addr×Obj))(D:Ends)(f:Flow)(g:Shared):Prop:=
 match f with
 | .next=>∃d c,Inv X h d c g/\D.nx d c
 | .brk=>∃d c,Inv X h d c g/\D.bk d c
 | .cont=>∃d c,Inv X h d c g/\D.ct d c
 | .ret u=>∃v d c,Inv X h d c g/\RelV v u/\D.rt v c
def PE(X:Cx)(e:Expr)(t:TE):Prop:=
 ∀(d:List (Addr×Obj))(s:Shared)(c:St)(H:Hp)(Q:VK),Inv X d c H s->t c H Q->wpAny (model X.prog X.w) X.A (eval e X.env) (EP X d c Q) X.xe s
def PT(X:Cx)(e:Expr)(t:TT):Prop:=
 ∀(d:List (Addr×Obj))(s:Shared)(c:St)(H:Hp)(Q:Bool->Hp->Prop),Inv X d c H s->t c H Q->wpAny (model X.prog X.w) X.A (isTrue e X.env (eval e X.env)) (TP X d c Q) X.xe s
def PW(X:Cx)(e:Expr)(t:TT):Prop:=
 ∀(c:Sem Value)(f:List (Addr×Obj))(s:Shared)(d:St)(H:Hp)(Q:Bool->Hp->Prop),Inv X f d H s->t d H Q->wpAny (model X.prog X.w) X.A (isTrue e X.env c) (TP X f d Q) X.xe s
theorem PW.pt{X:Cx}{e:Expr}{t:TT}(h:PW X e t):PT X e t:=h _
def PA(X:Cx)(f:List Expr)(t:TA):Prop:=
 ∀(pos:Pos)(d:List (Addr×Obj))(s:Shared)(c:St)(H:Hp)(Q:List V->Hp->Prop),Inv X d c H s->t c H Q->wpAny (model X.prog X.w) X.A (spliced (backTo pos (starEach f X.env))) (AP X d c Q) X.xe s
def PS(X:Cx)(st:Stmt)(t:TS):Prop:=
 ∀(d:List (Addr×Obj))(s:Shared)(c:St)(H:Hp)(D:Ends),Inv X d c H s->t D c H->wpAny (model X.prog X.w) X.A (exec st X.env) (SP X d D) X.xe s
def jz(X:Cx)(st:List Stmt)(t:TS):Prop:=
 ∀(d:List (Addr×Obj))(s:Shared)(c:St)(H:Hp)(D:Ends),Inv X d c H s->t D c H->wpAny (model X.prog X.w) X.A (execs st X.env) (SP X d D) X.xe s
theorem aG{c:Type}{t:Sem c}{Q d:c->Shared->Prop}{M:Model}{A:Around}{E:Value->Shared->Prop}{s:Shared}(h:wpAny M A t Q E s)(f:∀a s,Q a s->d a s):wpAny M A t d E s:=wpAny_mono h f λ_ _ x=>x
section
variable {X:Cx}
variable{x:Str}{pos:Pos}{E Q:Value->Shared->Prop}{g:List (Addr×Obj)}{s:Shared}{f:St}{u:Value}{v:V}
noncomputable def Bn(i:Nat):TE:=λf H Q=>∃v,f[i]?=some (some v)/\Q v H
noncomputable def tC(v:V):TE:=λ_ H Q=>Q v H
theorem Ql{i:Nat}(z:X.N[i]?=some x)(q:GZ X.env.scope x)(j:(x==("__debug__":Str))=false:=by decide)(p:(x==("__classdict__":Str))=false:=by decide):PE X (.Name x pos) (Bn i):=by
 intro g s f H Q I h;obtain⟨v,e,h⟩:=h;obtain⟨m,t,y⟩:=I.loc;obtain⟨u,r,l⟩:=y i x v z e q;have fin:EP X g f Q u s:=⟨v,H,I,r,h⟩;rcases l with⟨d,w⟩| ⟨d,c,n,k⟩
 ·exact wpAny_Name (wpAny_loadName_local I.ok.kind d t w fin) j
 ·rcases d with d|d
  ·exact wpAny_Name (wpAny_loadName_cell I.ok.kind d n k fin) j
  ·exact wpAny_Name (wpAny_loadName_free I.ok.kind d n k fin p) j
theorem FT{i j pos}:PE X (.Constant (.int i) j pos) (tC (.int i)):=λ_ _ _ H _ I h=>wpAny_Constant_int ⟨.int i,H,I.tok _,⟨_,rfl⟩,h⟩
theorem N6{b j pos}:PE X (.Constant (.bool b) j pos) (tC (.bl b)):=λ_ _ _ H _ I h=>Constant_bool ⟨.bl b,H,I,rfl,h⟩
theorem OA{j pos}:PE X (.Constant .none j pos) (tC .aH):=λ_ _ _ H _ I h=>Constant_none ⟨.aH,H,I,rfl,h⟩
def Gl(X:Cx)(x:Str):Prop:=X.env.kindOf x=some .globalImplicit
theorem Gv{H:Hp}(I:Inv X g f H s)(d:Gl X x)(c:X.mg x=some u)(h:Q u s)
 (i:(x==("__debug__":Str))=false:=by decide):wpAny (model X.prog X.w) X.A (eval (.Name x pos) X.env) Q E s:=
 Calls.Name_function_global I.ok.kind d (Calls.loadGlobal_global (by rw[I.ok.glob];exact I.mod.glob.keeps I.bk) c h) i
theorem rN{H:Hp}(I:Inv X g f H s)(j:Gl X x)(i:X.mg x=none)(c:bootBuiltins x=some u)(h:Q u s)
 (d:x≠"__name__":=by decide)(k:(x==("__debug__":Str))=false:=by decide):wpAny (model X.prog X.w) X.A (eval (.Name x pos) X.env) Q E s:=by
 obtain⟨n,m,l⟩:=I.mod.blt
 exact Calls.Name_function_global I.ok.kind j (Calls.loadGlobal_builtin (by rw[I.ok.glob];exact I.mod.glob.keeps I.bk) i (by rw[I.ok.blt];exact m.keeps I.bk) ((l x d).trans c) h) k
theorem RD(d:Gl X x)(c:X.mg x=some u)(r:RelV v u)(i:(x==("__debug__":Str))=false:=by decide):PE X (.Name x pos) (tC v):=
 λ_ _ _ H _ I h=>Gv I d c ⟨v,H,I,r,h⟩ i
theorem Rh(j:Gl X x)(i:X.mg x=none)(c:bootBuiltins x=some u)(r:RelV v u)(d:x≠"__name__":=by decide)(k:(x==("__debug__":Str))=false:=by decide):PE X (.Name x pos) (tC v):=
 λ_ _ _ H _ I h=>rN I j i c ⟨v,H,I,r,h⟩ d k
variable {a b:Expr}{i j:TE}{pos:Pos}
def PC(X:Cx)(c:CmpOp)(a b:Expr)(t:TE):Prop:=
 ∀(g:List (Addr×Obj))(s:Shared)(f:St)(H:Hp)(Q:VK),Inv X g f H s->t f H Q->
  wpAny (model X.prog X.w) X.A (eval a X.env) (λv h=>wpAny (model X.prog X.w) X.A (eval b X.env) (λu d=>wpAny (model X.prog X.w) X.A (compareOp c v u) (EP X g f Q) X.xe d) X.xe h) X.xe s
noncomputable def tB(t:TE):TT:=λf H Q=>t f H λx d=>∃c,x=.bl c/\Q c d
theorem Jv{k:CmpOp}{t:TE}(h:PC X k a b t)(l:behindInMarks k b=false:=by first|exact z _ (by decide) (by decide)|rfl):PT X (.Compare a [k] [b] pos) (tB t):=by
 intro g s f H Q I p
 refine wpAny_isTrue_Compare1 (aG (h g s f H _ I p) λv B l=>aG l λu A r=>aG r λc e ⟨x,y,w,m,n⟩=>?_) l
 obtain⟨d,rfl,q⟩:=n;cases m
 exact wpAny_truthy_bool ⟨y,w,q⟩
variable {d l:TT}{rest:List Expr}
noncomputable def By(t u:TT):TT:=λf H Q=>t f H λc h=>if c=true then u f h Q else Q false h
noncomputable def Hh(t u:TT):TT:=λf H Q=>t f H λc h=>if c=true then Q true h else u f h Q
noncomputable def Bs(t:TT):TT:=λf H Q=>t f H λc h=>Q (!c) h
theorem Qm(k:PT X a d):PW X (.BoolOp .And [a] pos) d:=by
 intro wh g s f H Q I h
 refine isTrue_and (aG (k g s f H Q I h) λc m e=>?_)
 cases c with
 |true=>exact isTrue_and_nil e
 |false=>exact e
theorem NK(k:PT X a d):PW X (.BoolOp .Or [a] pos) d:=by
 intro wh g s f H Q I h
 refine isTrue_or (aG (k g s f H Q I h) λc m e=>?_)
 cases c with
 |false=>exact isTrue_or_nil e
 |true=>exact e
theorem OX(r:PT X a d)(q:PW X (.BoolOp .And (b::rest) pos) l):PW X (.BoolOp .And (a::b::rest) pos) (By d l):=by
 intro wh g s f H Q I h
 refine isTrue_and (aG (r g s f H _ I h) λc p ⟨n,m,k⟩=>?_)
 cases c with
 |true=>exact q wh g p f n Q m k
 |false=>exact⟨n,m,k⟩
theorem N4(r:PT X a d)(q:PW X (.BoolOp .Or (b::rest) pos) l):PW X (.BoolOp .Or (a::b::rest) pos) (Hh d l):=by
 intro wh g s f H Q I h
 refine isTrue_or (aG (r g s f H _ I h) λc p ⟨n,m,k⟩=>?_)
 cases c with
 |true=>exact⟨n,m,k⟩
 |false=>exact q wh g p f n Q m k
theorem Pi(k:PT X a d):PT X (.UnaryOp .Not a pos) (Bs d):=by
 intro g s f H Q I h
 exact isTrue_not (k g s f H (λc m=>Q (!c) m) I h)
noncomputable def xc(i j:TE):TE:=λf H Q=>i f H λx h=>∃c,x=.bl c/\if c=true then j f h Q else Q (.bl false) h
noncomputable def Br(i j:TE):TE:=λf H Q=>i f H λx h=>∃c,x=.bl c/\if c=true then Q (.bl true) h else j f h Q
noncomputable def we(i:TE):TE:=λf H Q=>i f H λx h=>∃c,x=.bl c/\Q (.bl (!c)) h
theorem P0{c}{t:TE}(h:PE X a t):PE X (.BoolOp c [a] pos) t:=λg s f H Q I k=>BoolOp_one (h g s f H Q I k)
theorem PV(w:PE X a i)(t:PE X (.BoolOp .And (b::rest) pos) j):PE X (.BoolOp .And (a::b::rest) pos) (xc i j):=by
 intro g s f H Q I h
 refine BoolOp_and (aG (w g s f H _ I h) λv q p=>?_)
 obtain⟨x,n,m,r,k⟩:=p;obtain⟨c,rfl,k⟩:=k;cases r
 refine wpAny_truthy_bool ?_
 cases c with
 |true=>exact t g q f n Q m k
 |false=>exact⟨.bl false,n,m,rfl,k⟩
theorem NH(w:PE X a i)(t:PE X (.BoolOp .Or (b::rest) pos) j):PE X (.BoolOp .Or (a::b::rest) pos) (Br i j):=by
 intro g s f H Q I h
 refine BoolOp_or (aG (w g s f H _ I h) λv q p=>?_)
 obtain⟨x,n,m,r,k⟩:=p;obtain⟨c,rfl,k⟩:=k;cases r
 refine wpAny_truthy_bool ?_
 cases c with
 |false=>exact t g q f n Q m k
 |true=>exact⟨.bl true,n,m,rfl,k⟩
theorem Qe(p:PE X a i):PE X (.UnaryOp .Not a pos) (we i):=by
 intro g s f H Q I h
 refine UnaryOp_ (aG (p g s f H _ I h) λv t m=>?_)
 obtain⟨x,r,q,n,k⟩:=m;obtain⟨c,rfl,k⟩:=k;cases n
 exact not_of (wpAny_truthy_bool ⟨.bl (!c),r,q,rfl,k⟩)
end
variable{x:V}{u:Value}
def di(K:aL)(H:Hp)(a:Addr)(xs:List V):Prop:=
 Rd H a (.lst xs)\/
  ∃(o:Obj)(c:Array Value)(n:Nat),K.lookup a=some o/\o.cls=.type "list"/\o.dict=none/\o.data=.seq c n/\c.size<=sizeLine/\aq xs c.toList
def je(K:aL)(H:Hp)(a:Addr)(xs:List V):Prop:=
 Rd H a (.tup xs)\/
  ∃(o:Obj)(c:Array Value)(n:Nat),K.lookup a=some o/\o.cls=.type "tuple"/\o.data=.seq c n/\c.size<=sizeLine/\aq xs c.toList
noncomputable def EG:Value->Option V
 | .none=>some .aH
 | .bool b=>some (.bl b)
 | .int i _=>some (.int i)
 | .str x _=>some (.str x)
 | .bytes b _=>some (.qg b)
 | .float b _=>some (.C9 b)
 | .ref a=>some (.ref a)
 | .type n=>some (.ty n)
 |_=>none
theorem RelV.abs(r:RelV x u):EG u=some x:=by
 cases x with
 |aH=>cases r;rfl
 |bl _=>cases r;rfl
 |int _=>obtain⟨t,rfl⟩:=r;rfl
 |str _=>obtain⟨t,rfl⟩:=r;rfl
 |qg _=>obtain⟨t,rfl⟩:=r;rfl
 |C9 _=>obtain⟨t,rfl⟩:=r;rfl
 |ref _=>cases r;rfl
 |ty _=>cases r;rfl
theorem RelV.inj{y:V}(r:RelV x u)(q:RelV y u):x=y:=cE.inj (r.abs.symm.trans q.abs)
theorem aq.inj:∀{xs c:List V}{d:List Value},aq xs d->aq c d->xs=c
 |_,_,_,.nil,.nil=>rfl
 |_,_,_,.cons r t,.cons g f=>by rw[r.inj g,aq.inj t f]
section
variable {X:Cx}{c:List (Addr×Obj)}{f:St}{H:Hp}{s:Shared}{a:Addr}{xs g:List V}
variable{K:aL}
theorem di.of(h:H a=some (.lst xs)):di K H a xs:=.inl (.inl h)
theorem je.of(h:H a=some (.tup xs)):je K H a xs:=.inl (.inl h)
theorem Inv.list(I:Inv X c f H s)(h:di X.K H a xs):∃d:List Value,aq xs d/\PlainL s.heap a d.toArray/\xs.length<=sizeLine:=by
 rcases h with h| ⟨o,d,n,j,l,k,i,m,r⟩
 ·obtain⟨z,d,n,r,e⟩:=h.ok I.bz
  exact⟨d,r,⟨_,n,e,rfl,rfl,rfl⟩,z⟩
 ·refine⟨d.toList,r,⟨o,n,I.jk a o j,l,k,by simpa using i⟩,?_⟩
  have e:=r.length;simp only[bX]at e
  lia
theorem Inv.tuple(I:Inv X c f H s)(h:je X.K H a xs):∃d:List Value,aq xs d/\IsTup s.heap a d.toArray/\xs.length<=sizeLine:=by
 rcases h with h| ⟨o,d,n,j,k,i,l,r⟩
 ·obtain⟨z,d,r,p⟩:=h.ok I.bz
  exact⟨d,r,p,z⟩
 ·refine⟨d.toList,r,⟨o,I.jk a o j,k,n,by simpa using i⟩,?_⟩
  have e:=r.length;simp only[bX]at e
  lia
theorem Inv.fm(I:Inv X c f H s)(h:di X.K H a xs)(p:di X.K H a g):xs=g:=by
 obtain⟨j,r,⟨o,n,e,_,_,d⟩,_⟩:=I.list h;obtain⟨i,m,⟨t,v,k,_,_,l⟩,_⟩:=I.list p;rw[e]at k;cases k;rw[d]at l;injection l with q _
 have:j=i:=by simpa using congrArg Array.toList q
 subst this
 exact r.inj m
end
noncomputable abbrev Cx.gk(X:Cx)(E:Value->Shared->Prop):Cx:={X with xe:=E}
abbrev Cx.xS(X:Cx):Cx:=X.gk λ_ _=>False
theorem Cx.Ok.gk{X:Cx}(ok:X.Ok)(E:Value->Shared->Prop):(X.gk E).Ok:=
 ⟨ok.mod,ok.kind,ok.glob,ok.blt,ok.above,ok.inj,ok.has,ok.B4,ok.hd,ok.frames,ok.CZ,ok.ED,ok.bs,ok.uh,ok.ri,ok.sk,ok.ig,ok.Af⟩
theorem Cx.Ok.fg{X:Cx}{E:Value->Shared->Prop}(ok:(X.gk E).Ok):X.Ok:=
 ⟨ok.mod,ok.kind,ok.glob,ok.blt,ok.above,ok.inj,ok.has,ok.B4,ok.hd,ok.frames,ok.CZ,ok.ED,ok.bs,ok.uh,ok.ri,ok.sk,ok.ig,ok.Af⟩
section
variable {X:Cx}{c:List (Addr×Obj)}{d:St}{H:Hp}{s:Shared}{E:Value->Shared->Prop}
theorem Inv.gk(I:Inv X c d H s)(E:Value->Shared->Prop):Inv (X.gk E) c d H s:=⟨I.ok.gk E,I.os,I.bare,I.base,I.loc,I.cell,I.free,I.ej,I.pin,I.bz,I.len⟩
theorem Inv.fg(I:Inv (X.gk E) c d H s):Inv X c d H s:=⟨I.ok.fg,I.os,I.bare,I.base,I.loc,I.cell,I.free,I.ej,I.pin,I.bz,I.len⟩
theorem SP.fg{D:Ends}{f:Flow}{j:Shared}(h:SP (X.gk E) c D f j):SP X c D f j:=by
 cases f with
 |next=>obtain⟨g,i,I,q⟩:=h;exact⟨g,i,I.fg,q⟩
 |brk=>obtain⟨g,i,I,q⟩:=h;exact⟨g,i,I.fg,q⟩
 |cont=>obtain⟨g,i,I,q⟩:=h;exact⟨g,i,I.fg,q⟩
 |ret u=>obtain⟨v,g,i,I,r,q⟩:=h;exact⟨v,g,i,I.fg,r,q⟩
theorem jz.xS{st:List Stmt}{t:TS}(h:jz X.xS st t):jz X st t:=λc s d H D I f=>
 wpAny_mono (h c s d H D (I.gk _) f) (λ_ _ q=>q.fg) λ_ _ z=>False.elim z
end
section
variable {X:Cx}{st:Stmt}{rest:List Stmt}{t u:TS}{e:Expr}{g:TE}{pos:Pos}
noncomputable def E8:TS:=λD c H=>D.nx c H
noncomputable def Bp(t u:TS):TS:=λD c H=>t {D with nx:=u D} c H
theorem RH:jz X [] E8:=λ_ _ c H _ I h=>wpAny_execs_nil ⟨c,H,I,h⟩
theorem Tn(k:PS X st t)(j:jz X rest u):jz X (st::rest) (Bp t u):=by
 intro c s d H D I h
 refine wpAny_execs_cons (aG (k c s d H {D with nx:=u D} I h) λf i q=>?_)
 cases f with
 |next=>
  obtain⟨l,n,m,q⟩:=q
  exact j c i l n D m q
 |ret v=>exact q
 |brk=>exact q
 |cont=>exact q
theorem Rc(d:PS X st t):jz X [st] t:=by
 intro i s c H D I h
 refine wpAny_execs_cons (aG (d i s c H D I h) λf j q=>?_)
 cases f with
 |next=>exact wpAny_execs_nil q
 |ret v=>exact q
 |brk=>exact q
 |cont=>exact q
theorem SE:PS X (.Pass pos) E8:=λ_ _ c H _ I h=>wpAny_Pass ⟨c,H,I,h⟩
theorem Inv.quiet{d:List (Addr×Obj)}{c:St}{H:Hp}{s:Shared}(I:Inv X d c H s):interactive X.env=false:=by simp[interactive,I.ok.kind]
noncomputable def Fz(g:TE):TS:=λD c H=>g c H λ_ d=>D.nx c d
theorem GE(i:PE X e g)(f:swapsWith e none pos.line X.env=pure false:=by rfl):PS X (.Expr e pos) (Fz g):=by
 intro j s c H D I h
 exact wpAny_Expr_any (aG (i j s c H _ I h) λv m ⟨x,l,k,n,d⟩=>⟨c,l,k,d⟩) I.quiet f
def Bq(g:TE):TS:=λD c H=>g c H D.rt
theorem O3(i:PE X e g):PS X (.Return (some e) pos) (Bq g):=by
 intro j s c H D I h
 exact wpAny_Return_some (aG (i j s c H _ I h) λv m ⟨x,l,k,d,f⟩=>⟨x,c,l,k,d,f⟩)
noncomputable def Bv(c:TT)(t u:TS):TS:=λD d H=>c d H λb f=>if b=true then t D d f else u D d f
theorem NC{c:Expr}{a b:List Stmt}{j:TT}(p:PT X c j)(r:jz X a t)(q:jz X b u):PS X (.If c a b pos) (Bv j t u):=by
 intro i s f H D I h
 refine wpAny_If (aG (p i s f H _ I h) λd k ⟨n,m,l⟩=>?_)
 cases d with
 |true=>exact r i k f n D m l
 |false=>exact q i k f n D m l
end
abbrev TG:=V->St->Hp->(St->Hp->Prop)->Prop
abbrev va:=List V->St->Hp->(St->Hp->Prop)->Prop
def PG(X:Cx)(c:Expr)(t:TG):Prop:=
 ∀(g:List (Addr×Obj))(s:Shared)(d:St)(H:Hp)(v:V)(u:Value)(Q:St->Hp->Prop),Inv X g d H s->RelV v u->t v d H Q->
  wpAny (model X.prog X.w) X.A (assign c X.env u) (λ_ i=>∃f h,Inv X g f h i/\Q f h) X.xe s
def Bi(X:Cx)(i:List Expr)(t:va):Prop:=
 ∀(g:List (Addr×Obj))(s:Shared)(c:St)(H:Hp)(vs:List V)(d:List Value)(Q:St->Hp->Prop),Inv X g c H s->aq vs d->t vs c H Q->
  wpAny (model X.prog X.w) X.A (assignInOrder ((assignEach i X.env).map (·.2)) d) (λ_ j=>∃f h,Inv X g f h j/\Q f h) X.xe s
abbrev Ci:=V->V->V->Hp->(Hp->Prop)->Prop
def ES(X:Cx)(t:Ci):Prop:=
 ∀(g:List (Addr×Obj))(s:Shared)(c:St)(H:Hp)(o i v:V)(d f u:Value)(Q:Hp->Prop),Inv X g c H s->RelV o d->RelV i f->RelV v u->t o i v H Q->
  wpAny (model X.prog X.w) X.A (setItem d f u) (λ_ j=>∃h,Inv X g c h j/\Q h) X.xe s
abbrev D0:=V->V->Hp->VK->Prop
def MK(X:Cx)(f:Operator)(t:D0):Prop:=
 ∀(d:List (Addr×Obj))(s:Shared)(c:St)(H:Hp)(x y:V)(v u:Value)(Q:VK),Inv X d c H s->RelV x v->RelV y u->t x y H Q->
  wpAny (model X.prog X.w) X.A (inplaceOp f v u) (EP X d c Q) X.xe s
section
variable {X:Cx}{pos:Pos}
variable{i e:Expr}{d:List Expr}{l m c:TE}
noncomputable def t9(i:Nat):TG:=λv f H Q=>Q (f.set i (some v)) H
theorem JV{i:Nat}{x:Str}(k:X.N.Nodup)(g:X.N[i]?=some x)(f:Loc X.env.scope x)(j:X.fn x=true\/X.env.scope.names.lookup x=some .local:=by first|exact .inl rfl|exact .inr rfl|assumption):PG X (.Name x pos) (t9 i):=by
 intro t s p H v u Q I r h
 exact wpAny_assign_Name (KN I k g f r (λq n=>⟨_,H,n,h⟩) j)
noncomputable def Do:va:=λvs f H Q=>vs=[]/\Q f H
noncomputable def Dw(t:TG)(u:va):va:=λvs f H Q=>∃v r,vs=v::r/\t v f H λg h=>u r g h Q
theorem SQ:Bi X [] Do:=by
 intro j s f H vs g Q I r h;obtain⟨e,h⟩:=h;subst e;cases r
 exact assignInOrder_nil ⟨f,H,I,h⟩
theorem TB{t:TG}{u:va}(w:PG X e t)(q:Bi X d u)
 (p:(assignEach (e::d) X.env).map (·.2)=assign e X.env::(assignEach d X.env).map (·.2):=by rfl):Bi X (e::d) (Dw t u):=by
 intro f s g H vs C Q I r h;obtain⟨v,vr,y,h⟩:=h;subst y;cases r with
 |cons r rr=>
  rw[p]
  refine assignInOrder_cons (aG (w f s g H _ _ _ I r h) λ_ k j=>?_)
  obtain⟨z,B,A,n⟩:=j
  exact q f k z B _ _ Q A rr n
noncomputable def Ew(K:aL)(n:Nat)(t:va):TG:=λv f H Q=>∃a xs,v=.ref a/\je K H a xs/\xs.length=n/\t xs f H Q
theorem Qb{k:Nat}{t:va}{n:Nat}(C:X.calm=true)(h:Bi X d t)
 (A:(assignEach d X.env).length=n:=by rfl)(G:(assignEach d X.env).findIdx? (·.1)=none:=by rfl):PG X (.Tuple d k pos) (Ew X.K n t):=by
 intro p s g H v u Q I r f;obtain⟨a,xs,F,z,B,f⟩:=f;subst F;cases r;obtain⟨q,j,y,K⟩:=I.tuple z
 refine assign_Tuple_tuple (I.ok.hd C) y (by simp[A,<-B,j.length]) G λD w=>?_
 have J:Inv X p g H {s with heap:=D}:=I.kept (t':=s.toks) λb o e=>w b o (bS (Heap.lt_size e)) e
 exact h p _ g H xs _ Q J (by simpa using j) f
noncomputable def BV(l m:TE)(t:Ci):TG:=λv f H Q=>l f H λo j=>m f j λi h=>t o i v h λg=>Q f g
theorem O7{o:Expr}{t:Ci}(F:PE X o l)(G:PE X i m)(D:ES X t)
 (J:∀v,assign (.Subscript o i pos) X.env v=(do
  let f<-holding [v] (eval o X.env)
  let g<-holding [v,f] (eval i X.env)
  standAt pos
  holding [v,f,g] (setItem f g v)
  release [v,f,g] []):=by intro _;rfl):PG X (.Subscript o i pos) (BV l m t):=by
 intro n s j H v u Q I r h;rw[J]
 refine wpAny_bind (wpAny_holding (aG (F n s j H _ I h) λf q k=>?_))
 obtain⟨x,P,M,z,C⟩:=k
 refine wpAny_bind (wpAny_holding (aG (G n q j P _ M C) λg p k=>?_))
 obtain⟨y,O,L,w,B⟩:=k
 refine wpAny_bind (wpAny_standAt (wpAny_bind (wpAny_holding (aG (D n p j O x y v f g u _ L z w r B) λ_ R ⟨N,K,A⟩=>?_))))
 exact wpAny_release ⟨j,N,K,A⟩
noncomputable def Aq(c:TE)(g:TG):TS:=λD f H=>c f H λx h=>g x f h D.nx
theorem II{f:Expr}{g:TG}(z:PE X e c)(y:PG X f g)(w:swapsWithSole [f] e pos.line X.env=pure false:=by rfl)(t:swappedStores [f] e X.env=pure none:=by rfl)
 (A:(assignEach [f] X.env).map (·.2)=[assign f X.env]:=by rfl):PS X (.Assign [f] e pos) (Aq c g):=by
 intro k s j H D I h
 refine wpAny_Assign_stores (aG (z k s j H _ I h) λv n ⟨x,C,B,p,r⟩=>?_) w t
 rw[A]
 exact aG (y k n j C x v _ B p r) λ_ F q=>q
theorem NZ{i:Nat}{x:Str}{f:Pos}(w:X.N.Nodup)(q:X.N[i]?=some x)(n:Loc X.env.scope x)(t:PE X e c)(p:swapsWith e (some (.Name x f)) pos.line X.env=pure false:=by rfl)(r:X.fn x=true\/X.env.scope.names.lookup x=some .local:=by first|exact .inl rfl|exact .inr rfl|assumption):
 PS X (.Assign [.Name x f] e pos) (Aq c (t9 i)):=by
 intro z s g H D I h
 refine wpAny_Assign_Name (aG (t z s g H _ I h) λv G ⟨y,C,B,j,k⟩=>?_) p
 exact KN B w q n j (λF A=>⟨_,C,A,k⟩) r
noncomputable def w5(l m c:TE)(h:V->V->Hp->VK->Prop)(g:D0)(j:Ci):TS:=λD f H=>l f H λo s=>m f s λi r=>h o i r λx q=>c f q λy p=>g x y p λz n=>j o i z n λk=>D.nx f k
def CH(X:Cx)(t:V->V->Hp->VK->Prop):Prop:=
 ∀(j:List (Addr×Obj))(s:Shared)(f:St)(H:Hp)(o i:V)(g h:Value)(Q:VK),Inv X j f H s->RelV o g->RelV i h->t o i H Q->
  wpAny (model X.prog X.w) X.A (getItem g h) (EP X j f Q) X.xe s
theorem SD{o:Expr}{B:V->V->Hp->VK->Prop}{w:D0}{C:Ci}{A:Operator}{ar:Pos}(ho:PE X o l)(hi:PE X i m)(hg:CH X B)(he:PE X e c)(hp:MK X A w)(hs:ES X C)
 (ha:∀k n f,augStore i k n f=(do holding [f,k,n] (setItem k n f);release [f,k,n] [];pure .next):=by intros;rfl):PS X (.AugAssign (.Subscript o i ar) A e pos) (w5 l m c B w C):=by
 intro p s g H D I h
 refine wpAny_AugAssign_SubscriptAny (aG (ho p s g H _ I h) λk O ⟨t,H1,I1,z,q1⟩=>?_) ha
 refine aG (hi p O g H1 _ I1 q1) λn N j=>?_
 obtain⟨r,H2,I2,y,E⟩:=j
 refine aG (hg p N g H2 t r k n _ I2 z y E) λq M j=>?_
 obtain⟨J,H3,I3,R,Z⟩:=j
 refine aG (he p M g H3 _ I3 Z) λv L j=>?_
 obtain⟨G,H4,I4,Q,Y⟩:=j
 refine aG (hp p L g H4 J G q v _ I4 R Q Y) λf K j=>?_
 obtain⟨F,H5,I5,P,U⟩:=j
 exact aG (hs p K g H5 t r F k n f _ I5 z y P U) λ_ s6 ⟨H6,I6,S⟩=>⟨g,H6,I6,S⟩
noncomputable def Ho(f:Int->Int->Int):D0:=λx y H Q=>∃i j,x=.int i/\y=.int j/\Q (.int (f i j)) H
theorem OZ:MK X .Add (Ho λi j=>i+j):=by
 intro w s p H x y v u Q I g f h;obtain⟨i,j,n,k,q⟩:=h;subst n;subst k;obtain⟨t,rfl⟩:=g;obtain⟨r,rfl⟩:=f
 exact iadd_int ⟨.int _,H,I.tok _,⟨_,rfl⟩,q⟩
end
section
variable {X:Cx}{pos:Pos}
def ql(c:TT)(j:TS):TS:=λD d H=>∃W:Nat->St->Hp->Prop,(∃m,W m d H)/\∀m d H,W m d H->
 c d H λb h=>if b=true then∃N:St->Hp->Prop,(∀g i,N g i->∃f,f<m/\W f g i)/\j {D with nx:=N,ct:=N,bk:=D.nx} d h else D.nx d h
theorem R7{c:Expr}{body:List Stmt}{w:TT}{y:TS}(z:PassesOwn (model X.prog X.w) X.A X.env X.xe)(R:PT X c w)(S:jz X body y):PS X (.While c body [] pos) (ql w y):=by
 intro r s J H D I h;obtain⟨W,⟨Q,L⟩,d⟩:=h
 refine wpAny_While (codeAny_whileLoop (λn P=>∃A G,Inv X r A G P/\W n A G) ?_ Q ⟨J,H,I,L⟩)
 rintro n O ⟨l,F,U,K⟩
 refine wpAny_passesOwn z (aG (R r O l F _ U (d n l F K)) λb M ⟨C,B,k⟩=>?_)
 cases b with
 |true=>
  obtain⟨N,e,k⟩:=k;rw[if_pos rfl]
  refine wpAny_passesOwn z (aG (S r M l C _ B k) λf Y j=>?_)
  cases f with
  |next=>
   obtain⟨g,i,t,m⟩:=j;obtain⟨p,q,w3⟩:=e g i m
   exact⟨p,q,g,i,t,w3⟩
  |cont=>
   obtain⟨g,i,t,m⟩:=j;obtain⟨p,q,w3⟩:=e g i m
   exact⟨p,q,g,i,t,w3⟩
  |brk=>exact j
  |ret v=>exact j
 |false=>
  rw[if_neg bJ]
  exact wpAny_execs_nil ⟨l,C,B,k⟩
end
variable{s:Shared}{tg:Expr}{P:Program}{w:World}{K:aL}
structure It where
 go:Nat->Hp->Prop
 zc:Nat->Hp->V->Hp->Prop
 stop:Nat->Hp->Prop
def v9(X:Cx)(aa:List (Addr×Obj))(H:Hp)(b:Addr):Prop:=
 H b=none/\b≠X.env.locals/\b∉X.fs/\(b∈X.ex\/X.fb.heap.objs.size<=b)/\(∀x c,X.env.cells.lookup x=some c->c≠b)/\∀p∈X.pn++aa,p.1≠b
theorem Inv.rz{X:Cx}{f:List (Addr×Obj)}{h:St}{H g:Hp}{b:Addr}(I:Inv X f h H s)(d:s.heap.objs.size<=b)(j:g b=none):v9 X f g b:=by
 refine⟨j,Nat.ne_of_gt (bL I.lt d),I.Ek d,.inr (bV I.sz d),λx c e z=>?_,λp i z=>?_⟩
 ·obtain⟨v,q⟩:=I.cell x c e
  exact absurd (bL q.lt (by rw[z];exact d)) (cR _)
 ·exact absurd (bL (Heap.lt_size (I.pin p i).1) (by rw[z];exact d)) (cR _)
structure Turn(P:Program)(w:World)(K:aL)(tg:Expr)(J:It)(fp:List Addr)(it:Addr)(tn:Nat->Heap->Prop):Prop where
 mem:it∈fp
 obj:∀i h,tn i h->∀b∈fp,∃o,h.get? b=some o/\∀v,o.data≠ .cell v
 keep:∀i h h',tn i h->(∀b∈fp,∀o,h.get? b=some o->h'.get? b=some o)->tn i h'
 item:∀(X:Cx),X.prog=P->X.w=w->X.K=K->X.calm=true->∀(i:Nat)(aa:List (Addr×Obj))(s:Shared)(σ:St)(H:Hp)(E:Value->Shared->Prop),Inv X aa σ H s->(∀b∈fp,v9 X aa H b)->tn i s.heap->J.go i H->
  wpAny (model P w) X.A (pyNext (.ref it)) (λr s1=>∃u,r=some u/\
   wpAny (model P w) X.A (letOwnedTupleGo tg (.ref it) u) (λ_ s2=>∃x H',Inv X aa σ H' s2/\RelV x u/\J.zc i H x H'/\tn (i+1) s2.heap/\∀b∈fp,H' b=none) E s1) E s
 done:∀(X:Cx),X.prog=P->X.w=w->X.K=K->X.calm=true->∀(i:Nat)(aa:List (Addr×Obj))(s:Shared)(σ:St)(H:Hp)(E:Value->Shared->Prop),Inv X aa σ H s->(∀b∈fp,v9 X aa H b)->tn i s.heap->J.stop i H->
  wpAny (model P w) X.A (pyNext (.ref it)) (λr s1=>r=none/\Inv X aa σ H s1) E s
 self:∀(A:Around)(i:Nat)(s:Shared)(Q:Value->Shared->Prop)(E:Value->Shared->Prop),tn i s.heap->Q (.ref it) s->wpAny (model P w) A (pyIter (.ref it)) Q E s
abbrev TI:=St->Hp->(It->Hp->Prop)->Prop
def ML(X:Cx)(i:List (Addr×Obj))(j:St)(tg:Expr)(R:It->Hp->Prop)(k:Value)(f:Shared):Prop:=
 ∃(g:Addr)(h:List Addr)(d:Nat->Heap->Prop)(J:It)(c:Hp),k=.ref g/\Inv X i j c f/\Turn X.prog X.w X.K tg J h g d/\d 0 f.heap/\(∀b∈h,v9 X i c b)/\R J c
def PI(X:Cx)(tg iter:Expr)(f:TI):Prop:=
 ∀(d:List (Addr×Obj))(s:Shared)(c:St)(H:Hp)(R:It->Hp->Prop),Inv X d c H s->f c H R->
  wpAny (model X.prog X.w) X.A (eval iter X.env) (λv g=>wpAny (model X.prog X.w) X.A (pyIter v) (ML X d c tg R) X.xe g) X.xe s
theorem E9{M:Model}{A:Around}{E:Value->Shared->Prop}{d:Addr}{u:Value}{o:Obj}{n:String}{vs:Array Value}{Q:Unit->Shared->Prop}(f:s.heap.get? d=some o)(j:o.cls=.type n)(i:o.data=.fields vs)
 (g:["enumerate","zip","dict_itemiterator","dict_reverseitemiterator","odict_iterator","itertools.zip_longest","itertools.pairwise"].contains n=false)(c:Q () s):wpAny M A (letOwnedTupleGo tg (.ref d) u) Q E s:=by
 unfold letOwnedTupleGo;cases tg<;>first
  |exact wpAny_pure c
  | (cases u<;>first
   |exact wpAny_pure c
   | (refine wpAny_bind (wpAny_load f ?_)
      rw[j,i];show wpAny M A (if(["enumerate","zip","dict_itemiterator","dict_reverseitemiterator","odict_iterator","itertools.zip_longest","itertools.pairwise"].contains n&&vs[0]?==some (rawInt _))=true then _ else _) Q E s;rw[if_neg (by intro h;rw[g,aSu]at h;cases h)]
      exact wpAny_pure c))
noncomputable def G8(K:aL)(a:Addr):It:=
 ⟨λi H=>∃xs x,di K H a xs/\xs[i]?=some x,λi H x c=>c=H/\∀xs,di K H a xs->xs[i]?=some x,λi H=>∃xs,di K H a xs/\xs.length<=i⟩
noncomputable def CL(lo:Int)(n:Nat):It:=⟨λi _=>i<n,λi H x c=>c=H/\x=.int (lo+i),λi _=>n<=i⟩
theorem UZ(a f:Addr):Turn P w K tg (G8 K a) [f] f (λi h=>h.IsListIter f a i) where
 mem:=by simp
 obj:=λi h st b g=>by
  have e:b=f:=by simpa using g
  subst e;obtain⟨o,e,c,d⟩:=st
  exact⟨o,e,λv z=>by rw[d]at z;cases z⟩
 keep:=λi h m st k=>st.at λo e=>k f (by simp) o e
 item:=by
  intro X A t B L i N s J H E I l st y;subst A t B;obtain⟨xs,x,j,r⟩:=y;obtain⟨q,n,p,R⟩:=I.list j;obtain⟨u,U,Q⟩:=n.get r;obtain⟨G,f1,f2,F,D,C⟩:=l f (by simp)
  refine wpAny_pyNext_list_item st p.isList (x:=u) (by simpa using U) λm M O=>?_
  have Z:Inv X N J H {s with heap:=m}:=I.turned (t':=s.toks) (λb o g e=>(O.2 b g).trans e) G f1 F D C;obtain⟨o,e,c,d⟩:=id M
  exact⟨u,rfl,E9 (s:={s with heap:=m}) e c d (by decide) ⟨x,H,Z,Q,⟨rfl,λys S=>by rw[I.fm S j];exact r⟩,M,λb g=>(l b g).1⟩⟩
 done:=by
  intro X A t B L i N s J H E I l st y;subst A t B;obtain⟨xs,j,r⟩:=y;obtain⟨q,n,p,R⟩:=I.list j;obtain⟨G,f1,f2,F,D,C⟩:=l f (by simp);have hl:=n.length
  exact wpAny_pyNext_list_end (I.ok.hd L) st p.isList (by simp;lia) λm Y=>⟨rfl,I.turned (t':=s.toks) (λb o g e=>Y b o g e) G f1 F D C⟩
 self:=λ_ _ _ _ _ st h=>wpAny_pyIter_listiter st h
theorem Vp(c:Addr)(lo:Int)(n:Nat):Turn P w K tg (CL lo n) [c] c (λi h=>IsRangeIter h c (lo+(i:Nat)*1) ((n:Int) - (i:Nat)) 1) where
 mem:=by simp
 obj:=λi h st b d=>by
  have e:b=c:=by simpa using d
  subst e
  exact⟨_,st,λv z=>by
   have G:Data.fields _=Data.cell v:=z;cases G⟩
 keep:=λi h g st k=>k c (by simp) _ st
 item:=by
  intro X p j q m i F s C H E I f st l;subst p j q;obtain⟨B,f1,f2,A,y,r⟩:=f c (by simp);have W:=Walks.range (prog:=X.prog) (w:=X.w) (I.ok.hd m) c lo 1 n
  refine W.item i s _ _ l st λv g tk L D J=>?_
  obtain⟨t,rfl⟩:=L;have N:Inv X F C H {s with heap:=g,toks:=tk}:=I.turned (λb o d e=>J b o (by simpa using d) e) B f1 A y r
  refine⟨_,rfl,E9 (s:={s with heap:=g,toks:=tk}) (n:="range_iterator") D rfl rfl (by decide) ⟨.int (lo+i),H,N,⟨t,?_⟩,⟨rfl,rfl⟩,D,λb d=>(f b d).1⟩⟩
  rw[aSv]
 done:=by
  intro X p j q m i F s C H E I f st l;subst p j q;obtain⟨B,f1,f2,A,y,r⟩:=f c (by simp)
  exact wpAny_pyNext_range_end (I.ok.hd m) st (by have:n<=i:=l;lia) λg M=>⟨rfl,I.turned (t':=s.toks) (λb o d e=>M b o d e) B f1 A y r⟩
 self:=λ_ _ _ _ _ st h=>wpAny_pyIter_rangeiter st h
section
variable {X:Cx}{tg:Expr}
variable{y:List (Addr×Obj)}{c:St}{B:TA}{pos:Pos}{A:List Addr}{h:Heap}
def Fv(K:aL)(f:TE):TI:=λc H R=>f c H λx d=>∃a,x=.ref a/\(∃xs,di K d a xs)/\R (G8 K a) d
theorem Gk{l:Expr}{g:TE}(r:PE X l g):PI X tg l (Fv X.K g):=by
 intro y s c H R I h
 refine aG (r y s c H _ I h) λv d i=>?_
 obtain⟨x,z,f,j,k⟩:=i;obtain⟨a,e,⟨xs,n⟩,q⟩:=k;subst e;cases j;obtain⟨m,C,p,D⟩:=f.list n
 refine wpAny_pyIter_list p.isList ?_
 refine⟨d.heap.objs.size,[d.heap.objs.size],_,_,z,rfl,f.kept (t':=d.toks) λb o e=>Heap.get?_push_of_some _ e,UZ a _,⟨_,Heap.get?_push_size _ rfl,rfl,rfl⟩,λb t=>?_,q⟩
 have e:b=d.heap.objs.size:=by simpa using t
 subst e
 exact f.rz (bE _) (f.bz.fresh (bE _))
theorem Lv{H:Hp}{s:Shared}{R:It->Hp->Prop}{E:Value->Shared->Prop}{lo d:Int}{t u v:Tok}{tk:Nat}(I:Inv X y c H s)(l: -(2^62)<=lo)(k:lo<2^62)(j: -(2^62)<=d)(i:d<2^62)
 (q:R (CL lo (d - lo).toNat) H):wpAny (model X.prog X.w) X.A (pyIter (.ref s.heap.objs.size)) (ML X y c tg R) E {s with heap:=s.heap.push {cls:=.type "range",data:=.fields #[.int lo t,.int d u,.int 1 v]},toks:=tk}:=by
 refine wpAny_pyIter_range (IsRange.new ..) (small_one l k j i) ?_
 have f:Inv X y c H {s with heap:=s.heap.push {cls:=.type "range",data:=.fields #[.int lo t,.int d u,.int 1 v]},toks:=tk}:=I.kept λb o e=>Heap.get?_push_of_some _ e
 refine⟨(s.heap.push {cls:=.type "range",data:=.fields #[.int lo t,.int d u,.int 1 v]}).objs.size,[(s.heap.push {cls:=.type "range",data:=.fields #[.int lo t,.int d u,.int 1 v]}).objs.size],_,_,H,rfl,
  f.kept (t':=tk) λb o e=>Heap.get?_push_of_some _ e,Vp _ lo (d - lo).toNat,?_,λb g=>?_,q⟩
 ·have n:lo+((0:Nat):Int)*1=lo:=by simp
  have m:(((d - lo).toNat:Nat):Int) - ((0:Nat):Int)=Builtin.Range.rangeSize lo d 1:=by rw[rangeSize_one];split<;>lia
  show IsRangeIter _ _ (lo+((0:Nat):Int)*1) ((((d - lo).toNat:Nat):Int) - ((0:Nat):Int)) 1;rw[n,m]
  exact Heap.get?_push_size _ rfl
 ·have e:b=(s.heap.push {cls:=.type "range",data:=.fields #[.int lo t,.int d u,.int 1 v]}).objs.size:=by simpa using g
  subst e
  exact f.rz (bE _) (f.bz.fresh (bE _))
def Fq(B:TA):TI:=λc H R=>B c H λvs d=>∃j:Int,vs=[.int j]/\ -(2^62)<=j/\j<2^62/\R (CL 0 j.toNat) d
def x4(B:TA):TI:=λc H R=>B c H λvs d=>∃i j:Int,vs=[.int i,.int j]/\(-(2^62)<=i/\i<2^62/\ -(2^62)<=j/\j<2^62)/\R (CL i (j - i).toNat) d
theorem sS{a:Expr}{p:Pos}(l:Gl X "range")(k:X.mg "range"=none)(m:PA X [a] B)(i:starEach [a] X.env=[(false,eval a X.env)]:=by rfl):PI X tg (.Call (.Name "range" p) [a] [] pos) (Fq B):=by
 intro y s c H R I h
 refine Call_ (rN I l k boot_range (dB (aG (m pos y s c H _ I h) λv z ⟨vs,C,n,f,d⟩=>?_) i rfl))
 obtain⟨j,e,d,g,q⟩:=d;subst e;cases f with
 |cons r rr=>
  cases rr;obtain⟨t,rfl⟩:=r
  exact call_range_1 (Lv n (by lia) (by lia) d g (by simpa using q))
theorem U6{a b:Expr}{p:Pos}(C:Gl X "range")(z:X.mg "range"=none)(D:PA X [a,b] B)(v:starEach [a,b] X.env=[(false,eval a X.env),(false,eval b X.env)]:=by rfl)(f:starEach [b] X.env=[(false,eval b X.env)]:=by rfl):
 PI X tg (.Call (.Name "range" p) [a,b] [] pos) (x4 B):=by
 intro y s c H R I h
 refine Call_ (rN I C z boot_range (dB (aG (D pos y s c H _ I h) λG L ⟨vs,M,F,g,d⟩=>?_) (by rw[v,f]) (by rw[f];rfl)))
 obtain⟨i,j,e,⟨d,n,m,l⟩,q⟩:=d;subst e;cases g with
 |cons r rr=>
  cases rr with
  |cons k rr=>
   cases rr;obtain⟨t,rfl⟩:=r;obtain⟨J,rfl⟩:=k
   exact call_range_2 (Lv F d n m l q)
def Ce(k:TI)(g:TG)(l:TS):TS:=λD c H=>k c H λJ q=>∃W:Nat->Nat->St->Hp->Prop,(∃m,W 0 m c q)/\∀i m c H,W i m c H->
 (J.stop i H/\D.nx c H)\/(J.go i H/\∃N:St->Hp->Prop,(∀j d,N j d->∃f,f<m/\W (i+1) f j d)/\∀x d,J.zc i H x d->g x c d λn p=>l {D with nx:=N,ct:=N,bk:=D.nx} n p)
noncomputable def CB(A:List Addr)(h:Heap):List (Addr×Obj):=A.filterMap λb=>(h.get? b).map λo=>(b,o)
theorem qU{b:Addr}{o:Obj}(d:b∈A)(e:h.get? b=some o):(b,o)∈CB A h:=aSH.mpr ⟨b,d,by rw[e];rfl⟩
theorem Ve{p:Addr×Obj}(d:p∈CB A h):p.1∈A/\h.get? p.1=some p.2:=by
 obtain⟨b,f,e⟩:=aSH.mp d;cases q:h.get? b with
 |none=>rw[q]at e;cases e
 |some o=>
  rw[q]at e;have g:(b,o)=p:=cE.inj e;subst g
  exact⟨f,q⟩
theorem Inv.pinned{H:Hp}{s:Shared}(I:Inv X y c H s)(k:∀b∈A,v9 X y H b)(j:∀b∈A,∃o,s.heap.get? b=some o/\∀v,o.data≠ .cell v):Inv X (y++CB A s.heap) c H s:=
 I.n1 λp i=>(fY i).elim (λz=>I.pin p (cC _ z)) λz=>by
  obtain⟨f,e⟩:=Ve z;obtain⟨l,f1,f2,_⟩:=k p.1 f;obtain⟨o,g,d⟩:=j p.1 f;rw[e]at g;cases g
  exact⟨e,l,f1,f2,d⟩
theorem Inv.gm{pl:List (Addr×Obj)}{H:Hp}{s:Shared}(I:Inv X (y++pl) c H s):Inv X y c H s:=I.n1 λp d=>I.pin p (cC _ (eO _ d))
theorem DJ{iter:Expr}{body:List Stmt}{wi:TI}{g:TG}{tb:TS}(G:PassesOwn (model X.prog X.w) X.A X.env X.xe)(hc:X.calm=true)(hi:PI X tg iter wi)(hg:PG X tg g)(j:jz X body tb)
 (hs:∀x,foldedSetIterable iter X.env x=pure x:=by intro _;rfl):PS X (.For tg iter body [] pos) (Ce wi g tb):=by
 intro y s c H D I h
 refine wpAny_For (aG (hi y s c H _ I h) λv s1 h1=>aG h1 λwc s2 h2=>?_) hs
 obtain⟨it,A,tn,J,H2,e,I2,T,lv,f2,W,⟨m0,w0⟩,z⟩:=h2;subst e;have Y:∀{q:Hp},(∀b∈A,q b=none)->∀b∈A,v9 X y q b:=λhn b j=>⟨hn b j,(f2 b j).2⟩
 refine codeAny_forLoop_any (λn s'=>∃i M q,Inv X y M q s'/\tn i s'.heap/\(∀b∈A,q b=none)/\W i n M q) ?_ m0 ⟨0,c,H2,I2,lv,λb j=>(f2 b j).1,w0⟩
 rintro n s3 ⟨i,L,O,I3,sg,vc,w3⟩;rcases z i n L O w3 with⟨C,qn⟩| ⟨go,N,hN,step⟩
 ·refine wpAny_passesOwn G (aG (T.done X rfl rfl rfl hc i y s3 L O X.xe I3 (Y vc) sg C) λr s4 ⟨U,I4⟩=>?_)
  subst U
  exact wpAny_execs_nil ⟨L,O,I4,qn⟩
 ·refine wpAny_passesOwn G (aG (T.item X rfl rfl rfl hc i y s3 L O X.xe I3 (Y vc) sg go) λr s4 ⟨u,U,h4⟩=>?_)
  subst U
  refine wpAny_passesOwn G (aG h4 λ_ s5 Q=>?_)
  obtain⟨x,H5,I5,r5,y5,S,Z⟩:=Q;have E:=I5.pinned (Y Z) (T.obj _ _ S)
  refine wpAny_passesOwn G (aG (hg _ s5 L H5 x u _ E r5 (step x H5 y5)) λ_ s6 Q=>?_)
  obtain⟨pw,H6,I6,q6⟩:=Q
  refine wpAny_passesOwn G (aG (j _ s6 pw H6 _ I6 q6) λf R t=>?_)
  have again:∀{k:St}{p:Hp},Inv X (y++CB A s5.heap) k p R->N k p->∃m,m<n/\∃i M q,Inv X y M q R/\tn i R.heap/\(∀b∈A,q b=none)/\W i m M q:=λ{k p} l F=>by
   obtain⟨m',hm,w7⟩:=hN k p F
   refine⟨m',hm,i+1,k,p,l.gm,T.keep _ _ _ S λb j o e=>(l.pin (b,o) (cC _ (cC _ (qU j e)))).1,λb j=>?_,w7⟩
   obtain⟨o,e,d⟩:=T.obj _ _ S b j
   exact(l.pin (b,o) (cC _ (cC _ (qU j e)))).2.1
  cases f with
  |next=>obtain⟨k,p,l,F⟩:=t;exact again l F
  |cont=>obtain⟨k,p,l,F⟩:=t;exact again l F
  |brk=>obtain⟨k,p,l,t⟩:=t;exact⟨k,p,l.gm,t⟩
  |ret v=>obtain⟨x7,k,p,l,r7,t⟩:=t;exact⟨x7,k,p,l.gm,r7,t⟩
end
abbrev R2:=V->V->Hp->VK->Prop
def g7(X:Cx)(f:Value->Value->Sem Value)(r:R2):Prop:=
 ∀(d:List (Addr×Obj))(s:Shared)(c:St)(H:Hp)(x y:V)(v u:Value)(Q:VK),Inv X d c H s->RelV x v->RelV y u->r x y H Q->
  wpAny (model X.prog X.w) X.A (f v u) (EP X d c Q) X.xe s
def G3(X:Cx)(f:Value->Sem Value)(r:V->Hp->VK->Prop):Prop:=
 ∀(d:List (Addr×Obj))(s:Shared)(c:St)(H:Hp)(x:V)(v:Value)(Q:VK),Inv X d c H s->RelV x v->r x H Q->
  wpAny (model X.prog X.w) X.A (f v) (EP X d c Q) X.xe s
def oT(X:Cx)(f:Value)(r:List V->Hp->VK->Prop):Prop:=
 ∀(g:List (Addr×Obj))(s:Shared)(c:St)(H:Hp)(xs:List V)(d:List Value)(Q:VK),Inv X g c H s->aq xs d->r xs H Q->
  wpAny (model X.prog X.w) X.A (call f d) (EP X g c Q) X.xe s
def G5(X:Cx)(r:V->Hp->(Bool->Hp->Prop)->Prop):Prop:=
 ∀(d:List (Addr×Obj))(s:Shared)(c:St)(H:Hp)(x:V)(v:Value)(Q:Bool->Hp->Prop),Inv X d c H s->RelV x v->r x H Q->
  wpAny (model X.prog X.w) X.A (truthy v) (TP X d c Q) X.xe s
noncomputable def zm(r:R2)(f d:TE):TE:=λc H Q=>f c H λx h=>d c h λy g=>r x y g Q
noncomputable def MP(r:V->Hp->VK->Prop)(d:TE):TE:=λc H Q=>d c H λx f=>r x f Q
noncomputable def rI(C:Int->Int->Prop)(g:Int->Int->V):R2:=λx y H Q=>∃i j,x=.int i/\y=.int j/\C i j/\Q (g i j) H
noncomputable def xq(g:Int->Int->V):R2:=λx y H Q=>∃i j,x=.int i/\y=.int j/\Q (g i j) H
def rU(g:Int->V):V->Hp->VK->Prop:=λx H Q=>∃i,x=.int i/\Q (g i) H
section
variable {X:Cx}{a b c:Expr}{d l m:TE}{pos:Pos}
variable{f:Value->Value->Sem Value}{g:Int->Int->Int}
theorem E2(D:PE X a d)(C:PE X b l){n:List (Addr×Obj)}{s:Shared}{i:St}{H:Hp}{R:V->V->Hp->Prop}(I:Inv X n i H s)
 (h:d i H λx q=>l i q λy j=>R x y j){Q:Value->Shared->Prop}
 (B:∀v u k x y j,Inv X n i j k->RelV x v->RelV y u->R x y j->wpAny (model X.prog X.w) X.A (f v u) Q X.xe k):
 wpAny (model X.prog X.w) X.A (eval a X.env) (λv G=>wpAny (model X.prog X.w) X.A (eval b X.env) (λu F=>wpAny (model X.prog X.w) X.A (f v u) Q X.xe F) X.xe G) X.xe s:=by
 refine aG (D n s i H _ I h) λv r p=>?_
 obtain⟨x,q,L,z,A⟩:=p
 refine aG (C n r i q _ L A) λu k p=>?_
 obtain⟨y,j,J,t,e⟩:=p
 exact B v u k x y j J z t e
theorem wN{i:Operator}{r:R2}(t:g7 X (binaryOp i) r)(e:PE X a d)(z:PE X b l):PE X (.BinOp a i b pos) (zm r d l):=by
 intro A s j H Q I h
 exact wpAny_BinOp (E2 e z I h λv u k x y C B p n q=>t A k j C x y v u Q B p n q)
theorem Nw{j:UnaryOp}{r:V->Hp->VK->Prop}(t:G3 X (unaryOp j) r)(y:PE X a d):PE X (.UnaryOp j a pos) (MP r d):=by
 intro k s i H Q I h
 exact UnaryOp_ (aG (y k s i H _ I h) λv n ⟨x,e,z,p,q⟩=>t k n i e x v Q z p q)
theorem BM{C:Int->Int->Prop}
 (rule:∀(i j:Int)(t u:Tok)(s:Shared)(Q:Value->Shared->Prop)(E:Value->Shared->Prop),C i j->Q (.int (g i j) s.toks) {s with toks:=s.toks+1}->wpAny (model X.prog X.w) X.A (f (.int i t) (.int j u)) Q E s):
 g7 X f (rI C λi j=>.int (g i j)):=by
 intro e s z H x y v u Q I p n h;obtain⟨i,j,rfl,rfl,r,q⟩:=h;obtain⟨t,rfl⟩:=p;obtain⟨k,rfl⟩:=n
 exact rule i j t k s _ _ r ⟨.int (g i j),H,I.tok _,⟨_,rfl⟩,q⟩
theorem BL
 (rule:∀(i j:Int)(t u:Tok)(s:Shared)(Q:Value->Shared->Prop)(E:Value->Shared->Prop),Q (.int (g i j) s.toks) {s with toks:=s.toks+1}->wpAny (model X.prog X.w) X.A (f (.int i t) (.int j u)) Q E s):
 g7 X f (xq λi j=>.int (g i j)):=by
 intro z s r H x y v u Q I p n h;obtain⟨i,j,rfl,rfl,q⟩:=h;obtain⟨t,rfl⟩:=p;obtain⟨k,rfl⟩:=n
 exact rule i j t k s _ _ ⟨.int (g i j),H,I.tok _,⟨_,rfl⟩,q⟩
theorem Dk{g:Int->Int->Bool}
 (rule:∀(i j:Int)(t u:Tok)(s:Shared)(Q:Value->Shared->Prop)(E:Value->Shared->Prop),Q (.bool (g i j)) s->wpAny (model X.prog X.w) X.A (f (.int i t) (.int j u)) Q E s):
 g7 X f (xq λi j=>.bl (g i j)):=by
 intro z s r H x y v u Q I p n h;obtain⟨i,j,rfl,rfl,q⟩:=h;obtain⟨t,rfl⟩:=p;obtain⟨k,rfl⟩:=n
 exact rule i j t k s _ _ ⟨.bl (g i j),H,I,rfl,q⟩
def Hc(i j:Int):Prop:=0<j/\j<1073741824
def Hb(i j:Int):Prop:=0<=j/\j<=1000000/\i.natAbs<2^64
theorem Pd:g7 X (binaryOp .Add) (xq λi j=>.int (i+j)):=BL λ_ _ _ _ _ _ _ q=>add_int q
theorem Pp:g7 X (binaryOp .Sub) (xq λi j=>.int (i - j)):=BL λ_ _ _ _ _ _ _ q=>sub_int q
theorem QL:g7 X (binaryOp .FloorDiv) (rI Hc λi j=>.int (i/j)):=BM λi j _ _ _ _ _ h q=>by
 have n:(0:Int)<j:=h.1;have k:j<1073741824:=h.2
 exact floordiv_int (by lia) (by rw[aRX i (by lia)];exact q) (.inl (PyProof.noPylong_small (by lia)))
theorem NQ:g7 X (binaryOp .Mod) (rI (λ_ j=>0<j) λi j=>.int (i%j)):=BM λi j _ _ _ _ _ h q=>by
 have k:(0:Int)<j:=h
 exact mod_int' (by lia) (by rw[Int.fmod_eq_emod_of_nonneg i (by lia)];exact q)
theorem OI:g7 X (binaryOp .Pow) (rI Hb λi j=>.int (i^j.toNat)):=BM λ_ _ _ _ _ _ _ h q=>pow_int_small h.1 h.2.1 h.2.2 q
theorem MN{f:Value->Sem Value}{g:Int->Int}
 (rule:∀(i:Int)(t:Tok)(s:Shared)(Q:Value->Shared->Prop)(E:Value->Shared->Prop),Q (.int (g i) s.toks) {s with toks:=s.toks+1}->wpAny (model X.prog X.w) X.A (f (.int i t)) Q E s):
 G3 X f (rU λi=>.int (g i)):=by
 intro n s k H x v Q I j h;obtain⟨i,rfl,q⟩:=h;obtain⟨t,rfl⟩:=j
 exact rule i t s _ _ ⟨.int (g i),H,I.tok _,⟨_,rfl⟩,q⟩
theorem OD:G3 X (unaryOp .USub) (rU λi=>.int (-i)):=MN λ_ _ _ _ _ q=>neg_int q
end
noncomputable def Ef:V->V->Bool
 | .aH,.aH=>true| .aH,.int _=>true| .int _,.aH=>true| .aH,.bl _=>true| .bl _,.aH=>true| .aH,.str _=>true| .str _,.aH=>true
 | .int _,.int _=>true| .bl _,.bl _=>true| .str _,.str _=>true| .qg _,.qg _=>true
 | .int _,.str _=>true| .str _,.int _=>true| .bl _,.str _=>true| .str _,.bl _=>true
 |_,_=>false
def MR:R2:=λx y H Q=>Ef x y=true/\Q (.bl (!decide (x=y))) H
theorem Ks{i j:Int}:decide (V.int i=V.int j)=(i==j):=by
 rw[eC];simp
theorem IV{i j:Bool}:decide (V.bl i=V.bl j)=(i==j):=by
 rw[eC];simp
theorem J5{i j:Str}:decide (V.str i=V.str j)=(i==j):=by
 rw[eC];simp
theorem Qs{i j:Array UInt8}:decide (V.qg i=V.qg j)=(i.toList==j.toList):=by
 rw[eC];cases i;cases j;simp
section
variable {X:Cx}{a b c:Expr}{f g l:TE}{pos:Pos}
variable{n:CmpOp}{r:R2}{A:List Value}
theorem mQ{i:List (Addr×Obj)}{d:St}{H:Hp}{s:Shared}{Q:VK}{k h:Bool}(I:Inv X i d H s)(q:Q (.bl k) H)(e:k=h):EP X i d Q (.bool h) s:=by
 subst e
 exact⟨.bl k,H,I,rfl,q⟩
theorem Fo:g7 X (compareOp .NotEq) MR:=by
 intro e s z H x y v u Q I p d h;obtain⟨m,q⟩:=h;cases x with
 |aH=>
  cases p;cases y with
  |aH=>cases d;exact PySem.EqNone.ne_none_none (mQ I q (by simp))
  |bl j=>cases d;exact PySem.EqNone.ne_none_bool (mQ I q (by simp))
  |int j=>obtain⟨k,rfl⟩:=d;exact PySem.EqNone.ne_none_int (mQ I q (by simp))
  |str j=>obtain⟨k,rfl⟩:=d;exact PySem.EqNone.ne_none_str (mQ I q (by simp))
  |_=>exact absurd (show false=true from m) bJ
 |bl i=>
  cases p;cases y with
  |aH=>cases d;exact PySem.EqNone.ne_bool_none (mQ I q (by simp))
  |bl j=>cases d;exact ne_bool (mQ I q (congrArg not IV))
  |str j=>obtain⟨k,rfl⟩:=d;exact PySem.EqMixed.ne_bool_str (mQ I q (by simp))
  |_=>exact absurd (show false=true from m) bJ
 |int i=>
  obtain⟨t,rfl⟩:=p;cases y with
  |aH=>cases d;exact PySem.EqNone.ne_int_none (mQ I q (by simp))
  |int j=>obtain⟨k,rfl⟩:=d;exact ne_int (mQ I q (congrArg not Ks))
  |str j=>obtain⟨k,rfl⟩:=d;exact PySem.EqMixed.ne_int_str (mQ I q (by simp))
  |_=>exact absurd (show false=true from m) bJ
 |str i=>
  obtain⟨t,rfl⟩:=p;cases y with
  |aH=>cases d;exact PySem.EqNone.ne_str_none (mQ I q (by simp))
  |bl j=>cases d;exact PySem.EqMixed.ne_str_bool (mQ I q (by simp))
  |int j=>obtain⟨k,rfl⟩:=d;exact PySem.EqMixed.ne_str_int (mQ I q (by simp))
  |str j=>obtain⟨k,rfl⟩:=d;exact ne_str (mQ I q (congrArg not J5))
  |_=>exact absurd (show false=true from m) bJ
 |qg i=>
  obtain⟨t,rfl⟩:=p;cases y with
  |qg j=>obtain⟨k,rfl⟩:=d;exact PySem.W.ne_bytes (mQ I q (congrArg not Qs))
  |_=>exact absurd (show false=true from m) bJ
 |_=>cases y<;>exact absurd (show false=true from m) bJ
theorem Fp:g7 X (compareOp .Lt) (xq λi j=>.bl (decide (i<j))):=Dk λ_ _ _ _ _ _ _ q=>lt_int q
theorem Fy:g7 X (compareOp .LtE) (xq λi j=>.bl (decide (i<=j))):=Dk λ_ _ _ _ _ _ _ q=>le_int q
theorem Ij:g7 X (compareOp .Gt) (xq λi j=>.bl (decide (j<i))):=Dk λ_ _ _ _ _ _ _ q=>gt_int q
theorem Nr:g7 X (compareOp .GtE) (xq λi j=>.bl (decide (j<=i))):=Dk λ_ _ _ _ _ _ _ q=>ge_int q
theorem dy(b:Expr)(h:n≠ .In:=by decide)(d:n≠ .NotIn:=by decide):behindInMarks n b=false:=by
 have j:(n==CmpOp.In)=false:=by cases n<;>first|rfl|exact absurd rfl h
 have i:(n==CmpOp.NotIn)=false:=by cases n<;>first|rfl|exact absurd rfl d
 cases b<;>simp[behindInMarks,j,i]
theorem Sn(m:g7 X (compareOp n) r)(z:PE X a f)(t:PE X b g)(p:behindInMarks n b=false):PE X (.Compare a [n] [b] pos) (zm r f g):=by
 intro e s d H Q I h
 exact wpAny_Compare1 (E2 z t I h λv u i x y C B k j q=>m e i d C x y v u Q B k j q) p
noncomputable def wa(t:TE):TT:=λd H Q=>t d H λx h=>∃k,x=.bl k/\Q k h
theorem Ry(F:g7 X (compareOp n) r)(L:PE X a f)(J:PE X b g)(G:behindInMarks n b=false):PT X (.Compare a [n] [b] pos) (wa (zm r f g)):=by
 intro i s d H Q I h
 refine wpAny_isTrue_Compare1 (aG (L i s d H _ I h) λv m ⟨x,U,O,t,D⟩=>aG (J i m d U _ O D) λu j ⟨y,S,N,q,C⟩=>
  aG (F i j d S x y v u _ N t q C) λc Y ⟨z,R,M,p,k,e,B⟩=>?_) G
 subst e;cases p
 exact wpAny_truthy_bool ⟨R,M,B⟩
noncomputable def qx(r j:R2)(f g l:TE):TE:=λd H Q=>f d H λx q=>g d q λy p=>r x y p λz h=>∃k,z=.bl k/\
 (if k=true then l d h λi m=>j y i m Q else Q (.bl false) h)
theorem UN{m:CmpOp}{q:R2}(E:g7 X (compareOp n) r)(Z:g7 X (compareOp m) q)(ha:PE X a f)(hb:PE X b g)(hc:PE X c l)
 (hm:lastMarks [n,m] [b,c]=false:=by with_unfolding_all rfl):PE X (.Compare a [n,m] [b,c] pos) (qx r q f g l):=by
 intro j s i H Q I h
 refine Compare_chain (aG (ha j s i H _ I h) λv M ⟨x,H1,I1,R,Y⟩=>chain_link (aG (hb j M i H1 _ I1 Y) λu L ⟨y,H2,I2,p,U⟩=>
  aG (E j L i H2 x y v u _ I2 R p U) λd J ⟨z,C,B,O,k,e,t⟩=>?_)) hm
 subst e;cases O
 refine wpAny_truthy_bool ?_
 cases k with
 |false=>exact ite_ff ⟨.bl false,C,B,rfl,t⟩
 |true=>exact ite_tt (chain_last (aG (hc j J i C _ B t) λF G ⟨D,H4,I4,N,S⟩=>Z j G i H4 y D u F Q I4 p N S))
def EL(K:aL)(x:V)(H:Hp)(k:Bool):Prop:=
 match x with
 | .aH=>k=false
 | .bl b=>k=b
 | .int i=>k=(i !=0)
 | .str y=>y.length<=sizeLine/\k=((y.length:Int)!=0)
 | .qg y=>y.size<=sizeLine/\k=((y.size:Int)!=0)
 | .ref p=>(∃xs,di K H p xs/\k= !xs.isEmpty)\/(∃xs,je K H p xs/\k= !xs.isEmpty)\/∃d,H p=some (.dK d)/\k= !d.isEmpty
 |_=>False
theorem V9{h:Type}{d:List (h×V)}{vs:List (h×Value)}(r:KV d vs):(!vs.isEmpty)= !d.isEmpty:=by
 cases r<;>rfl
theorem zV{xs:List V}{d:List Value}(r:aq xs d):(!d.toArray.isEmpty)= !xs.isEmpty:=by
 cases r<;>simp
theorem gi:(sizeLine:Nat)<2^63:=by rw[sizeLine_eq];decide
theorem Pq:G5 X (λx H Q=>∃k,EL X.K x H k/\Q k H):=by
 intro R s M H x v Q I z h;obtain⟨k,e,q⟩:=h;have O:=gi;have N:sizeLine=16777216:=sizeLine_eq;cases x with
 |aH=>
  cases z;have d:k=false:=e;subst d
  exact truthy_none ⟨H,I,q⟩
 |bl b=>
  cases z;have d:k=b:=e;subst d
  exact wpAny_truthy_bool ⟨H,I,q⟩
 |int i=>
  obtain⟨t,rfl⟩:=z;have d:k=(i !=0):=e;subst d
  exact PySem.P.truthy_int ⟨H,I,q⟩
 |str y=>
  obtain⟨t,rfl⟩:=z;obtain⟨J,d⟩:y.length<=sizeLine/\k=((y.length:Int)!=0):=e;subst d
  exact PySem.P.truthy_str (by lia) ⟨H,I.tok _,q⟩
 |qg y=>
  obtain⟨t,rfl⟩:=z;obtain⟨J,d⟩:y.size<=sizeLine/\k=((y.size:Int)!=0):=e;subst d
  exact PySem.W.truthy_bytes (by lia) ⟨H,I.tok _,q⟩
 |ref p=>
  cases z;have d:(∃xs,di X.K H p xs/\k= !xs.isEmpty)\/(∃xs,je X.K H p xs/\k= !xs.isEmpty)\/∃j,H p=some (.dK j)/\k= !j.isEmpty:=e;rcases d with⟨xs,B,d⟩| ⟨xs,B,d⟩| ⟨j,B,d⟩
  ·subst d;obtain⟨D,r,C,F⟩:=I.list B;have G:=r.length
   exact wpAny_truthy_list C.isList (by simp only[bB];lia) ⟨H,I.tok _,by rw[zV r];exact q⟩
  ·subst d;obtain⟨D,r,C,F⟩:=I.tuple B;have G:=r.length
   exact truthy_tuple C (by simp only[bB];lia) ⟨H,I.tok _,by rw[zV r];exact q⟩
  ·subst d;obtain⟨F,L,vs,r,m⟩:j.length<=sizeLine/\(p==sysModules)=false/\∃vs,KV j vs/\s.heap.DictOf (j6 X.prog X.w) p vs:=I.bz p _ B;have G:j.length=vs.length:=Paired.length r
   exact wpAny_truthy_dict L m (by lia) ⟨H,I.tok _,by rw[V9 r];exact q⟩
 |_=>exact(show False from e).elim
theorem Uw(z:PE X a f)(y:∀d,isTrue a X.env d=(do let v<-d;standAt a.pos;holding [v] (truthy v))):
 PT X a (λi H Q=>f i H λx m=>∃k,EL X.K x m k/\Q k m):=by
 intro j s i H Q I h
 exact isTrue_plain (aG (z j s i H _ I h) λv p ⟨x,B,e,q,t⟩=>Pq j p i B x v Q e q t) (y _)
theorem vals1{x:V}(r:aq [x] A):∃u,A=[u]/\RelV x u:=by
 cases r with
 |cons h d=>cases d;exact⟨_,rfl,h⟩
theorem vals2{x y:V}(r:aq [x,y] A):∃u d,A=[u,d]/\RelV x u/\RelV y d:=by
 cases r with
 |cons k j=>
  cases j with
  |cons i h=>cases h;exact⟨_,_,rfl,k,i⟩
theorem Uh(m:X.calm=true):oT X (.builtin "max") (λxs H Q=>∃i j,xs=[.int i,.int j]/\Q (.int (if j>i then j else i)) H):=by
 intro e s p H xs A Q I r h;obtain⟨i,j,rfl,q⟩:=h;obtain⟨u,v,rfl,⟨t,rfl⟩,⟨y,rfl⟩⟩:=vals2 r
 refine max_two_ints (I.ok.hd m) λz tk k=>⟨_,H,I.kept k,?_,q⟩
 by_cases d:j>i
 ·rw[if_pos d,if_pos d];exact⟨_,rfl⟩
 ·rw[if_neg d,if_neg d];exact⟨_,rfl⟩
theorem Um(m:X.calm=true):oT X (.builtin "min") (λxs H Q=>∃i j,xs=[.int i,.int j]/\Q (.int (if j<i then j else i)) H):=by
 intro e s p H xs A Q I r h;obtain⟨i,j,rfl,q⟩:=h;obtain⟨u,v,rfl,⟨t,rfl⟩,⟨y,rfl⟩⟩:=vals2 r
 refine min_two_ints (I.ok.hd m) λz tk k=>⟨_,H,I.kept k,?_,q⟩
 by_cases d:j<i
 ·rw[if_pos d,if_pos d];exact⟨_,rfl⟩
 ·rw[if_neg d,if_neg d];exact⟨_,rfl⟩
theorem UU:oT X (.type "int") (λxs H Q=>(∃i,xs=[.int i]/\Q (.int i) H)\/∃k,xs=[.bl k]/\Q (.int (if k then 1 else 0)) H):=by
 intro m s j H xs A Q I r h;rcases h with⟨i,rfl,q⟩| ⟨k,rfl,q⟩
 ·obtain⟨u,rfl,t,rfl⟩:=vals1 r
  exact call_int_int ⟨.int i,H,I,⟨_,rfl⟩,q⟩
 ·obtain⟨u,rfl,d⟩:=vals1 r;cases d
  exact call_int_bool ⟨.int (if k then 1 else 0),H,I.tok _,⟨_,rfl⟩,q⟩
end
variable{h:Heap}{dx:Addr}{mA:Str->Option Value}
structure Ap(h:Heap)(x dx C:Addr)(mA:Str->Option Value):Prop where
 obj:h.get? x=some (dJ C dx)
 ns:h.Ns1 dx mA
 ne:dx≠x
theorem UC(n:h.Ns1 dx mA):∃od,h.get? dx=some od/\∀name,aRY name od=some (mA name):=by
 obtain⟨o,c,m,g,k,j,_,i⟩:=n
 refine⟨o,g,λname=>?_⟩
 have e:=i name;unfold nsFind findBy at e;rw[<-Array.find?_toList]at e;unfold aRY;rw[k];dsimp only;split
 ·rename_i y q;rw[q]at e
  exact congrArg some e
 ·rename_i q;rw[q]at e;have a:c.toList.any (·.refKey)=false:=by
   rw[List.any_eq_false];intro y f;obtain⟨z,t,d⟩:=j y (Array.mem_toList_iff.mp f);simp[DictEntry.refKey,d]
  have l:¬c.toList.any (·.refKey)=true:=by rw[a];exact bJ
  rw[if_neg l]
  exact congrArg some e
theorem Ap.look{x C:Addr}(I:Ap h x dx C mA):∃od,PySem.W.InstAt h x (dJ C dx) C (some od)/\∀name,aRY name od=some (mA name):=
 let ⟨od,c,d⟩:=UC I.ns
 ⟨od,⟨I.obj,rfl,rfl,c⟩,d⟩
section
variable {c:Program}{w:World}{A:Around}{E:Value->Shared->Prop}{s:Shared}{K:aL}{x dx C f:Addr}{mA:Str->Option Value}{name:Str}{v:Value}
theorem SU{expr:Bool}{Q:Value->Shared->Prop}(X:K.In s.heap)(I:Ap s.heap x dx C mA)(k:aRL K C name=true)(j:aR6 K C=true)
 (l:bW K (.ref C) name=some none)(g:mA name=some v)(d:aSZ v=true)(h:Q v {s with toks:=s.toks+1}):
 wpAny (model c w) A (getAttr (.ref x) name expr) Q E s:=by
 obtain⟨od,J,i⟩:=I.look
 exact PySem.W.get_value X J (aRS k).1 (PySem.W.findObj_own j l rfl (by rw[i,g])) d h
theorem Tf{g:Sem Bool}{Q:Value×List Value->Shared->Prop}(X:K.In s.heap)(I:Ap s.heap x dx C mA)(d:aRL K C name=true)
 (l:bW K (.ref C) name=some (some (.ref f)))(j:aRI K (.ref f)=true)(i:mA name=none)(h:Q (.ref f,[.ref x]) s):
 wpAny (model c w) A (getMethod (.ref x) name g) Q E s:=by
 obtain⟨od,J,k⟩:=I.look
 exact PySem.W.method_fn X J (aRS d).1 (aRS d).2 l (beq_iff_eq.mp j) (by show(aRY name od).map (·.isSome)=some false;rw[k,i];rfl) h
theorem Ro{l:List Str}{Q:Unit->Shared->Prop}(X:K.In s.heap)(I:Ap s.heap x dx C mA)
 (z:bW K (.ref C) "__setattr__"=some (some (.builtin "object.__setattr__")))(e:aSO K C=true)(r:aSm K C name=some none)(B:aR6 K C=true)
 (q:PySem.Within mA l)(t:l.length<=sizeLine)
 (h:∀d,Ap d x dx C (λy=>if y=name then some v else mA y)->Heap.SameBut dx s.heap d->Q () {s with heap:=d,toks:=s.toks+2}):
 wpAny (model c w) A (setAttr (.ref x) name v) Q E s:=by
 obtain⟨od,J,M⟩:=I.look
 refine PySem.W.set_plain X J z (PySem.W.osa_open (s:={s with toks:=s.toks+1}) (r:=none) X J e r λb=>?_)
 obtain⟨N,D,n⟩:=PySem.W.any_some B;have p:s.heap.get? x=some ⟨.ref C,some dx,.plain,#[]⟩:=I.obj
 refine wpAny_bind (wpAny_pure (wpAny_bind (wpAny_bind (wpAny_loadPart p (wpAny_bind (PySem.W.Looks.here (s:={s with toks:=s.toks+1}) (PySem.W.looks_clsIn X D) ?_))))))
 rw[n]
 refine wpAny_pure (a:=some dx) (wpAny_bind (wpAny_pure (wpAny_bind ?_)))
 refine wpAny_nsSet1 (s:={s with toks:=s.toks+1}) I.ns λd k m=>?_
 obtain⟨L,F,G,g,i,j⟩:=k.count (PySem.Within.cons name v q)
 refine wpAny_bind (wpAny_lookBehind g (by rw[i];exact pastItsLine_dict (bV j (by rw[aM];lia))) ?_)
 exact wpAny_pure (h _ ⟨(m.2 _ (Ne.symm I.ne)).trans I.obj,k,I.ne⟩ m)
theorem UH{R:Result->Shared->Prop}{vs:List Value}{i:List (Str×Value)}(X:K.In s.heap)(j:aSn K C=true)
 (k:bW K (.ref C) "__init__"=some (some (.ref f)))(l:PySem.W.typeIn K (.ref f)=some (.type "function"))
 (h:codeAny (model c w) (A.under (.builtin "type.__call__" ⟨.ref C::vs,i⟩)) (.call (.ref f) ⟨.ref (s.heap.objs.size+1)::vs,i⟩) (PySem.W.InitBack (s.heap.objs.size+1) R)
  {s with heap:=(s.heap.push cX).push (dJ C s.heap.objs.size)}):
 codeAny (model c w) A (.call (.ref C) ⟨vs,i⟩) R s:=by
 obtain⟨m,g,d,t,os⟩:=s
 exact PySem.W.make_core (PySem.W.makes_of X j) (PySem.W.looks_findIn X k) (λself=>PySem.W.bind_fn X self l) (.inl rfl) h
end
noncomputable def qK(f:Str)(v:V):List (Str×V)->List (Str×V)
 | []=>[(f,v)]
 | (g,x)::r=>if g=f then(g,v)::r else(g,x)::qK f v r
theorem wQ(f g:Str)(v:V):∀fs:List (Str×V),(qK f v fs).lookup g=if g=f then some v else fs.lookup g
 | []=>by
   show dH g [(f,v)]=_;by_cases h:g=f
   ·have c:(g==f)=true:=beq_iff_eq.mpr h;simp only[dH,c,if_pos h]
   ·have c:(g==f)=false:=beq_eq_false_iff_ne.mpr h;simp only[dH,c,if_neg h]
 | (k,x)::r=>by
   have ih:=wQ f g v r;rw[show qK f v ((k,x)::r)=(if k=f then(k,v)::r else(k,x)::qK f v r)from rfl];by_cases d:k=f
   ·rw[if_pos d];by_cases h:g=k
    ·have c:(g==k)=true:=beq_iff_eq.mpr h;simp only[dH,c,if_pos (h.trans d)]
    ·have c:(g==k)=false:=beq_eq_false_iff_ne.mpr h;simp only[dH,c,if_neg (λe:g=f=>h (e.trans d.symm))]
   ·rw[if_neg d];by_cases h:g=k
    ·have c:(g==k)=true:=beq_iff_eq.mpr h;simp only[dH,c,if_neg (λe:g=f=>d (h.symm.trans e))]
    ·have c:(g==k)=false:=beq_eq_false_iff_ne.mpr h;simp only[dH,c]
     exact ih
theorem vG(f:Str)(v:V):∀fs:List (Str×V),f∈(qK f v fs).map (·.1)/\∀g,g∈fs.map (·.1)->g∈(qK f v fs).map (·.1)
 | []=>⟨by simp[qK],λg h=>by simp at h⟩
 | (k,x)::r=>by
   obtain⟨i,d⟩:=vG f v r;rw[show qK f v ((k,x)::r)=(if k=f then(k,v)::r else(k,x)::qK f v r)from rfl];by_cases c:k=f
   ·rw[if_pos c];subst c
    exact⟨by simp,λg h=>by simpa using h⟩
   ·rw[if_neg c]
    refine⟨?_,λg h=>?_⟩
    ·rw[aK]
     exact aX _ i
    ·rw[aK]at h|-;rcases fR h with e|e
     ·exact bU.mpr (.inl e)
     ·exact aX _ (d g e)
theorem wX(f:Str)(v:V):∀fs:List (Str×V),(qK f v fs).length<=fs.length+1
 | []=>by simp[qK]
 | (k,x)::r=>by
   have ih:=wX f v r;rw[show qK f v ((k,x)::r)=(if k=f then(k,v)::r else(k,x)::qK f v r)from rfl];by_cases c:k=f
   ·rw[if_pos c,aM,aM];lia
   ·rw[if_neg c,aM,aM];lia
theorem rA.some_of{v:V}{o:Option Value}(r:rA (some v) o):∃u,o=some u/\RelV v u:=by
 cases o with
 |none=>exact(show False from r).elim
 |some u=>exact⟨u,rfl,r⟩
theorem rA.none_of{o:Option Value}(r:rA none o):o=none:=by
 cases o with
 |none=>rfl
 |some u=>exact(show False from r).elim
theorem UB{v:V}{u:Value}(r:RelV v u):aSZ u=true:=by
 cases v with
 |aH=>cases (show u=Value.none from r);rfl
 |bl b=>cases (show u=Value.bool b from r);rfl
 |int i=>obtain⟨t,e⟩:=(show∃t,u=Value.int i t from r);cases e;rfl
 |str x=>obtain⟨t,e⟩:=(show∃t,u=Value.str x t from r);cases e;rfl
 |qg b=>obtain⟨t,e⟩:=(show∃t,u=Value.bytes b t from r);cases e;rfl
 |C9 b=>obtain⟨t,e⟩:=(show∃t,u=Value.float b t from r);cases e;rfl
 |ref a=>cases (show u=Value.ref a from r);rfl
 |ty n=>cases (show u=Value.type n from r);rfl
section
variable {P:Program}{w:World}{H c:Hp}{h g:Heap}{a C dx:Addr}{fs i:List (Str×V)}
theorem GM(j:gh P w H h)(e:H a=some (.ins C dx fs)):∃mA,Ap h a dx C mA/\(∀f,rA (fs.lookup f) (mA f))/\PySem.Within mA (fs.map (·.1))/\fs.length<=1000/\H dx=some (.own a):=by
 obtain⟨d,z,k,ob,mA,n,r,q⟩:=(show kW P w H h a (.ins C dx fs)from j a _ e)
 exact⟨mA,⟨ob,n,k⟩,r,q,z,d⟩
end
structure oe(K:aL)(C:Addr):Prop where
 pg:aRL K C Str.empty=true
 hd:aR6 K C=true
 po:aSO K C=true
 sa:bW K (.ref C) "__setattr__"=some (some (.builtin "object.__setattr__"))
theorem oe.get{K:aL}{C:Addr}(c:oe K C)(f:Str):aRL K C f=true:=c.pg
def qP(K:aL)(C:Addr)(f:Str):Prop:=bW K (.ref C) f=some none
theorem qP.Bm{K:aL}{C:Addr}{f:Str}(n:qP K C f):aSm K C f=some none:=by
 unfold aSm;rw[show bW K (.ref C) f=some none from n];rfl
structure vu(K:aL)(C:Addr)(f:Str)(v:V)(u:Value):Prop where
 at_:bW K (.ref C) f=some (some u)
 rel:RelV v u
 get:PySem.W.specialIn K u "__get__"=some none
 cp:PySem.W.copiedNames.contains f=false
structure ve(K:aL)(C:Addr)(m:Str)(f:Addr):Prop where
 at_:bW K (.ref C) m=some (some (.ref f))
 fn:aRI K (.ref f)=true
 kp:cI K (.ref f)=true
section
variable {X:Cx}{d:List (Addr×Obj)}{i:St}{H:Hp}{s:Shared}{a C dx:Addr}{fs:List (Str×V)}{f:Str}{v:V}{A:Around}{E:Value->Shared->Prop}
variable{Q:Value->Shared->Prop}
theorem Mt{b:Bool}(I:Inv X d i H s)(e:H a=some (.ins C dx fs))(c:oe X.K C)(n:qP X.K C f)(l:fs.lookup f=some v)
 (h:∀u g,Inv X d i H g->RelV v u->Q u g):wpAny (model X.prog X.w) A (getAttr (.ref a) f b) Q E s:=by
 obtain⟨mA,O,r,_,_,_⟩:=GM I.bz e;obtain⟨u,k,j⟩:=rA.some_of (v:=v) (o:=mA f) (by rw[<-l];exact r f)
 exact SU I.jk O (c.get f) c.hd n k (UB j) (h u _ (I.tok _) j)
theorem Mv{m:Str}{g:Addr}{pl:Sem Bool}{Q:Value×List Value->Shared->Prop}(I:Inv X d i H s)(e:H a=some (.ins C dx fs))(c:oe X.K C)(k:ve X.K C m g)(l:fs.lookup m=none)
 (h:Q (.ref g,[.ref a]) s):wpAny (model X.prog X.w) A (getMethod (.ref a) m pl) Q E s:=by
 obtain⟨mA,O,r,_,_,_⟩:=GM I.bz e;have j:mA m=none:=rA.none_of (by rw[<-l];exact r m)
 exact Tf I.jk O (c.get m) k.at_ k.fn j h
theorem Mw{y:V}{u:Value}{Q:Unit->Shared->Prop}(I:Inv X d i H s)(e:H a=some (.ins C dx fs))(c:oe X.K C)(n:qP X.K C f)(M:fs.length<1000)(t:RelV y u)
 (h:∀l,Inv X d i (upd H a (.ins C dx (qK f y fs))) l->Q () l):wpAny (model X.prog X.w) A (setAttr (.ref a) f u) Q E s:=by
 obtain⟨mA,O,r,k,_,m⟩:=GM I.bz e;have B:(fs.map (·.1)).length<=sizeLine:=by rw[aN,sizeLine_eq];lia
 refine Ro I.jk O c.sa c.po n.Bm c.hd k B λJ j p=>h _ ?_
 have F:∃o,J.get? dx=some o:=let ⟨o,_,_,L,_⟩:=j.ns;⟨o,L⟩
 refine I.write (x:=a) (e:=dx) (by rw[e];exact True.intro) (.inr m) (λb q G z=>(p.2 b G).trans z) F ?_
 refine⟨by rw[gH O.ne];exact m,?_,O.ne,j.obj,_,j.ns,λg=>?_,λg D=>?_⟩
 ·have:=wX f y fs;lia
 ·show rA ((qK f y fs).lookup g) (if g=f then some u else mA g);rw[wQ];by_cases q:g=f
  ·rw[if_pos q,if_pos q];exact t
  ·rw[if_neg q,if_neg q];exact r g
 ·by_cases q:g=f
  ·rw[q];exact(vG f y fs).1
  ·refine(vG f y fs).2 g (k g λz=>D ?_)
   show(if g=f then some u else mA g)=none;rw[if_neg q];exact z
theorem Inv.made(I:Inv X d i H s):Inv X d i (upd (upd H s.heap.objs.size (.own (s.heap.objs.size+1))) (s.heap.objs.size+1) (.ins C s.heap.objs.size []))
 {s with heap:=(s.heap.push cX).push (dJ C s.heap.objs.size)}:=by
 have g:(s.heap.push cX).get? s.heap.objs.size=some cX:=Heap.get?_push_size s.heap rfl;have m:((s.heap.push cX).push (dJ C s.heap.objs.size)).get? (s.heap.objs.size+1)=some (dJ C s.heap.objs.size):=by
  have:=Heap.get?_push_size (s.heap.push cX) (o:=dJ C s.heap.objs.size) rfl;rwa[Heap.size_push]at this
 have l:(s.heap.push cX).Ns s.heap.objs.size (λ_=>none):=⟨cX,#[],_,g,rfl,(λe k=>absurd k (by simp)),λ_=>rfl⟩;have n:=I.laid (a:=s.heap.objs.size) (o:=.own (s.heap.objs.size+1)) (h':=s.heap.push cX) (t':=s.toks) (λb u q=>Heap.get?_push_of_some _ q) (bE _) ⟨_,g⟩
 refine n.laid (a:=s.heap.objs.size+1) (o:=.ins C s.heap.objs.size []) (t':=s.toks) (λb u q=>Heap.get?_push_of_some _ q) (aTp (Heap.size_push _ _)) ?_
 have c:s.heap.objs.size≠s.heap.objs.size+1:=bS (dZ _)
 refine⟨by rw[gH c,j8],dM _,c,m,λ_=>none,(Heap.Ns1.of_empty l).at λo q=>Heap.get?_push_of_some _ q,λ_=>True.intro,λy j=>absurd rfl j⟩
theorem RE{c:Program}{w:World}{env:Env}{e:Expr}{f:Str}{pos:Pos}{s:Shared}(g:attributeBase e f env (eval e env)=eval e env)
 (h:wpAny (model c w) A (eval e env) (λo j=>wpAny (model c w) A (getAttr o f true) Q E j) E s):wpAny (model c w) A (eval (.Attribute e f pos) env) Q E s:=
 Attribute_any_ h (by rw[arm_eval_Attribute,g])
end
def Bw(K:aL)(g:TE)(f:Str):TE:=λd H Q=>g d H λx c=>∃a C dx fs v,x=.ref a/\c a=some (.ins C dx fs)/\oe K C/\qP K C f/\fs.lookup f=some v/\Q v c
def BA(K:aL)(i g:TE)(f:Str):TS:=λD c H=>g c H λy j=>i c j λx d=>∃a C dx fs,x=.ref a/\d a=some (.ins C dx fs)/\oe K C/\qP K C f/\fs.length<1000/\
 D.nx c (upd d a (.ins C dx (qK f y fs)))
def Dj(X:Cx)(f:Operator)(rd:V->V->Hp->VK->Prop):Prop:=
 ∀(d:List (Addr×Obj))(s:Shared)(c:St)(H:Hp)(x y:V)(u v:Value)(Q:VK),Inv X d c H s->RelV x u->RelV y v->rd x y H Q->wpAny (model X.prog X.w) X.A (inplaceOp f u v) (EP X d c Q) X.xe s
def nR(K:aL)(l k:TE)(rd:V->V->Hp->VK->Prop)(f:Str):TS:=λD c H=>l c H λx j=>∃a C dx fs v,x=.ref a/\j a=some (.ins C dx fs)/\oe K C/\qP K C f/\fs.lookup f=some v/\
 k c j λy m=>rd v y m λz i=>∃g d,i a=some (.ins C g d)/\d.length<1000/\D.nx c (upd i a (.ins C g (qK f z d)))
section
variable {X:Cx}{o e value:Expr}{f:Str}{pos m p:Pos}{d g:TE}
theorem NU(t:PE X e d)(y:attributeBase e f X.env (eval e X.env)=eval e X.env):PE X (.Attribute e f pos) (Bw X.K d f):=by
 intro A s i H Q I h
 refine RE y (aG (t A s i H _ I h) λu L j=>?_)
 obtain⟨x,F,D,k,a,C,dx,fs,v,ex,z,c,n,l,q⟩:=j;subst ex;obtain rfl:u=Value.ref a:=k
 exact Mt D z c n l λG J B r=>⟨v,F,B,r,q⟩
theorem PX(F:PE X o d)(A:PE X value g)(B:swapsWith value (some (.Attribute o f m)) pos.line X.env=pure false):PS X (.Assign [.Attribute o f m] value pos) (BA X.K d g f):=by
 intro j s i H D I h
 refine plainObj_wpAny_Assign_Attribute (aG (A j s i H _ I h) λu k ⟨y,N,M,r,q⟩=>aG (F j k i N _ M q) λz Q ⟨x,R,L,t,a,C,dx,fs,ex,G,c,n,l,v⟩=>?_) B
 subst ex;obtain rfl:z=Value.ref a:=t
 exact Mw L G c n l r λO J=>⟨i,_,J,v⟩
theorem Mn{t:Operator}{rd:V->V->Hp->VK->Prop}(U:PE X o d)(S:PE X value g)(A:Dj X t rd):PS X (.AugAssign (.Attribute o f p) t value pos) (nR X.K d g rd f):=by
 intro r s i H D I h
 refine wpAny_AugAssign_AttributeAny (aG (U r s i H _ I h) λQ s1 j=>?_)
 obtain⟨x,H1,I1,L,a,C,dx,fs,v,ex,Y,c,n,l,q⟩:=j;subst ex;obtain rfl:Q=Value.ref a:=L
 refine Mt I1 Y c n l λu F I2 M=>aG (S r F i H1 _ I2 q) λw3 B ⟨y,H2,I3,J,O⟩=>aG (A r B i H2 v y u w3 _ I3 M J O) λw4 s4 j=>?_
 obtain⟨z,H3,E,G,ol,oj,k,R,N⟩:=j
 exact Mw E k c n R G λs5 Z=>⟨i,_,Z,N⟩
def Eh:V->V->Hp->VK->Prop:=λx y H Q=>∃i j,x=.int i/\y=.int j/\Q (.int (i+j)) H
def Eg:V->V->Hp->VK->Prop:=λx y H Q=>∃i j,x=.int i/\y=.int j/\Q (.int (i - j)) H
theorem NJ:Dj X .Add Eh:=by
 rintro r s n H x y u v Q I l k ⟨i,j,rfl,rfl,q⟩;obtain⟨t,rfl⟩:=(show∃t,u=Value.int i t from l);obtain⟨c,rfl⟩:=(show∃c,v=Value.int j c from k)
 exact aTu ⟨.int (i+j),H,I.tok _,⟨_,rfl⟩,q⟩
theorem Jq:Dj X .Sub Eg:=by
 rintro r s n H x y u v Q I l k ⟨i,j,rfl,rfl,q⟩;obtain⟨t,rfl⟩:=(show∃t,u=Value.int i t from l);obtain⟨c,rfl⟩:=(show∃c,v=Value.int j c from k)
 exact aTv ⟨.int (i - j),H,I.tok _,⟨_,rfl⟩,q⟩
end
section
variable {X:Cx}{d:List (Addr×Obj)}{f:St}{H:Hp}{s:Shared}{A:Around}{E:Value->Shared->Prop}{Q:Value->Shared->Prop}{c:Value}{b:Bool}
end
variable{k:Nat}{A:Around}{C:Addr}{us:List Value}{B:List (Str×Value)}
structure cm(k:Nat)(A:Around):Prop where
 hd:A.handled=none
 dp:A.depth+3*k+5<recursionLimit
 un:A.units+16*k+200<cLine
theorem cm.mono{j:Nat}(r:cm k A)(h:j<=k):cm j A:=⟨r.hd,by have:=r.dp;lia,by have:=r.un;lia⟩
theorem cm.deeper(r:cm (k+1) A)(env:Env):cm k (A.deeper env):=
 ⟨r.hd,by have:=r.dp;show A.depth+1+3*k+5<_;lia,by have:=r.un;show A.units+3+16*k+200<_;lia⟩
theorem VL:(A.under (.builtin "type.__call__" ⟨.ref C::us,B⟩)).depth=A.depth+1:=by
 first|rfl|simp[Around.under,Code.weight,Code.isCreation,Code.isGuard,Code.isCaller,Code.frames,Code.isFrame,guardIds]
theorem Vy:(A.under (.builtin "type.__call__" ⟨.ref C::us,B⟩)).units=A.units+1:=by
 first|rfl|simp[Around.under,Code.cUnits,Code.frames,Code.isFrame]
theorem cm.make(r:cm (k+1) A)(C:Addr)(us:List Value)(B:List (Str×Value)):cm k (A.under (.builtin "type.__call__" ⟨.ref C::us,B⟩)):=
 ⟨r.hd,by have:=r.dp;rw[VL];lia,by have:=r.un;rw[Vy];lia⟩
theorem cm.depth(r:cm k A):A.depth<recursionLimit:=by have:=r.dp;lia
noncomputable def Dl:TA:=λ_ H Q=>Q [] H
noncomputable def Fw(f:TE)(d:TA):TA:=λc H Q=>f c H λx i=>d c i λxs g=>Q (x::xs) g
section
variable {X:Cx}{e:Expr}{c:List Expr}{d:TE}{t:TA}{pos:Pos}
theorem FP:PA X [] Dl:=λ_ _ _ _ H Q I h=>Calls.spliced_nil ⟨[],H,I,.nil,h⟩
theorem xV(v:PE X e d)(r:PA X c t)(q:starEach (e::c) X.env=(false,eval e X.env)::starEach c X.env:=by rfl):PA X (e::c) (Fw d t):=by
 intro pos g s f H Q I h;rw[q];show wpAny _ _ (spliced ((false,eval e X.env)::backTo pos (starEach c X.env))) _ _ s
 refine Calls.spliced_cons (aG (v g s f H _ I h) λu j i=>?_)
 obtain⟨x,F,z,m,p⟩:=i
 exact aG (r pos g j f F _ z p) λus G ⟨xs,D,y,l,n⟩=>⟨x::xs,D,y,.cons m l,n⟩
def Bo(t:TA):TE:=λg H Q=>t g H λxs f=>xs.length<=sizeLine/\∀p,f p=none->Q (.ref p) (upd f p (.tup xs))
def Bu(t:TA):TE:=λg H Q=>t g H λxs f=>xs.length<=sizeLine/\∀p,f p=none->Q (.ref p) (upd f p (.lst xs))
theorem PN{l}(h:PA X c t):PE X (.Tuple c l pos) (Bo t):=by
 intro p s j H Q I m
 refine wpAny_Tuple_spliced (aG (h pos p s j H _ I m) λus f ⟨xs,i,g,r,z,q⟩=>⟨by rw[<-r.length];exact z,?_⟩)
 have n:i f.heap.objs.size=none:=g.bz.fresh (bE _)
 refine⟨.ref f.heap.objs.size,upd i f.heap.objs.size (.tup xs),g.laid (t':=f.toks) (λb u e=>Heap.get?_push_of_some _ e) (bE _) ?_,rfl,q _ n⟩
 exact⟨z,us,r,⟨_,Heap.get?_push_size _ rfl,rfl,_,rfl⟩⟩
theorem Pg(h:PA X c t):PE X (.List c pos) (Bu t):=by
 intro n s j H Q I l
 refine wpAny_List_spliced (aG (h pos n s j H _ I l) λus f ⟨xs,i,g,r,z,q⟩=>⟨by rw[<-r.length];exact z,?_⟩)
 have m:i f.heap.objs.size=none:=g.bz.fresh (bE _)
 refine⟨.ref f.heap.objs.size,upd i f.heap.objs.size (.lst xs),g.laid (t':=f.toks) (λb u e=>Heap.get?_push_of_some _ e) (bE _) ?_,rfl,q _ m⟩
 exact⟨z,us,0,r,Heap.get?_push_size _ rfl⟩
end
abbrev Sp:=List V->Hp->VK->XK->Prop
abbrev vv:=List Env->Hp->Shared->XK->Value->Shared->Prop
structure nj(P:Program)(w:World)(K:aL)(mg:Str->Option Value)(base:Heap)(A:Around)(outer:List Env)(s:Shared)(H:Hp):Prop where
 frames:A.frames=some outer
 mod:Mod K mg base
 bs:∀b o,base.get? b=some o->s.heap.get? b=some o/\H b=none
 uh:base.objs.size<=s.heap.objs.size
 ig:s.heap.FunFrames base outer
 Af:∀b∈bx outer,H b=none
 bz:gh P w H s.heap
 bare:AllBare s.gens
def CE(c:List Env)(P:Program)(w:World)(H:Hp)(s:Shared)(Q:VK)(u:Value)(d:Shared):Prop:=
 ∃v f,d.os=s.os/\AllBare d.gens/\Un (bx c) [] H f s.heap d.heap/\gh P w f d.heap/\RelV v u/\Q v f
def CR(f:vv)(c:List Env)(P:Program)(w:World)(H:Hp)(s:Shared)(Q:VK)(E:XK)(r:Result)(d:Shared):Prop:=
 match r with
 | .ok (.ret u)=>CE c P w H s Q u d
 | .ok _=>False
 | .error e=>f c H s E e d
structure oW(P:Program)(w:World)(K:aL)(mg:Str->Option Value)(base:Heap)(CX:vv)(k:Nat)(f:Addr)(fd:FuncData)(ps:List Str)(sp:Sp):Prop where
 len:∀vs H Q E,sp vs H Q E->vs.length=ps.length
 run:∀(A:Around)(outer:List Env)(s:Shared)(H:Hp)(args:Args)(us:List Value)(vs:List V)(Q:VK)(E:XK),cm k A->nj P w K mg base A outer s H->BindsTo s fd args (ps.zip us)->aq vs us->sp vs H Q E->
  codeAny (model P w) A (.call (.ref f) args) (CR CX outer P w H s Q E) s
theorem nj.make{P:Program}{w:World}{K:aL}{f:Str->Option Value}{d:Heap}{A:Around}{c:List Env}{s:Shared}{H:Hp}(e:nj P w K f d A c s H)(C:Addr)(us:List Value)(B:List (Str×Value)):
 nj P w K f d (A.under (.builtin "type.__call__" ⟨.ref C::us,B⟩)) c s H:=⟨by first|exact e.frames| (simpa[Around.under,Code.envs,Code.isFrame,pushEnvs]using e.frames),e.mod,e.bs,e.uh,e.ig,e.Af,e.bz,e.bare⟩
section
variable {X:Cx}{c:List (Addr×Obj)}{f:St}{H:Hp}{s i:Shared}
theorem Inv.B1(I:Inv X c f H s):nj X.prog X.w X.K X.mg X.base X.A X.stack s H:=
 ⟨I.ok.frames,I.ok.mod,I.bs,bV I.ok.uh I.sz,I.stack,I.nv,I.bz,I.bare⟩
theorem Inv.after{Q:VK}{u:Value}(I:Inv X c f H s)(h:CE X.stack X.prog X.w H s Q u i):EP X c f Q u i:=by
 obtain⟨v,p,os,j,un,m,r,q⟩:=h;obtain⟨n,g,d,t,l⟩:=i;obtain rfl:l=s.os:=os
 exact⟨v,p,I.call (h':=n) (g':=g) (d':=d) (t':=t) (ch:=[]) un m j (λb z=>absurd z (by simp)),r,q⟩
end
noncomputable def Cy(d:Sp)(bi:List V)(E:XK)(t:TA):TE:=λc H Q=>t c H λvs f=>d (vs++bi) f Q E
def E7(C:Addr)(m:Str)(g:Sp)(bi:List V)(E:XK)(f:TE)(t:TA):TE:=λc H Q=>f c H λx d=>∃a dx fs,x=.ref a/\d a=some (.ins C dx fs)/\fs.lookup m=none/\
 t c d λvs i=>g (x::(vs++bi)) i Q E
def wg(C:Addr)(d:Sp)(bi:List V)(E:XK)(t:TA):TE:=λσ H Q=>t σ H λvs c=>∀x dx,c x=none->c dx=none->dx≠x->
 d (.ref x::(vs++bi)) (upd (upd c dx (.own x)) x (.ins C dx [])) (λv f=>v=.aH/\Q (.ref x) f) E
def Binds(K:aL)(d:FuncData)(c:List Str)(ds:List Value):Prop:=
 ∀(s:Shared)(us:List Value),K.In s.heap->(us++ds).length=c.length->BindsTo s d ⟨us,[]⟩ (c.zip (us++ds))
theorem Binds.all{K:aL}{f:FuncData}{c:List Str}(h:∀us:List Value,us.length=c.length->bindArgs f ⟨us,[]⟩=pure (c.zip us)):Binds K f c []:=λs us _ d=>by
 rw[aQ]at d|-
 exact .of_eq (h us d)
def hO(g:vv)(X:Cx)(E:XK):Prop:=∀(f:List (Addr×Obj))(d:St)(H:Hp)(s:Shared)(e:Value)(c:Shared),Inv X f d H s->g X.stack H s E e c->X.xe e c
section
variable {X:Cx}{i:vv}{k:Nat}{f C:Addr}{j:FuncData}{g:List Str}{n:Sp}{bi:List V}{ds:List Value}{E:XK}{x m:Str}{p pos y:Pos}{e o:Expr}{d:List Expr}{z:TE}{t:TA}
variable{D:List (Addr×Obj)}{G:St}{Q:VK}{vs:List V}{pl:Sem Bool}
theorem FK{H:Hp}{s:Shared}{us:List Value}(F:oW X.prog X.w X.K X.mg X.base i k f j g n)(J:cm k X.A)(N:Binds X.K j g ds)(M:aq bi ds)(v:hO i X E)
 (I:Inv X D G H s)(r:aq vs us)(h:n (vs++bi) H Q E):wpAny (model X.prog X.w) X.A (call (.ref f) us) (EP X D G Q) X.xe s:=by
 have l:aq (vs++bi) (us++ds):=r.append M;have L:(us++ds).length=g.length:=by rw[<-l.length];exact F.len _ _ _ _ h
 refine wpAny_call (codeAny_mono (F.run X.A X.stack s H ⟨us,[]⟩ (us++ds) (vs++bi) Q E J I.B1 (N s us I.jk L) l h) λr q c=>?_)
 cases r with
 |error e=>exact v D G H s e q I c
 |ok O=>
  cases O with
  |ret u=>exact I.after c
  |next=>exact False.elim c
  |brk=>exact False.elim c
  |cont=>exact False.elim c
theorem yD(F:oW X.prog X.w X.K X.mg X.base i k f j g n)(v:cm k X.A)(M:Gl X x)(J:X.mg x=some (.ref f))(L:cI X.K (.ref f)=true)(R:Binds X.K j g ds)(O:aq bi ds)(l:hO i X E)
 (S:PA X (e::d) t)(U:(x==("__debug__":Str))=false:=by decide)(N:starEach (e::d) X.env=(false,eval e X.env)::starEach d X.env:=by rfl)(Y:(backTo pos (starEach d X.env)).any (·.1)=false:=by rfl):
 PE X (.Call (.Name x p) (e::d) [] pos) (Cy n bi E t):=by
 intro D s G H Q I h
 refine wpAny_Call_Name_kw (Gv I M J ?_ U)
 refine aRZ (h₀:=X.base) I.ok.mod.BS L (aG (S pos D s G H _ I h) λus Z ⟨vs,H1,c,r,q⟩=>⟨c.jk,?_⟩) N Y
 exact FK F v R O l c r q
theorem Qz(Z:PE X o z)(c:oe X.K C)(J:ve X.K C m f)(F:oW X.prog X.w X.K X.mg X.base i k f j g n)(Y:cm k X.A)(hb:Binds X.K j g ds)(hd:aq bi ds)(S:hO i X E)(ha:PA X (e::d) t)
 (bf:starEach (e::d) X.env=(false,eval e X.env)::starEach d X.env:=by rfl)(av:(backTo pos (starEach d X.env)).any (·.1)=false:=by rfl)
 (U:eval (.Call (.Attribute o m y) (e::d) [] pos) X.env=(do
  let v<-eval o X.env
  standAt y.atName
  let (f,first)<-holding [v] (getMethod v m pl)
  callWith pos f first (backTo pos (starEach (e::d) X.env)) (backToKw pos (keywordEach [] X.env))):=by rfl):
 PE X (.Call (.Attribute o m y) (e::d) [] pos) (E7 C m n bi E z t):=by
 intro D s G H Q I h
 refine aSr (pl:=pl) (aG (Z D s G H _ I h) λu N ⟨x,H1,M,O,a,dx,fs,ex,ea,l,q⟩=>?_) U
 subst ex;obtain rfl:u=Value.ref a:=O
 refine Mv M ea c J l ?_
 refine aRZ (first:=[.ref a]) (h₀:=X.base) I.ok.mod.BS J.kp (aG (ha pos D N G H1 _ M q) λus s2 ⟨vs,H2,L,r,R⟩=>⟨L.jk,?_⟩) bf av
 exact FK (us:=.ref a::us) (vs:=.ref a::vs) F Y hb hd S L (.cons rfl r) R
theorem UK(R:PE X o z)(c:oe X.K C)(J:ve X.K C m f)(F:oW X.prog X.w X.K X.mg X.base i k f j g n)(O:cm k X.A)(U:Binds X.K j g ds)(S:aq bi ds)(M:hO i X E)
 (N:eval (.Call (.Attribute o m y) [] [] pos) X.env=(do
  let v<-eval o X.env
  standAt y.atName
  let (f,first)<-holding [v] (getMethod v m pl)
  callWith pos f first (backTo pos (starEach [] X.env)) (backToKw pos (keywordEach [] X.env))):=by rfl):
 PE X (.Call (.Attribute o m y) [] [] pos) (E7 C m n bi E z Dl):=by
 intro D s G H Q I h
 refine aSr (pl:=pl) (aG (R D s G H _ I h) λu Z ⟨x,H1,r,L,a,dx,fs,ex,Y,l,q⟩=>?_) N
 subst ex;obtain rfl:u=Value.ref a:=L
 refine Mv r Y c J l ?_
 exact PySem.W.callWith_K0 (first:=[.ref a]) r.jk J.kp (FK (us:=[.ref a]) (vs:=[.ref a]) F O U S M r (.cons rfl .nil) q)
structure Mk(K:aL)(C f:Addr):Prop where
 makes:aSn K C=true
 init:bW K (.ref C) "__init__"=some (some (.ref f))
 fn:aRI K (.ref f)=true
 kp:cI K (.ref C)=true
theorem R6{H:Hp}{s:Shared}{us:List Value}(M:Mk X.K C f)(F:oW X.prog X.w X.K X.mg X.base i k f j g n)(S:cm (k+1) X.A)(Z:Binds X.K j g ds)(Y:aq bi ds)
 (R:hO i X E)(I:Inv X D G H s)(r:aq vs us)
 (h:∀x dx,H x=none->H dx=none->dx≠x->n (.ref x::(vs++bi)) (upd (upd H dx (.own x)) x (.ins C dx [])) (λv H2=>v=.aH/\Q (.ref x) H2) E):
 wpAny (model X.prog X.w) X.A (call (.ref C) us) (EP X D G Q) X.xe s:=by
 have J:=h (s.heap.objs.size+1) s.heap.objs.size (I.bz.fresh (aSw _)) (I.bz.fresh (bE _)) (bS (dZ _));have l:=Inv.made (C:=C) I;have q:aq (V.ref (s.heap.objs.size+1)::(vs++bi)) (Value.ref (s.heap.objs.size+1)::(us++ds)):=.cons rfl (r.append Y);have U:(Value.ref (s.heap.objs.size+1)::us++ds).length=g.length:=by
  have e:=q.length;rw[F.len _ _ _ _ J]at e
  exact e.symm
 refine wpAny_call (UH (f:=f) I.jk M.makes M.init (beq_iff_eq.mp M.fn) (codeAny_mono (F.run _ X.stack _ _ ⟨Value.ref (s.heap.objs.size+1)::us,[]⟩ (Value.ref (s.heap.objs.size+1)::(us++ds)) _ _ E (S.make C us [])
  (l.B1.make C us []) (Z _ (Value.ref (s.heap.objs.size+1)::us) l.jk U) q J) λr L c=>?_))
 cases r with
 |error e=>exact R D G _ _ e L l c
 |ok fl=>
  cases fl with
  |ret u=>
   obtain⟨v,H',I3,N,ev,O⟩:=l.after c;subst ev
   exact⟨N,⟨V.ref (s.heap.objs.size+1),H',I3,rfl,O⟩⟩
  |next=>exact False.elim c
  |brk=>exact False.elim c
  |cont=>exact False.elim c
theorem QM(M:Mk X.K C f)(F:oW X.prog X.w X.K X.mg X.base i k f j g n)(v:cm (k+1) X.A)(L:Gl X x)(J:X.mg x=some (.ref C))(R:Binds X.K j g ds)(O:aq bi ds)(l:hO i X E)
 (S:PA X (e::d) t)(U:(x==("__debug__":Str))=false:=by decide)(N:starEach (e::d) X.env=(false,eval e X.env)::starEach d X.env:=by rfl)(Y:(backTo pos (starEach d X.env)).any (·.1)=false:=by rfl):
 PE X (.Call (.Name x p) (e::d) [] pos) (wg C n bi E t):=by
 intro D s G H Q I h
 refine wpAny_Call_Name_kw (Gv I L J ?_ U)
 refine aRZ (h₀:=X.base) I.ok.mod.BS M.kp (aG (S pos D s G H _ I h) λus Z ⟨vs,H1,c,r,q⟩=>⟨c.jk,?_⟩) N Y
 exact R6 M F v R O l c r q
end
def PK(X:Cx)(f:List Keyword)(t:TA):Prop:=
 ∀(pos:Pos)(d:List (Addr×Obj))(s:Shared)(c:St)(H:Hp)(Q:List V->Hp->Prop),Inv X d c H s->t c H Q->wpAny (model X.prog X.w) X.A (evalAll ((backToKw pos (keywordEach f X.env)).map (·.2))) (AP X d c Q) X.xe s
section
variable {X:Cx}{l:vv}{k:Nat}{f C:Addr}{n:FuncData}{q r:List Str}{y:Sp}{E:XK}{x m:Str}{p pos z i:Pos}{e o:Expr}{D:List Expr}{c:List Keyword}{d F:TE}{t tk:TA}{j:Option Str}
theorem Pw:PK X [] Dl:=λ_ _ _ _ H Q I h=>wpAny_evalAll_nil ⟨[],H,I,.nil,h⟩
theorem Qu(S:PE X e d)(R:PK X c t):PK X (⟨j,e,i⟩::c) (Fw d t):=by
 intro pos G s g H Q I h;show wpAny _ _ (evalAll ((do let v<-eval e X.env;standAt pos;pure v)::(backToKw pos (keywordEach c X.env)).map (·.2))) _ _ s
 refine wpAny_evalAll_cons (wpAny_bind (aG (S G s g H _ I h) λu J ⟨x,H1,Y,M,O⟩=>wpAny_bind (wpAny_standAt (wpAny_pure ?_))))
 exact aG (R pos G J g H1 _ Y O) λus s2 ⟨xs,Z,U,L,N⟩=>⟨x::xs,Z,U,.cons M L,N⟩
variable {g:List Value->List Value->List Value}{v:List V->List V->List V}
end
variable{l:vv}{D:Str->Option Value}{F:Heap}{N j:List Str}{g:Str}{d:Scope}{f:Addr}
structure sJ(N P:List Str)(sc:Scope):Prop where
 kind:sc.kind=.function
 co:sc.isCoroutine=false
 gen:sc.isGenerator=false
 nd:N.Nodup
 pre:N.take P.length=P
 par:∀x∈P,sc.names.lookup x=some .local\/sc.names.lookup x=some .cell
 zw:∀y∈sc.names,y.2≠ .free
theorem Mg{kindOf:Str->Option NameKind}{x:Str}:∀{binds:List (Str×Value)}{m:Str->Option Value},(∀v,(x,v)∉binds)->bindL kindOf binds m x=m x
 | [],_,_=>rfl
 | (n,v)::r,m,h=>by
   unfold bindL;rw[Mg λw c=>h w (aX _ c)];split
   ·have:x≠n:=by rintro rfl;exact h v bC
    simp[this]
   ·rfl
theorem L5{kindOf:Str->Option NameKind}{x:Str}:∀{binds:List (Str×Value)}{m:Str->Option Value},(∀v,(x,v)∉binds)->bindC kindOf binds m x=m x
 | [],_,_=>rfl
 | (n,v)::r,m,h=>by
   unfold bindC;rw[L5 λw c=>h w (aX _ c)];split
   ·rfl
   ·have:x≠n:=by rintro rfl;exact h v bC
    simp[this]
theorem LS{kindOf:Str->Option NameKind}{x:Str}{v:Value}:∀{P:List Str}{vs:List Value}{i:Nat}{m:Str->Option Value},P.Nodup->P[i]?=some x->vs[i]?=some v->kindOf x=some .local->
 bindL kindOf (P.zip vs) m x=some v
 | [],_,_,_,_,h,_,_=>by simp at h
 |_::_,[],_,_,_,_,h,_=>by simp at h
 |p::P,w::vs,0,m,q,n,c,r=>by
  simp at n c;subst n;subst c;show bindL kindOf ((p,w)::P.zip vs) m p=_;unfold bindL;rw[Mg λv t=>(i7 q).1 (cY t).1,if_pos r];simp
 |p::P,w::vs,i+1,m,q,n,c,r=>by
  show bindL kindOf ((p,w)::P.zip vs) m x=_;unfold bindL
  exact LS (i:=i) (i7 q).2 (by simpa using n) (by simpa using c) r
theorem Me{kindOf:Str->Option NameKind}{x:Str}{v:Value}:∀{P:List Str}{vs:List Value}{i:Nat}{m:Str->Option Value},P.Nodup->P[i]?=some x->vs[i]?=some v->kindOf x≠some .local->
 bindC kindOf (P.zip vs) m x=some v
 | [],_,_,_,_,h,_,_=>by simp at h
 |_::_,[],_,_,_,_,h,_=>by simp at h
 |p::P,w::vs,0,m,q,n,c,r=>by
  simp at n c;subst n;subst c;show bindC kindOf ((p,w)::P.zip vs) m p=_;unfold bindC;rw[L5 λv t=>(i7 q).1 (cY t).1,if_neg r];simp
 |p::P,w::vs,i+1,m,q,n,c,r=>by
  show bindC kindOf ((p,w)::P.zip vs) m x=_;unfold bindC
  exact Me (i:=i) (i7 q).2 (by simpa using n) (by simpa using c) r
noncomputable def start(N:List Str)(vs:List V):St:=vs.map some++aP (N.length - vs.length) none
def uz(l:vv)(P:Program)(w:World)(K:aL)(D:Str->Option Value)(F:Heap)(N:List Str)(g:Str)(d:Scope)(f:Addr)(i:Value)(A:Around)(c:List Env)(s:Shared)(H:Hp)(E:XK):Cx where
 prog:=P
 w:=w
 K:=K
 mg:=D
 base:=F
 A:=A.deeper (envOfC g d s.heap.objs.size f i)
 N:=N
 fb:=s
 aE:=H
 env:=envOfC g d s.heap.objs.size f i
 outer:=c
 stack:=envOfC g d s.heap.objs.size f i::c
 ex:=[]
 calm:=true
 fn:=λ_=>true
 pn:=[]
 xe:=λe n=>wpAny (model P w) (A.deeper (envOfC g d s.heap.objs.size f i)) (leaving (envOfC g d s.heap.objs.size f i) e) (λ_ m=>l c H s E e m) (λp m=>l c H s E p m) n
theorem Li{i:Scope}{n:Nat}{x:Str}(h:i.names.lookup x=some .cell):∃c,(cellsFrom n i.names []).lookup x=some c:=by
 have q:=aSk i.names n [] (.inl h)
 exact iR q
theorem Uk{P:Program}{w:World}{K:aL}{O:Value}{A:Around}{m:List Env}{s R:Shared}{H:Hp}{E:XK}{us:List Value}{vs:List V}
 (S:sJ N j d)(Z:A.handled=none)(t:nj P w K D F A m s H)(hl:vs.length=j.length)(r:aq vs us)
 (x:InCallC s s.heap.objs.size (bindL (envOfC g d s.heap.objs.size f O).kindOf (j.zip us) λ_=>none) (cellsFrom (s.heap.objs.size+1) d.names []) (bindC (envOfC g d s.heap.objs.size f O).kindOf (j.zip us) λ_=>none) R):
 Inv (uz l P w K D F N g d f O A m s H E) [] (start N vs) H R:=by
 have av:j.length<=N.length:=by have:=congrArg aS8 S.pre;rw[c8]at this;lia
 obtain⟨M,tk,rfl,X⟩:=x.done;have Q:∀b:Addr,b∉(uz l P w K D F N g d f O A m s H E).ex:=λb z=>absurd (show b∈([]:List Addr)from z) (by simp)
 refine⟨⟨t.mod,S.kind,rfl,rfl,bE _,λy z c M n=>?_,λy G=>?_,λy c _ h=>?_,λ_=>Z,Around.frames_deeper t.frames,.inr ⟨rfl,rfl⟩,λb z=>absurd z (Q b),t.bs,t.uh,λb _ _=>Q b,λb z=>absurd z (Q b),t.ig,t.Af⟩,
  rfl,t.bare,Un.kept X,⟨_,x.toInCall.ns,λi y v M n h3=>?_⟩,λy c h=>⟨_,x.cell y c h⟩,t.bz.fresh (bE _),λy c h=>?_,λp J=>absurd (show p∈([]:List (Addr×Obj))from J) (by simp),t.bz.kept X,?_⟩
 ·exact name_of_addr x.apart (PySem.mem_of_lookup M) (PySem.mem_of_lookup n)
 ·have G:d.names.lookup y=some .cell\/d.names.lookup y=some .free:=G;rcases G with G|G
  ·exact Li G
  ·exact absurd rfl (S.zw _ (PySem.mem_of_lookup G))
 ·exact aSN (x.above y c (PySem.mem_of_lookup h))
 ·have L:i<vs.length:=by
   unfold start at n;by_cases L:i<vs.length
   ·exact L
   ·rw[bD (by simpa using L)]at n;rw[cN]at n;split at n<;>cases n
  have ha:vs[i]?=some v:=by
   unfold start at n;rw[aW (by simpa using L),bA]at n;cases e:vs[i]?with
   |none=>rw[e]at n;cases n
   |some a=>rw[e]at n;cases n;rfl
  obtain⟨u,U,Y⟩:=r.get ha;have J:j[i]?=some y:=by
   rw[<-S.pre,dE (by lia)];exact M
  have I:j.Nodup:=by rw[<-S.pre];exact S.nd.sublist (List.take_sublist _ _)
  refine⟨u,Y,?_⟩
  rcases S.par y (aZ J)with k|k
  ·exact .inl ⟨k,LS I J U k⟩
  ·obtain⟨c,e⟩:=Li (n:=s.heap.objs.size+1) k
   refine .inr ⟨.inl k,c,e,?_⟩
   have q:=x.cell y c e;rw[Me I J U (by show d.names.lookup y≠_;rw[k];decide)]at q
   exact q
 ·exact t.bz.fresh (aSN (x.above y c (PySem.mem_of_lookup h)))
 ·unfold start;show _=N.length;rw[bF,aN,eJ]
  lia
theorem Ip{P:Program}{w:World}{K:aL}{k:Nat}{name:Str}{i:Arguments}{body:List Stmt}{dV kV L Z p ct oc:Value}{an od:Option Addr}
 {gd:Array (Option Value)}{O:Sp}(lk:K.lookup f=some ⟨oc,od,.func (cK name g i body d dV kV L Z an p ct),gd⟩)(jh:dI K p g=true)(S:sJ N j d)
 (len:∀vs H Q E,O vs H Q E->vs.length=j.length)
 (dq:∀(A:Around)(c:List Env)(s:Shared)(H:Hp)(vs:List V)(Q:VK)(E:XK),cm k (A.deeper (envOfC g d s.heap.objs.size f p))->O vs H Q E->
  ∃t,jz (uz l P w K D F N g d f p A c s H E) body t/\t {nx:=λ_ m=>Q .aH m,rt:=Q} (start N vs) H):
 oW P w K D F l (k+1) f (cK name g i body d dV kV L Z an p ct) j O:=by
 refine⟨len,λA c s H args us vs Q E X G hb r iy=>?_⟩
 have hl:=len _ _ _ _ iy;have KX:K.In s.heap:=G.mod.BS.keeps λb o e=>(G.bs b o e).1
 have lim:s.heap.NoLimit:=G.mod.nolimit.keeps λb o e=>(G.bs b o e).1
 have ui:∀y∈j.zip us,d.names.lookup y.1=some .local\/(d.names.lookup y.1=some .cell/\((cellsFrom (s.heap.objs.size+1) d.names []).lookup y.1).isSome=true):=fun⟨n,v⟩ hy=>by
  rcases S.par n (cY hy).1 with q|q
  ·exact .inl q
  ·exact .inr ⟨q,aSk _ _ _ (.inl q)⟩
 refine codeAny_call_function X.depth (KX _ _ lk) rfl S.co S.gen rfl (PySem.W.codeRec_of KX jh) (hb _ _ _ _ ?_)
 refine wpAny_newFunctionEnv_cells S.kind ui λenv he Y x=>?_
 subst he
 refine⟨lim.keeps x.toInCall.keep,codeAny_func ?_⟩
 obtain⟨t,ht,hq⟩:=dq A c s H vs Q E (X.deeper _) iy;have I:Inv (uz l P w K D F N g d f p A c s H E) [] (start N vs) H Y:=Uk S X.hd G hl r x
 refine wpAny_mono (ht [] Y (start N vs) H _ I hq) (λfl R z=>?_) λe R z=>z
 have fin:∀{M:St}{m:Hp}{v:V}{u:Value},Inv (uz l P w K D F N g d f p A c s H E) [] M m R->RelV v u->Q v m->CE c P w H s Q u R:=
  λ{M m v u} J U q=>⟨v,m,J.os,J.bare,J.base,J.bz,U,q⟩
 cases fl with
 |ret u=>
  obtain⟨v,M,m,J,U,q⟩:=z
  exact fin J U q
 |next=>
  obtain⟨M,m,J,q⟩:=z
  exact fin (v:=V.aH) (u:=Value.none) J rfl q
 |brk=>
  obtain⟨_,_,_,q⟩:=z
  exact False.elim q
 |cont=>
  obtain⟨_,_,_,q⟩:=z
  exact False.elim q
section
variable {X:Cx}{x:Str}{p pos:Pos}{e:Expr}{c:List Expr}{t:TA}{id T:String}{r:List V->Hp->VK->Prop}
noncomputable def CY(r:List V->Hp->VK->Prop)(t:TA):TE:=λi H Q=>t i H λvs m=>r vs m Q
theorem GV(M:oT X (.builtin id) r)(J:Gl X x)(G:X.mg x=none)(y:bootBuiltins x=some (.builtin id))(O:PA X (e::c) t)(z:x≠"__name__":=by decide)(R:(x==("__debug__":Str))=false:=by decide)
 (L:starEach (e::c) X.env=(false,eval e X.env)::starEach c X.env:=by rfl)(S:(backTo pos (starEach c X.env)).any (·.1)=false:=by rfl):PE X (.Call (.Name x p) (e::c) [] pos) (CY r t):=by
 intro m s i H Q I h
 refine wpAny_Call_Name_kw (rN I J G y ?_ z R)
 exact aS0 (aG (O pos m s i H _ I h) λus n ⟨vs,Y,U,q,v⟩=>M m n i Y vs us Q U q v) L S
theorem Mh(M:oT X (.type T) r)(J:Gl X x)(G:X.mg x=none)(y:bootBuiltins x=some (.type T))(O:PA X (e::c) t)(z:x≠"__name__":=by decide)(R:(x==("__debug__":Str))=false:=by decide)
 (L:starEach (e::c) X.env=(false,eval e X.env)::starEach c X.env:=by rfl)(S:(backTo pos (starEach c X.env)).any (·.1)=false:=by rfl):PE X (.Call (.Name x p) (e::c) [] pos) (CY r t):=by
 intro m s i H Q I h
 refine wpAny_Call_Name_kw (rN I J G y ?_ z R)
 exact dB (aG (O pos m s i H _ I h) λus n ⟨vs,Y,U,q,v⟩=>M m n i Y vs us Q U q v) L S
end
end L2
namespace HT
open PySem PyProof.Rows
section
open PySem.SeqAt
open PySem.AutoSeq1 (wpAny_loadPart')
open PySem.MeetsSeq PySem.MeetsSeq2 PySem.MeetsSeq3
end
section
variable {prog:Program}{w:World}{A:Around}{E:Value->Shared->Prop}{s:Shared}
noncomputable def ik(n d:Nat):Option Int->Nat
 |none=>d
 |some v=>if v<0 then(v+(n:Int)).toNat else min v.toNat n
theorem Lc(n d:Nat):ik n d none=d:=rfl
end
end HT
namespace L2
open PySem PySem.Spec PyProof.Rows
abbrev TO:=St->Hp->(Option Int->Hp->Prop)->Prop
def PO(X:Cx)(e:Option Expr)(t:TO):Prop:=
 ∀(b:List (Addr×Obj))(s:Shared)(a:St)(H:Hp)(Q:Option Int->Hp->Prop),Inv X b a H s->t a H Q->
  wpAny (model X.prog X.w) X.A (evalPart e X.env) (λu d=>∃o c,Inv X b a c d/\IsPart u o/\Q o c) X.xe s
noncomputable def nk:TO:=λ_ H Q=>Q none H
noncomputable def wd(t:TE):TO:=λa H Q=>t a H λx b=>∃i,x=.int i/\Q (some i) b
theorem oV{b:List Int}:∀{a:List Value},aq (b.map V.int) a->IntsAre a b:=by
 induction b with
 |nil=>intro a r;rw[aY]at r;cases r;exact .nil
 |cons n b ih=>
  intro a r;rw[aK]at r;cases r with
  |cons d c=>
   obtain⟨t,e⟩:=d;subst e
   exact .cons n t (ih c)
section
variable {X:Cx}{e:Expr}{c:TE}{lo a:Option Expr}{d f:TO}{pos g:Pos}
theorem Rr:PO X none nk:=by
 intro i s b H Q I h;rw[evalPart_none]
 exact wpAny_pure ⟨none,H,I,.none,h⟩
theorem GI(h:PE X e c):PO X (some e) (wd c):=by
 intro n s b H Q I m;rw[evalPart_some]
 refine aG (h n s b H _ I m) λu r j=>?_
 obtain⟨x,p,o,k,l⟩:=j;obtain⟨i,rfl,q⟩:=l;obtain⟨t,rfl⟩:=k
 exact⟨some i,p,o,.int i t,q⟩
def MJ(X:Cx)(r:V->Option Int->Option Int->Hp->VK->Prop):Prop:=
 ∀(i:List (Addr×Obj))(s:Shared)(b:St)(H:Hp)(x:V)(v vl h:Value)(lo a:Option Int)(sl:Addr)(Q:VK),Inv X i b H s->RelV x v->s.heap.IsSliceOf sl vl h .none->IsPart vl lo->IsPart h a->r x lo a H Q->
  ∃T id,typeLookup (.type T) "__getitem__"=pure (some (.builtin id))/\s.TypeIs v T/\wpAny (model X.prog X.w) X.A (getItem v (.ref sl)) (EP X i b Q) X.xe s
noncomputable def Hg(r:V->Option Int->Option Int->Hp->VK->Prop)(c:TE)(d f:TO):TE:=λb H Q=>c b H λx j=>d b j λl i=>f b i λu h=>r x l u h Q
theorem Tr{r:V->Option Int->Option Int->Hp->VK->Prop}(G:MJ X r)(L:PE X e c)(J:PO X lo d)(D:PO X a f):PE X (.Subscript e (.Slice lo a none g) pos) (Hg r c d f):=by
 intro k s j H Q I h
 refine Subscript_ (aG (L k s j H _ I h) λv t n=>?_)
 obtain⟨x,U,R,w,A⟩:=n
 refine wpAny_Slice (aG (J k t j U _ R A) λvl p ⟨l,S,P,C,z⟩=>aG (D k p j S _ P z) λm i n=>?_)
 obtain⟨u,o,O,B,y⟩:=n;rw[evalPart_none]
 refine wpAny_pure ?_
 have N:Inv X k j o {i with heap:=i.heap.push {cls:=.type "slice",data:=.fields #[vl,m,.none]}}:=O.kept (t':=i.toks) λb ob q=>Heap.get?_push_of_some _ q
 obtain⟨T,id,M,F,K⟩:=G k {i with heap:=i.heap.push {cls:=.type "slice",data:=.fields #[vl,m,.none]}} j o x v vl m l u i.heap.objs.size Q N w (Heap.IsSliceOf.new ..) C B y;show wpAny (model X.prog X.w) X.A (subscriptTail e (.Slice lo a none g) v (.ref i.heap.objs.size)) (EP X k j Q) X.xe {i with heap:=i.heap.push {cls:=.type "slice",data:=.fields #[vl,m,.none]}}
 exact tail_any (ops:=[.ref i.heap.objs.size,v]) F M K (by with_unfolding_all rfl)
def AX(xs:List V)(lo a:Option Int):List V:=(xs.drop (HT.ik xs.length 0 lo)).take (HT.ik xs.length xs.length a - HT.ik xs.length 0 lo)
theorem Ww(xs:List V)(lo a:Option Int):(AX xs lo a).length<=xs.length:=by
 unfold AX;rw[c8,aSe]
 lia
end
variable{i:Int}{j:Nat}{α:Type}
noncomputable def jm(n:Nat)(i:Int):Option Nat:=if 0<=i then(if i<n then some i.toNat else none)else if -(n:Int)<=i then some (i+n).toNat else none
def dh{α:Type}(xs:List α)(i:Int):Option α:=(jm xs.length i).bind λj=>xs[j]?
theorem JF{n:Nat}(h:jm n i=some j):seqIndex? i n=some j/\j<n/\ -(n:Int)<=i/\i<n:=by
 unfold jm at h;by_cases b:0<=i
 ·rw[if_pos b]at h;by_cases a:i<n
  ·rw[if_pos a]at h;have e:i.toNat=j:=cE.inj h
   exact⟨by rw[seqIndex_of b a,e],by lia,by lia,a⟩
  ·rw[if_neg a]at h;cases h
 ·rw[if_neg b]at h;by_cases a: -(n:Int)<=i
  ·rw[if_pos a]at h;have e:(i+n).toNat=j:=cE.inj h
   exact⟨by rw[seqIndex_neg (by lia) a,e],by lia,a,by lia⟩
  ·rw[if_neg a]at h;cases h
theorem yE{xs:List α}{v:α}(h:dh xs i=some v):∃j,seqIndex? i xs.length=some j/\xs[j]?=some v/\j<xs.length/\ -(xs.length:Int)<=i/\i<xs.length:=by
 unfold dh at h;cases e:jm xs.length i with
 |none=>rw[e]at h;cases h
 |some j=>
  rw[e]at h;obtain⟨d,c,b,a⟩:=JF e
  exact⟨j,d,h,c,b,a⟩
theorem JT{xs:List α}{v:α}(h:xs[j]?=some v):dh xs (j:Int)=some v:=by
 have a:j<xs.length:=(fA h).1;have e:jm xs.length (j:Int)=some j:=by
  unfold jm;rw[if_pos (by lia),if_pos (by lia)];simp
 unfold dh;rw[e];exact h
def n7(b:Expr):Prop:=∀o i,subscripted b false o i=operate [o,i] (getItem o i)
def vk(X:Cx)(r:R2):Prop:=
 ∀(value slice:Expr)(b:List (Addr×Obj))(s:Shared)(a:St)(H:Hp)(x y:V)(v u:Value)(Q:VK),Inv X b a H s->RelV x v->RelV y u->r x y H Q->
  subscripted slice false v u=operate [v,u] (getItem v u)->wpAny (model X.prog X.w) X.A (subscriptTail value slice v u) (EP X b a Q) X.xe s
def G6(X:Cx)(id:String)(r:V->List V->Hp->VK->Prop):Prop:=
 ∀(c:List (Addr×Obj))(s:Shared)(a:St)(H:Hp)(x:V)(xs:List V)(v:Value)(b:List Value)(Q:VK),Inv X c a H s->RelV x v->aq xs b->r x xs H Q->
  wpAny (model X.prog X.w) X.A (call (.builtin id) (v::b)) (EP X c a Q) X.xe s
section
variable {X:Cx}{a b:Expr}{d g:TE}{pos:Pos}
variable{r:R2}{B:List (Addr×Obj)}{m:St}{H:Hp}{s:Shared}{p:Addr}{xs:List V}{x:V}{v:Value}
theorem vk.or{k:R2}(h:vk X r)(n:vk X k):vk X (λx y H Q=>r x y H Q\/k x y H Q):=by
 intro value slice B s m H x y v u Q I f c q l;rcases q with q|q
 ·exact h value slice B s m H x y v u Q I f c q l
 ·exact n value slice B s m H x y v u Q I f c q l
theorem NA(n:vk X r)(t:PE X a d)(o:PE X b g)(l:n7 b):PE X (.Subscript a b pos) (zm r d g):=by
 intro B s m H Q I h
 exact Subscript_ (E2 t o I h λv u c x y z w k f q=>n a b B c m z x y v u Q w k f q (l _ _))
def Dm(K:aL):R2:=λx y H Q=>∃p xs i v,x=.ref p/\y=.int i/\di K H p xs/\dh xs i=some v/\Q v H
def BE(K:aL):R2:=λx y H Q=>∃p xs i v,x=.ref p/\y=.int i/\je K H p xs/\dh xs i=some v/\Q v H
def BF:R2:=λx y H Q=>∃z i c,x=.str z/\y=.int i/\z.length<=sizeLine/\dh z.cps.toList i=some c/\Q (.str ⟨#[c]⟩) H
theorem Q1:vk X (Dm X.K):=by
 intro value slice B s m H x y v u Q I D C h n;obtain⟨p,xs,i,z,rfl,rfl,F,J,q⟩:=h;cases D;obtain⟨t,rfl⟩:=C;obtain⟨k,r,f,O⟩:=I.list F;obtain⟨j,c,M,R,L,K⟩:=yE J;obtain⟨w,e,N⟩:=r.get M;have G:=r.length;have P:=gi;have fin:EP X B m Q w s:=⟨z,H,I,N,q⟩;by_cases o:0<=i
 ·have l:i.toNat=j:=by
   rw[seqIndex_of o K]at c
   exact cE.inj c
  exact item_listR f.isList o (by lia) (by rw[l];simpa using e) fin n
 ·have l:(i+(k.toArray.size:Int)).toNat=j:=by
   rw[seqIndex_neg (by lia) L]at c;rw[bB,<-G]
   exact cE.inj c
  exact subscriptTail_builtinR (x:=w) f.isList.typeIs slot_list_getitem.lookup
   (wpAny_getItem_list_neg (Q:=λr A=>r=w/\EP X B m Q r A) f.isList (by lia) (by rw[bB]<;>lia) (by lia) (by rw[l];simpa using e) ⟨rfl,fin⟩) n
theorem OU:vk X (BE X.K):=by
 intro value slice B s m H x y v u Q I l k h o;obtain⟨p,xs,i,z,rfl,rfl,e,C,q⟩:=h;cases l;obtain⟨t,rfl⟩:=k;obtain⟨n,r,c,K⟩:=I.tuple e;obtain⟨j,F,D,O,N,M⟩:=yE C;obtain⟨w,J,G⟩:=r.get D;have A:=r.length;have L:=gi;have fin:EP X B m Q w s:=⟨z,H,I,G,q⟩
 exact subscriptTail_builtinR (x:=w) c.typeIs slot_tuple_getitem.lookup
  (getItem_tuple (j:=j) (Q:=λr f=>r=w/\EP X B m Q r f) c (by lia) (by lia) (by rw[bB,<-A];exact F) (by simpa using J) ⟨rfl,fin⟩) o
theorem OM:vk X BF:=by
 intro value slice B s m H x y v u Q I l k h n;obtain⟨z,i,c,rfl,rfl,J,w,q⟩:=h;obtain⟨t,rfl⟩:=l;obtain⟨G,rfl⟩:=k;obtain⟨j,f,C,L,A,e⟩:=yE w;have o:z.cps.toList.length=z.length:=by simp[Str.length]
 rw[o]at f A e;have K:=gi
 exact tail_any (typeIs_str s z t) slot_str_getitem.lookup (getItem_str (c:=c) (by
  have F:decide (i< -(2^63:Int))=false:=decide_eq_false (by lia);have D:decide (i>=2^63)=false:=decide_eq_false (by lia);rw[F,D,Bool.or_false]) (by rw[f];simpa using C) ⟨.str ⟨#[c]⟩,H,I.tok _,⟨_,rfl⟩,q⟩) n
def Hk(K:aL):R2:=λx y H Q=>Dm K x y H Q\/BE K x y H Q\/BF x y H Q
theorem O5:vk X (Hk X.K):=Q1.or (OU.or OM)
theorem VH(c:List Value)(n j:Nat)(u:Value):Obj.mapSeq (·.setIfInBounds j u) {cls:=.type "list",data:=.seq c.toArray n}={cls:=.type "list",data:=.seq (c.set j u).toArray n}:=by
 simp[Obj.mapSeq]
theorem Inv.lst(I:Inv X B m H s)(h:H p=some (.lst xs)):
 ∃(its:List Value)(n:Nat),aq xs its/\s.heap.get? p=some {cls:=.type "list",data:=.seq its.toArray n}/\xs.length<=sizeLine:=by
 obtain⟨z,its,n,r,e⟩:=I.bz p _ h
 exact⟨its,n,r,e,z⟩
theorem Inv.Aa{l:List V}{k c:List Value}{n o:Nat}{f:Obj->Obj}(I:Inv X B m H s)(h:H p=some (.lst xs))
 (z:s.heap.get? p=some {cls:=.type "list",data:=.seq k.toArray n})(w:f {cls:=.type "list",data:=.seq k.toArray n}={cls:=.type "list",data:=.seq c.toArray o})(r:aq l c)(y:l.length<=sizeLine)(t:Nat):
 Inv X B m (upd H p (.lst l)) {s with heap:=s.heap.update p f,toks:=t}:=by
 have e:(s.heap.update p f).get? p=some {cls:=.type "list",data:=.seq c.toArray o}:=by
  rw[Heap.get?_update_self f z (by rw[w]<;>rfl),w]
 refine I.write (x:=p) (e:=p) (by rw[h];trivial) (.inl rfl) (λb u A q=>(Heap.get?_update_other _ _ (Ne.symm A)).trans q) ⟨_,e⟩ ?_
 exact⟨y,c,o,r,e⟩
def Fi:V->V->V->Hp->(Hp->Prop)->Prop:=λo i v H Q=>∃p xs k j,o=.ref p/\i=.int k/\H p=some (.lst xs)/\jm xs.length k=some j/\Q (upd H p (.lst (xs.set j v)))
theorem KI:ES X Fi:=by
 intro B s m H o i v M N u Q I G J F h;obtain⟨p,xs,k,j,rfl,rfl,z,L,q⟩:=h;cases G;obtain⟨t,rfl⟩:=J;obtain⟨c,n,r,l,K⟩:=I.lst z;obtain⟨f,P,A,e⟩:=JF L;have w:=r.length;have O:=gi;have D:Inv X B m (upd H p (.lst (xs.set j v))) {s with heap:=s.heap.update p (Obj.mapSeq (·.setIfInBounds j u))}:=
  I.Aa z l (VH c n j u) (r.set F j) (by rw[cA];exact K) s.toks
 by_cases C:0<=k
 ·have y:k.toNat=j:=by
   rw[seqIndex_of C e]at f
   exact cE.inj f
  exact PySem.W.ki_setAt l C (by lia) (by rw[bB,<-w];exact e) (by rw[y];exact⟨_,D,q⟩)
 ·have y:(k+(c.toArray.size:Int)).toNat=j:=by
   rw[seqIndex_neg (by lia) A]at f;rw[bB,<-w]
   exact cE.inj f
  exact PySem.W.ki_setBack l (by lia) (by rw[bB,<-w];exact A) (by lia) (by rw[y];exact⟨_,D,q⟩)
theorem WG(lo c:Option Int)(n:Nat):(sliceBounds lo c none n).1=((HT.ik n 0 lo:Nat):Int)/\(sliceBounds lo c none n).2.1=((HT.ik n n c:Nat):Int)/\(sliceBounds lo c none n).2.2=1:=by
 refine⟨?_,?_,rfl⟩
 ·cases lo with
  |none=>simp[sliceBounds,HT.ik]
  |some i=>
   simp only[sliceBounds,HT.ik,aS1,show(1:Int)>0 by decide,if_true];by_cases h:i<0
   ·simp only[h,if_true]<;>lia
   ·simp only[h,if_false]<;>lia
 ·cases c with
  |none=>simp[sliceBounds,HT.ik]
  |some i=>
   simp only[sliceBounds,HT.ik,aS1,show(1:Int)>0 by decide,if_true];by_cases h:i<0
   ·simp only[h,if_true]<;>lia
   ·simp only[h,if_false]<;>lia
theorem WV(c:List Value)(lo f:Option Int):slicePick c.toArray lo f none=((c.drop (HT.ik c.length 0 lo)).take (HT.ik c.length c.length f - HT.ik c.length 0 lo)).toArray:=by
 obtain⟨l,k,h⟩:=WG lo f c.toArray.size;unfold slicePick;rw[l,k,h];simp only[sliceRange_one,pick_run,bB]<;>rfl
def BC(K:aL):V->Option Int->Option Int->Hp->VK->Prop:=λx lo c H Q=>∃a xs,x=.ref a/\di K H a xs/\∀p,H p=none->Q (.ref p) (upd H p (.lst (AX xs lo c)))
theorem QI:MJ X (BC X.K):=by
 intro B s m H x v vl z lo c sl Q I k w n l h;obtain⟨a,xs,rfl,u,q⟩:=h;cases k;obtain⟨o,r,f,t⟩:=I.list u;have y:=r.length
 refine⟨"list",_,slot_list_getitem.lookup,f.isList.typeIs,?_⟩
 refine wpAny_getItem_list_slice f.isList w n l .none (by simp) ?_ (by rw[bB]<;>lia)
 rw[WV,<-y]
 refine⟨.ref s.heap.objs.size,_,I.laid (t':=s.toks) (o:=.lst (AX xs lo c)) (λb ob q=>Heap.get?_push_of_some _ q) (bE _) ?_,rfl,q _ (I.bz.fresh (bE _))⟩
 exact⟨bV (Ww xs lo c) t,_,0,(r.drop (HT.ik xs.length 0 lo)).take (HT.ik xs.length xs.length c - HT.ik xs.length 0 lo),Heap.get?_push_size _ rfl⟩
noncomputable def ye:V->Bool
 | .aH=>true
 | .bl _=>true
 | .int _=>true
 | .str _=>true
 |_=>false
noncomputable def Na:V->V->Bool
 | .aH,.aH=>true
 | .bl a,.bl b=>a==b
 | .bl a,.int b=>(if a then 1 else 0)==b
 | .int a,.bl b=>a==(if b then 1 else 0)
 | .int a,.int b=>a==b
 | .str a,.str b=>a==b
 |_,_=>false
theorem NO{A:Around}{y:V}{u:Value}(h:RelV y u)(c:RelV x v)(l:ye y=true)(k:ye x=true):SeqAt.EqAt A s u v (Na y x):=by
 cases y with
 |aH=>
  cases h;cases x with
  |aH=>cases c;exact SeqAt.EqAt.same _
  |bl b=>cases c;exact SeqAt.EqAt.none_bool b
  |int b=>obtain⟨t,rfl⟩:=c;exact SeqAt.EqAt.none_int b t
  |str b=>obtain⟨t,rfl⟩:=c;exact SeqAt.EqAt.none_str b t
  |_=>exact absurd (show false=true from k) bJ
 |bl a=>
  cases h;cases x with
  |aH=>cases c;exact SeqAt.EqAt.bool_none a
  |bl b=>cases c;exact SeqAt.EqAt.bool_bool a b
  |int b=>obtain⟨t,rfl⟩:=c;exact SeqAt.EqAt.bool_int a b t
  |str b=>obtain⟨t,rfl⟩:=c;exact SeqAt.EqAt.bool_str a b t
  |_=>exact absurd (show false=true from k) bJ
 |int a=>
  obtain⟨f,rfl⟩:=h;cases x with
  |aH=>cases c;exact SeqAt.EqAt.int_none a f
  |bl b=>cases c;exact SeqAt.EqAt.int_bool a f b
  |int b=>obtain⟨t,rfl⟩:=c;exact SeqAt.EqAt.int_int a f b t
  |str b=>obtain⟨t,rfl⟩:=c;exact SeqAt.EqAt.int_str a f b t
  |_=>exact absurd (show false=true from k) bJ
 |str a=>
  obtain⟨f,rfl⟩:=h;cases x with
  |aH=>cases c;exact SeqAt.EqAt.str_none a f
  |bl b=>cases c;exact SeqAt.EqAt.str_bool a f b
  |int b=>obtain⟨t,rfl⟩:=c;exact SeqAt.EqAt.str_int a f b t
  |str b=>obtain⟨t,rfl⟩:=c;exact SeqAt.EqAt.str_str a f b t
  |_=>exact absurd (show false=true from k) bJ
 |_=>exact absurd (show false=true from l) bJ
theorem WN:oT X (.builtin "len") (λxs H Q=>∃p c,xs=[.ref p]/\(di X.K H p c\/je X.K H p c)/\Q (.int c.length) H):=by
 intro B s m H xs y Q I r h;obtain⟨p,c,rfl,f,q⟩:=h;obtain⟨u,rfl,t⟩:=vals1 r;cases t;have z:=gi;rcases f with f|f
 ·obtain⟨n,k,l,w⟩:=I.list f;have o:=k.length
  exact Calls.call_len_list l.isList (by simp only[bB]<;>lia) ⟨.int c.length,H,I.tok _,⟨s.toks+1,by rw[bB,o]⟩,q⟩
 ·obtain⟨n,k,l,w⟩:=I.tuple f;have o:=k.length
  exact len_tuple l (by simp only[bB]<;>lia) ⟨.int c.length,H,I.tok _,⟨s.toks+1,by rw[bB,o]⟩,q⟩
theorem Wy:oT X (.type "list") (λxs H Q=>∃p k,xs=[.ref p]/\(di X.K H p k\/je X.K H p k)/\∀l,H l=none->Q (.ref l) (upd H l (.lst k))):=by
 intro B s m H xs L Q I r h;obtain⟨p,k,rfl,z,q⟩:=h;obtain⟨u,rfl,J⟩:=vals1 r;cases J;have fin:∀(c:List Value),aq k c->k.length<=sizeLine->∀(f:Heap)(w:Nat),(∀b G,s.heap.get? b=some G->f.get? b=some G)->
  f.get? s.heap.objs.size=some {cls:=.type "list",dict:=none,data:=.seq c.toArray w,slots:=#[]}->EP X B m Q (.ref s.heap.objs.size) {s with heap:=f}:=λc t y f w kp e=>
  ⟨.ref s.heap.objs.size,_,I.laid (t':=s.toks) kp (bE _) (show kW X.prog X.w _ f _ (.lst k)from⟨y,c,w,t,e⟩),rfl,q _ (I.bz.fresh (bE _))⟩
 rcases z with z|z
 ·obtain⟨c,t,A,y⟩:=I.list z;have K:=t.length;obtain⟨o,C,F,n,D⟩:=A.isList
  exact call_list_seq p (.inl rfl) C F D (λf w kp e=>fin c t y f w kp e) (by simp only[bB]<;>lia)
 ·obtain⟨c,t,A,y⟩:=I.tuple z;have K:=t.length;obtain⟨o,C,F,n,D⟩:=A
  exact call_list_seq p (.inr rfl) C F D (λf w kp e=>fin c t y f w kp e) (by simp only[bB]<;>lia)
def Hf(K:aL)(T:String)(x:V)(H:Hp):Prop:=match x with
 | .str _=>T="str"
 | .int _=>T="int"
 | .ref p=>(T="list"/\∃xs,di K H p xs)\/(T="tuple"/\∃o,K.lookup p=some o/\o.cls=.type "tuple"/\o.dict=none)\/
  (T="dict"/\((∃c,H p=some (.dK c))\/∃c,H p=some (.dT c)))\/(T="set"/\∃S n,H p=some (.set S n))
 |_=>False
theorem Pu{T:String}(I:Inv X B m H s)(r:RelV x v)(h:Hf X.K T x H):
 s.TypeIs v T/\∀a,v=.ref a->∃ob,s.heap.get? a=some ob/\ob.dict=none:=by
 cases x with
 |str z=>
  obtain⟨t,rfl⟩:=r;cases (show T="str" from h)
  exact⟨typeIs_str s z t,λ_ e=>nomatch e⟩
 |int i=>
  obtain⟨t,rfl⟩:=r;cases (show T="int" from h)
  exact⟨typeIs_int s i t,λ_ e=>nomatch e⟩
 |ref p=>
  cases r;rcases h with⟨rfl,xs,y⟩| ⟨rfl,o,f,A,l⟩| ⟨rfl,f⟩| ⟨rfl,S,n,f⟩
  ·obtain⟨w,_,u,_⟩:=I.list y
   refine⟨u.isList.typeIs,λa e=>?_⟩
   cases e;obtain⟨o,n,e,c,l,_⟩:=u
   exact⟨o,e,l⟩
  ·refine⟨⟨o,I.jk p o f,A⟩,λa e=>?_⟩
   cases e
   exact⟨o,I.jk _ o f,l⟩
  ·have z:∃o,s.heap.get? p=some o/\o.ExactDict:=by
    rcases f with⟨k,f⟩| ⟨k,f⟩
    ·obtain⟨_,_,_,_,o,_,_,e,ex,_⟩:=I.bz p _ f
     exact⟨o,e,ex⟩
    ·obtain⟨_,_,_,_,o,_,_,e,ex,_⟩:=I.bz p _ f
     exact⟨o,e,ex⟩
   obtain⟨o,e,ex⟩:=z
   refine⟨⟨o,e,ex.1⟩,λa q=>?_⟩
   cases q
   exact⟨o,e,ex.2.1⟩
  ·obtain⟨o,_,_,_,e,ex,_⟩:=I.bz p _ f
   refine⟨⟨o,e,ex.1⟩,λa q=>?_⟩
   cases q
   exact⟨o,e,ex.2.1⟩
 |_=>exact False.elim h
noncomputable def Hi(K:aL)(T:String)(r:V->List V->Hp->VK->Prop)(f:TE)(t:TA):TE:=λm H Q=>f m H λx c=>Hf K T x c/\t m c λxs h=>r x xs h Q
variable {o e:Expr}{c:List Expr}{l:TE}{t:TA}{name:Str}{n f:Pos}{T id:String}{r:V->List V->Hp->VK->Prop}
theorem Ig(K:PlainAttrs T)(slot:Slot T name id)(k:typeOf (.builtin id)=pure (.type "method_descriptor"))(O:G6 X id r)(N:PE X o l)(P:PA X (e::c) t)
 (U:attributeBase o name X.env (eval o X.env)=eval o X.env:=by rfl)
 (L:((backTo f (starEach (e::c) X.env)).all (λx=> !x.1)&&(backToKw f (keywordEach [] X.env)).all (λx=>x.1.isSome)
  &&decide ((e::c).length+([]:List Keyword).length+(if([]:List Keyword).isEmpty then 0 else 1)<30))=true:=by rfl)
 (Y:(n.endLine==f.line)=true:=by rfl)(M:starEach (e::c) X.env=(false,eval e X.env)::starEach c X.env:=by rfl)(Z:(backTo f (starEach c X.env)).any (·.1)=false:=by rfl):
 PE X (.Call (.Attribute o name n) (e::c) [] f) (Hi X.K T r l t):=by
 intro B s m H Q I h
 refine wpAny_Call_method_late U L Y rfl (aG (N B s m H _ I h) λv D y=>?_)
 obtain⟨x,H1,w,q,A,J⟩:=y;obtain⟨S,R⟩:=Pu w q A
 refine⟨T,id,K,slot,k,S,R,?_⟩
 have u:=P f B D m H1 _ w J;rw[M]at u|-
 refine Calls.callWith_builtin (by show(false||(backTo f (starEach c X.env)).any (·.1))=false;rw[Z]<;>rfl) (Calls.evalArgs_plain ?_)
 exact aG u λz C ⟨vs,H2,E,F,G⟩=>O B C m H2 x vs v z Q E q F G
end
def W7(X:Cx)(id:String)(r:V->List V->Hp->VK->Prop):Prop:=
 ∀(c:List (Addr×Obj))(s:Shared)(a:St)(H:Hp)(x:V)(xs:List V)(v:Value)(b:List Value)(Q:VK),Inv X c a H s->RelV x v->aq xs b->r x xs H Q->
  wpAny (model X.prog X.w) X.A (call (.builtin id) (v::b)) (EP X c a Q) X.xe s
theorem aq.one:∀{x:V}{a:List Value},aq [x] a->∃u,a=[u]/\RelV x u
 |_,_,.cons r .nil=>⟨_,rfl,r⟩
theorem aq.two{x y:V}{a:List Value}(h:aq [x,y] a):∃u v,a=[u,v]/\RelV x u/\RelV y v:=by
 cases h with
 |cons r h=>
  cases h with
  |cons q h=>
   cases h
   exact⟨_,_,rfl,r,q⟩
section
variable {X:Cx}{a:List (Addr×Obj)}{c:St}{H:Hp}{s:Shared}{l b:Addr}{xs d g:List V}
variable{its:List Value}{t':Nat}
theorem Inv.BP{its':List Value}{n:Nat}{f:Array Value->Array Value}(I:Inv X a c H s)(r:H l=some (.lst xs))
 (e:s.heap.get? l=some {cls:=.type "list",data:=.seq its.toArray n})(o:f its.toArray=its'.toArray)(k:aq d its')(h:d.length<=sizeLine):
 Inv X a c (upd H l (.lst d)) {s with heap:=s.heap.update l (Obj.mapSeq f),toks:=t'}:=by
 have q:=PySem.IsL.update e f;rw[o]at q
 refine I.write (x:=l) (e:=l) (by rw[r];exact trivial) (.inl rfl) (λt u p m=>(Heap.get?_update_other s.heap (Obj.mapSeq f) (Ne.symm p)).trans m) ⟨_,q⟩ ?_
 exact⟨h,its',_,k,q⟩
theorem Inv.BQ(I:Inv X a c H s)(h:aq d its)(f:d.length<=sizeLine):
 Inv X a c (upd H s.heap.objs.size (.lst d)) {s with heap:=s.heap.push {cls:=.type "list",data:=.seq its.toArray},toks:=t'}:=
 I.laid (λ_ _ q=>Heap.get?_push_of_some _ q) (bE _) ⟨f,its,0,h,Heap.get?_push_size _ rfl⟩
theorem Inv.fresh(I:Inv X a c H s):H s.heap.objs.size=none:=I.bz.fresh (bE _)
theorem Inv.BO(I:Inv X a c H s)(f:H l=some (.lst xs)):xs.length<=sizeLine/\∃(its:List Value)(n:Nat),aq xs its/\xs.length=its.length/\s.heap.get? l=some {cls:=.type "list",data:=.seq its.toArray n}:=by
 obtain⟨z,its,n,r,e⟩:=I.bz l _ f
 exact⟨z,its,n,r,r.length,e⟩
end
section
variable {X:Cx}
def uc:V->List V->Hp->VK->Prop:=λx vs H Q=>∃l xs y,x=.ref l/\vs=[y]/\H l=some (.lst xs)/\xs.length<sizeLine/\Q .aH (upd H l (.lst (xs++[y])))
theorem Mp:W7 X "list.append" uc:=by
 intro o s f H x vs v g Q I b c h;obtain⟨l,xs,y,rfl,rfl,a,k,q⟩:=h;cases b;obtain⟨u,rfl,d⟩:=c.one;obtain⟨z,its,n,r,m,e⟩:=I.BO a
 refine call_meets F.slot_list_append ⟨_,e,rfl⟩ F.entry_list_append (F.args_list_append_2 _ _) (PySem.list_append l its.toArray n u (by rw[bB];lia)) ⟨e,?_⟩
 refine⟨.aH,_,I.BP (its':=its++[u]) a e (by simp) (r.append (.cons d .nil)) ?_,rfl,q⟩
 rw[bF,aSs]
 lia
end
section
variable {a:Program}{w:World}{A:Around}{E:Value->Shared->Prop}{s:Shared}
end
section
variable {X:Cx}
end
end L2
namespace Hd
open PySem PySem.W PySem.Calls PyProof.Rows
variable{P:Params}{h:Heap}
theorem xH:∀(c:List Int)(vs:List Value),WellAll P h vs (c.map WData.int)->IntsAre vs c:=by
 intro c;induction c with
 |nil=>
  intro vs w;rw[aY]at w;cases w
  exact .nil
 |cons n c ih=>
  intro vs w;rw[aK]at w;cases w with
  |cons a b=>
   cases a
   exact .cons _ _ (ih _ b)
theorem T7{l:OpenLaw}{n:Nat}(v:l.most=some n){args:List WData}{c:List Value}
 (j:l.row.toRowW.claim.pre args=true)(t:WellAll P h c args):
 ∃a vs b,c=[Value.ref a]/\args=[WData.list (b.map WData.int)]/\h.get? a=some {cls:=.type "list",data:=.seq vs.toArray}/\IntsAre vs b/\b.length<=n:=by
 have i:WShape.hasAll [] args [.list .int]=true:=(pre_splitW j).1;have k:l.pre.holds [] {args:=args}=true:=(pre_splitW j).2;obtain⟨d,r,rfl,y,x⟩:=hasAllW_cons i;obtain rfl:=hasAllW_nil x;obtain⟨xs,rfl,w⟩:=hasW_list y;obtain⟨b,rfl⟩:=items_int w;have z:b.length<=n:=by
  unfold OpenLaw.pre at k;have g:(WTm.not (.lt (.lit (.int (n:Int))) (.len (.arg 0)))).holds [] {args:=[.list (b.map .int)]}=true:=by
   have g:=(holds_andW k).1;rw[v]at g
   exact g
  have f:=condW_of g (w_not (w_lt w_lit (w_len_list (w_arg rfl))));rw[aN]at f
  refine aRM λq=>?_
  have p:(n:Int)<((b.length:Nat):Int):=by lia
  first
   | (rw[decide_eq_true p]at f;exact absurd f (by decide))
   | (simp at f;lia)
 cases t with
 |cons o m=>
  cases m;cases o with
  |list u s=>exact⟨_,_,b,rfl,rfl,u,xH b _ s,z⟩
theorem UA(l:OpenLaw)(args:List WData):l.row.toRowW.claim.post args (.bool true) args=true:=
 postW_of (r:=l.row.toRowW) (X:=(true==true))
  (show WShape.has [] (.bool true) .bool=true by first|rfl|decide|simp[WShape.has,WShape.arms,WShape.armsAll])
  (show(WTm.eq .res (.lit (.bool true))).value [] {args:=args,res:=some (.bool true),after:=args}=some (.bool (true==true))from w_eq_bool (w_res rfl) w_lit) rfl
section
variable {a:Program}{w:World}{A:Around}{E:Value->Shared->Prop}{s:Shared}{K:Frag}
end
end Hd
namespace L2
open PySem PySem.Spec PyProof.Rows
theorem qA:∀{vs:List Value}{a:List Int},IntsAre vs a->aq (a.map V.int) vs
 |_,_,.nil=>.nil
 |_,_,.cons n t h=>.cons ⟨t,rfl⟩ (qA h)
def AF(H:Hp):Prop:=∀b,H b=none\/∃o xs,H b=some (.fo o (.lst xs))
theorem SZ{P:Program}{w:World}{K:aL}{t J:Str->Option Value}{CX:vv}{k:Nat}{O a:Addr}{fd:FuncData}{x:Str}{R:Sp}{c:Shared}{vs:List Value}{p:List Int}
 (KX:K.In c.heap)(E:c.heap.Ns mainGlobals t)(f:c.heap.Ns builtinsNs J)(M:∀x:Str,x≠"__name__"->J x=bootBuiltins x)(gj:c.heap.NoLimit)(hg:c.gens=#[])
 (I:c.heap.get? a=some {cls:=.type "list",data:=.seq vs.toArray})(X:IntsAre vs p)(U:p.length<=sizeLine)(hr:cm k callerA)
 (F:∀i:Heap,K.In i->i.Ns mainGlobals t->oW P w K t i CX k O fd [x] R)(uv:∀(s:Shared)(u:Value),BindsTo s fd ⟨[u],[]⟩ [(x,u)])
 (iy:∀H:Hp,AF H->di K H a (p.map V.int)->R [.ref a] H (λv _=>v=.bl true) λ_ _ _=>False)
 (N:∀H e g,CX [] H c (λ_ _ _=>False) e g->False):
 codeAny (model P w) callerA (.call (.ref O) ⟨[.ref a],[]⟩) (λr g=>r=.ok (.ret (.bool true))/\OldK c.heap g.heap/\g.os=c.os/\AllBare g.gens) c:=by
 have S:=qA X;have yd:=X.length;have j:∀H:Hp,AF H->di K H a (p.map V.int)->gh P w H c.heap->(∀b,H b≠none->b=a)->(H a≠none->K.lookup a=none)->
  codeAny (model P w) callerA (.call (.ref O) ⟨[.ref a],[]⟩) (λr g=>r=.ok (.ret (.bool true))/\OldK c.heap g.heap/\g.os=c.os/\AllBare g.gens) c:=by
  intro H Y hS y Z hK;have base_of:∀{b:Addr}{o:Obj},c.heap.get? b=some o->H b=none->(uq c.heap H).get? b=some o:=λe n=>Tp e n
  have sw:∀{b:Addr}{o:Obj}{B:Array DictEntry}{C:Nat},c.heap.get? b=some o->o.data=.dict B C->H b=none:=λ{b o B C} e d=>by
   cases q:H b with
   |none=>rfl
   |some u=>
    have Q:b=a:=Z b (by rw[q];simp);subst Q;rw[I]at e;cases e;have d':Data.seq vs.toArray _=Data.dict B C:=d;cases d'
  have G:∀{b:Addr}{m:Str->Option Value},c.heap.Ns b m->(uq c.heap H).Ns b m:=λ{b m} ⟨o,B,C,e,d,r⟩=>⟨o,B,C,base_of e (sw e d),d,r⟩
  have A:K.In (uq c.heap H):=λb o e=>base_of (KX b o e) (by
   cases q:H b with
   |none=>rfl
   |some u=>
    have Q:b=a:=Z b (by rw[q];simp);subst Q;rw[hK (by rw[q];simp)]at e;cases e)
  have hM:Mod K t (uq c.heap H):=⟨A,G E,⟨J,G f,M⟩,let ⟨mc,h1,h2⟩:=gj;⟨mc,G h1,h2⟩⟩;have e0:nj P w K t (uq c.heap H) callerA [] c H:=⟨rfl,hM,λb o e=>Su e,aTp (UQ _ _),trivial,λb f=>absurd (show b∈([]:List Addr)from f) (by simp),y,.of_eq hg⟩
  refine codeAny_mono ((F _ A (G E)).run callerA [] c H ⟨[.ref a],[]⟩ [.ref a] [.ref a] _ _ hr e0 (uv c (.ref a)) (.cons rfl .nil) (iy H Y hS)) λr g h=>?_
  cases r with
  |error e=>exact(N H e g h).elim
  |ok fl=>
   cases fl with
   |next=>exact False.elim h
   |brk=>exact False.elim h
   |cont=>exact False.elim h
   |ret u=>
    obtain⟨v,H',os,D,un,yz,r',q⟩:=h;have q':v=.bl true:=q;subst q';obtain rfl:u=Value.bool true:=r'
    refine⟨rfl,OldK.of_keep λb o e=>?_,os,D⟩
    cases q:H b with
    |none=>exact un.keep b o e q (by intro z;exact absurd (show b∈([]:List Addr)from z) (by simp)) (by simp)
    |some u=>
     rcases Y b with z| ⟨ob,xs,z⟩
     ·rw[q]at z;cases z
     ·have z2:=un.ir b ob _ z;obtain⟨e1,_⟩:=y b _ z;obtain⟨e2,_⟩:=yz b _ z2;rw[e]at e1;cases e1
      exact e2
 cases L:K.lookup a with
 |some o=>
  have e:=KX a o L;rw[I]at e;cases e
  refine j (λ_=>none) (λ_=>.inl rfl) (.inr ⟨_,vs.toArray,_,L,rfl,rfl,rfl,by rw[bB,yd];exact U,by simpa using S⟩) (λb u z=>by have l:(none:Option HO)=some u:=z;cases l) (λb z=>absurd rfl z) λz=>absurd rfl z
 |none=>
  refine j (λb=>if b=a then some (.fo {cls:=.type "list",data:=.seq vs.toArray} (.lst (p.map V.int)))else none) (λb=>?_) (.inl (.inr ⟨{cls:=.type "list",data:=.seq vs.toArray},if_pos rfl⟩)) (λb u z=>?_) (λb z=>?_) λ_=>L
  ·by_cases f:b=a
   ·exact .inr ⟨_,_,if_pos f⟩
   ·exact .inl (if_neg f)
  ·by_cases f:b=a
   ·have l:=(if_pos f).symm.trans z;cases l;subst f
    exact⟨I,by rw[aN];exact U,vs,_,S,I⟩
   ·have l:=(if_neg f).symm.trans z;cases l
  ·by_cases f:b=a
   ·exact f
   ·exact absurd (if_neg f) z
noncomputable abbrev W9{K:aL}{h:Heap}(_:K.In h):aL:=K
end L2
namespace L2
open PySem PySem.Spec PyProof.Rows
noncomputable abbrev kb:vv:=λ_ _ _ _ _ _=>False
structure vq(K:aL)(x qual:Str)(st:Stmt)(f:Addr)(fd:FuncData):Prop where
 ex:∃(oc:Value)(od:Option Addr)(kV doc pm:Value)(an:Option Addr)(az ct:Value)(gd:Array (Option Value)),
  fd=cK x qual (k9 st) (kE st) (iM st) .none kV doc pm an az ct/\K.lookup f=some ⟨oc,od,.func fd,gd⟩/\dI K az qual=true
 kp:cI K (.ref f)=true
section
variable {P:Program}{w:World}{K:aL}{a:Str->Option Value}{d:Heap}
variable{x g:Str}{st:Stmt}{f:Addr}{i:FuncData}{ps:List Str}
theorem vq.ok{N:List Str}{k:Nat}{j:Sp}(F:vq K x g st f i)(S:sJ N ps (iM st))(len:∀vs H Q E,j vs H Q E->vs.length=ps.length)
 (o:∀(c:Value)(A:Around)(b:List Env)(s:Shared)(H:Hp)(vs:List V)(Q:VK)(E:XK),cm k (A.deeper (envOfC g (iM st) s.heap.objs.size f c))->j vs H Q E->
  ∃t,jz (uz kb P w K a d N g (iM st) f c A b s H E).xS (kE st) t/\t {nx:=λ_ r=>Q .aH r,rt:=Q} (start N vs) H):oW P w K a d kb (k+1) f i ps j:=by
 obtain⟨oc,od,kV,p,u,z,c,y,v,rfl,lk,l⟩:=F.ex
 refine Ip lk l S len λA b s H vs Q E n m=>?_
 obtain⟨t,h,q⟩:=o c A b s H vs Q E n m
 exact⟨t,h.xS,q⟩
theorem vq.binds(F:vq K x g st f i)
 (h:∀(kV b j:Value)(m:Option Addr)(l k:Value)(c:List Value),c.length=ps.length->bindArgs (cK x g (k9 st) (kE st) (iM st) .none kV b j m l k) ⟨c,[]⟩=pure (ps.zip c)):Binds K i ps []:=by
 obtain⟨oc,od,kV,b,j,m,l,k,o,rfl,lk,n⟩:=F.ex
 exact .all (h kV b j m l k)
theorem FX{oc:Value}{od n:Option Addr}{o:Array (Option Value)}{kV b j h m:Value}(l:K.lookup f=some ⟨oc,od,.func (cK x g (k9 st) (kE st) (iM st) .none kV b j n h m),o⟩)
 (c:dI K h g=true)(k:cI K (.ref f)=true):vq K x g st f (cK x g (k9 st) (kE st) (iM st) .none kV b j n h m):=⟨⟨oc,od,kV,b,j,n,h,m,o,rfl,l,c⟩,k⟩
end
section
variable {X:Cx}
end
variable{H d:Hp}
def cb(H d:Hp):Prop:=∀b o,H b=some o->d b=some o
theorem cb.refl(H:Hp):cb H H:=λ_ _ h=>h
theorem cb.trans{g f:Hp}(a:cb H g)(b:cb g f):cb H f:=λc o h=>b c o (a c o h)
theorem cb.free(e:cb H d){l:Addr}(h:d l=aTx):H l=aTx:=by
 cases q:H l with
 |none=>rfl
 |some o=>
  rw[e l o q]at h;cases h
theorem cb.seq{K:aL}{a:Addr}{xs:List V}(e:cb H d)(h:di K H a xs):di K d a xs:=by
 rcases h with(h| ⟨o,h⟩)|h
 ·exact .inl (.inl (e _ _ h))
 ·exact .inl (.inr ⟨o,e _ _ h⟩)
 ·exact .inr h
end L2
namespace PySem
section
variable {M:Model}{A:Around}{E:Value->Shared->Prop}
variable {a q:Str}{C N:Addr}{bs c:List Value}{d:Bool}{f:List Str}{sub:List Value}{g:Bool}{h:Option Bool}{i:Option Addr}{j l m n o:Option Value}{p:String}
variable {r s:Str}{D u:Addr}{v w:List Value}{x:Bool}{y:List Str}{z:List Value}{e:Bool}{B:Option Bool}{F:Option Addr}{G H I J K:Option Value}{L:String}
end
end PySem
namespace TL
open PySem L2
variable{H:Hp}{Z:Addr->Prop}{ρ:cx}{a:Addr}{o:HO}
inductive T where
 |aH|bl (b:Bool)|int (i:Int)|str (x:Str)|lst (xs:List T)|tup (xs:List T)|cell (c:Nat)|exc (c:String)
noncomputable abbrev aD:=List (Option T)
inductive Kd where
 |l|o (cls:String) (ns:List Str)|dk (ks:List Key)|dt (ks:List (List Key))|dz (ks:List (List Key))
noncomputable abbrev Cl:=Kd×List T
abbrev ab:=List Cl
noncomputable abbrev cx:=List Addr
open Classical in
noncomputable def mask(H:Hp)(Z:Addr->Prop)(ρ:cx):Hp:=λa=>if Z a\/a∈ρ then none else H a
theorem LU:mask H Z ρ a=some o↔¬Z a/\a∉ρ/\H a=some o:=by
 unfold mask;constructor
 ·intro h;split at h
  ·cases h
  ·rename_i q
   exact⟨λz=>q (.inl z),λz=>q (.inr z),h⟩
 ·rintro⟨d,c,b⟩;rw[if_neg (by
   rintro(z|z)
   ·exact d z
   ·exact c z)]
  exact b
def jX:=λ{a b c d e}=>(@LU a b c d e).mp
theorem nQ(d:¬Z a)(c:a∉ρ)(b:H a=some o):mask H Z ρ a=some o:=LU.mpr ⟨d,c,b⟩
theorem nW:cb (mask H Z ρ) H:=λa o h=>(jX h).2.2
noncomputable def M9(a C:Addr):HO:=.ext λh=>∃ob,h.get? a=some ob/\ob.cls=.ref C
mutual
def RT(K:aL)(M:Hp)(ρ:cx):T->V->Prop
 | .aH,v=>v=.aH
 | .bl b,v=>v=.bl b
 | .int i,v=>v=.int i
 | .str x,v=>v=.str x
 | .lst ts,v=>∃a vs,v=.ref a/\di K M a vs/\aw K M ρ ts vs
 | .tup ts,v=>∃a vs,v=.ref a/\M a=some (.tup vs)/\aw K M ρ ts vs
 | .cell c,v=>∃a,v=.ref a/\ρ[c]?=some a
 | .exc c,v=>∃a C,v=.ref a/\bQ K mainGlobals (Str.ofString c)=some (some (.ref C))/\M a=some (M9 a C)
def aw(K:aL)(M:Hp)(ρ:cx):List T->List V->Prop
 | [],vs=>vs=[]
 |t::ts,vs=>∃v r,vs=v::r/\RT K M ρ t v/\aw K M ρ ts r
end
theorem cb.D9{K:aL}{H b:Hp}{a:Addr}{xs:List V}(e:cb H b)(h:je K H a xs):je K b a xs:=by
 rcases h with(h| ⟨o,h⟩)|h
 ·exact .inl (.inl (e _ _ h))
 ·exact .inl (.inr ⟨o,e _ _ h⟩)
 ·exact .inr h
theorem Rx{ρ e:cx}{c:Nat}{a:Addr}(h:ρ[c]?=some a):(ρ++e)[c]?=some a:=by
 rw[aW (fA h).1];exact h
section
variable {K:aL}{M d:Hp}{ρ f:cx}
mutual
theorem RT.mono(s:cb M d)(p:∀(c:Nat)(a:Addr),ρ[c]?=some a->f[c]?=some a):∀{t:T}{v:V},RT K M ρ t v->RT K d f t v
 | .aH,_,h=>by unfold RT at*;exact h
 | .bl _,_,h=>by unfold RT at*;exact h
 | .int _,_,h=>by unfold RT at*;exact h
 | .str _,_,h=>by unfold RT at*;exact h
 | .lst b,v,h=>by
   unfold RT at*;obtain⟨a,vs,e,q,r⟩:=h
   exact⟨a,vs,e,s.seq q,aw.mono s p r⟩
 | .tup b,v,h=>by
   unfold RT at*;obtain⟨a,vs,e,q,r⟩:=h
   exact⟨a,vs,e,s _ _ q,aw.mono s p r⟩
 | .cell c,v,h=>by
   unfold RT at*;obtain⟨a,e,q⟩:=h
   exact⟨a,e,p c a q⟩
 | .exc c,v,h=>by
   unfold RT at*;obtain⟨a,C,e,q,r⟩:=h
   exact⟨a,C,e,q,s _ _ r⟩
theorem aw.mono(s:cb M d)(p:∀(c:Nat)(a:Addr),ρ[c]?=some a->f[c]?=some a):∀{b:List T}{vs:List V},aw K M ρ b vs->aw K d f b vs
 | [],_,h=>by unfold aw at*;exact h
 |t::b,vs,h=>by
  unfold aw at*;obtain⟨v,r,e,i,g⟩:=h
  exact⟨v,r,e,RT.mono s p i,aw.mono s p g⟩
end
variable{t:T}{ts:List T}{v:V}{vs:List V}
theorem aw.nil:aw K M ρ [] []:=by unfold aw;rfl
theorem aw.cons(h:RT K M ρ t v)(b:aw K M ρ ts vs):aw K M ρ (t::ts) (v::vs):=by
 unfold aw;exact⟨v,vs,rfl,h,b⟩
theorem aw.nil_inv(h:aw K M ρ [] vs):vs=[]:=by unfold aw at h;exact h
theorem aw.cons_inv(h:aw K M ρ (t::ts) vs):∃v r,vs=v::r/\RT K M ρ t v/\aw K M ρ ts r:=by unfold aw at h;exact h
theorem aw.length:∀{ts:List T}{vs:List V},aw K M ρ ts vs->vs.length=ts.length
 | [],_,h=>by rw[h.nil_inv];rfl
 |t::ts,vs,h=>by
  obtain⟨v,r,rfl,_,b⟩:=h.cons_inv;simp[b.length]
theorem aw.get:∀{ts:List T}{vs:List V}{i:Nat}{t:T},aw K M ρ ts vs->ts[i]?=some t->∃v,vs[i]?=some v/\RT K M ρ t v
 | [],_,_,_,_,e=>by simp at e
 |x::ts,vs,0,t,h,e=>by
  obtain⟨v,r,rfl,c,b⟩:=h.cons_inv;simp at e;subst e
  exact⟨v,rfl,c⟩
 |x::ts,vs,i+1,t,h,e=>by
  obtain⟨v,r,rfl,c,b⟩:=h.cons_inv;obtain⟨u,j,g⟩:=aw.get (i:=i) b (by simpa using e)
  exact⟨u,by simpa using j,g⟩
theorem aw.append:∀{ts us:List T}{vs ws:List V},aw K M ρ ts vs->aw K M ρ us ws->aw K M ρ (ts++us) (vs++ws)
 | [],_,_,_,h,b=>by rw[h.nil_inv];exact b
 |t::ts,_,_,_,h,b=>by
  obtain⟨v,r,rfl,g,c⟩:=h.cons_inv
  exact .cons g (c.append b)
theorem aw.take:∀(n:Nat){ts:List T}{vs:List V},aw K M ρ ts vs->aw K M ρ (ts.take n) (vs.take n)
 |0,_,_,_=>by simpa using aw.nil
 |n+1,[],_,h=>by rw[h.nil_inv];simpa using aw.nil
 |n+1,t::ts,_,h=>by
  obtain⟨v,r,rfl,c,b⟩:=h.cons_inv
  exact .cons c (b.take n)
theorem aw.drop:∀(n:Nat){ts:List T}{vs:List V},aw K M ρ ts vs->aw K M ρ (ts.drop n) (vs.drop n)
 |0,_,_,h=>h
 |n+1,[],_,h=>by rw[h.nil_inv];simpa using aw.nil
 |n+1,t::ts,_,h=>by
  obtain⟨v,r,rfl,c,b⟩:=h.cons_inv
  exact b.drop n
theorem aw.set(g:RT K M ρ t v):∀(n:Nat){ts:List T}{vs:List V},aw K M ρ ts vs->aw K M ρ (ts.set n t) (vs.set n v)
 |_,[],_,h=>by rw[h.nil_inv];simpa using aw.nil
 |0,x::ts,_,h=>by
  obtain⟨u,r,rfl,c,b⟩:=h.cons_inv
  exact .cons g b
 |n+1,x::ts,_,h=>by
  obtain⟨u,r,rfl,c,b⟩:=h.cons_inv
  exact .cons c (b.set g n)
end
variable{H H':Hp}{a:Addr}{K:aL}{ρ ae:cx}{Z:Addr->Prop}
def ti(K:aL):Kd->List V->HO->Prop
 | .l,vs,o=>o=.lst vs
 | .o c d,vs,o=>d.length=vs.length/\∃C dx,bQ K mainGlobals (Str.ofString c)=some (some (.ref C))/\o=.ins C dx (d.zip vs)
 | .dk b,vs,o=>b.length=vs.length/\o=.dK (b.zip vs)
 | .dt b,vs,o=>b.length=vs.length/\o=.dT (b.zip vs)
 | .dz b,vs,o=>b.length=vs.length/\∃ob,o=.fo ob (.dT (b.zip vs))
def NT:Option HO->Prop
 |some (.tup _)=>False
 |none=>False
 |_=>True
theorem NT.same(s:cb H H')(h:NT (H a)):NT (H' a):=by
 cases e:H a with
 |none=>rw[e]at h;exact False.elim h
 |some o=>rw[s a o e,<-e];exact h
theorem NT.some(h:NT (H a)):H a≠none:=λz=>by rw[z]at h;exact h
theorem ti.nt{k:Kd}{vs:List V}{o:HO}(h:ti K k vs o):NT (some o):=by
 cases k with
 |l=>unfold ti at h;subst h;trivial
 |o c d=>unfold ti at h;obtain⟨_,C,dx,_,rfl⟩:=h;trivial
 |dk b=>unfold ti at h;obtain⟨_,rfl⟩:=h;trivial
 |dt b=>unfold ti at h;obtain⟨_,rfl⟩:=h;trivial
 |dz b=>unfold ti at h;obtain⟨_,ob,rfl⟩:=h;trivial
def Hm:Option HO->Prop
 |some (.fo _ _)=>False
 |_=>True
structure Rel(K:aL)(aE:Hp)(Z:Addr->Prop)(ρ:cx)(τ:aD)(C:ab)(σ:St)(H:Hp):Prop where
 old:cb aE H
 bx:∀a∈ρ,aE a=none/\¬Z a
 nd:ρ.Nodup
 zd:∀a,Z a->NT (H a)
 loc:∀(i:Nat)(t:T),τ[i]?=some (some t)->∃v,σ[i]?=some (some v)/\RT K (mask H Z ρ) ρ t v
 jg:∀(c:Nat)(a:Addr),ρ[c]?=some a->∃x vs o,C[c]?=some x/\H a=some o/\ti K x.1 vs o/\aw K (mask H Z ρ) ρ x.2 vs
 len:ρ.length=C.length
 ro:τ.length=σ.length
structure Step(H H':Hp)(ρ ae:cx):Prop where
 kept:∀(a:Addr)(o:HO),H a=some o->a∉ρ->a∉ae/\H' a=some o
 pre:∃e,ae=ρ++e
 fz:∀(a:Addr) ob u,H a=some (.fo ob u)->H' a=some (.fo ob u)
theorem Step.refl:Step H H ρ ρ:=⟨λa o h n=>⟨n,h⟩,⟨[],by simp⟩,λ_ _ _ h=>h⟩
theorem Step.trans{i g:Hp}{d c:cx}(a:Step H i ρ d)(b:Step i g d c):Step H g ρ c:=by
 obtain⟨e,k⟩:=a.pre;obtain⟨f,j⟩:=b.pre
 exact⟨λx o h n=>(b.kept x o (a.kept x o h n).2 (a.kept x o h n).1),⟨e++f,by rw[j,k,cJ]⟩,λx ob u h=>b.fz x ob u (a.fz x ob u h)⟩
theorem Step.of{e:cx}(s:cb H H')(h:∀a∈e,H a=none):Step H H' ρ (ρ++e):=
 ⟨λa o q n=>⟨λz=>(fY z).elim n (λz=>by rw[h a z]at q;cases q),s a o q⟩,⟨e,rfl⟩,λa ob u h=>s a _ h⟩
theorem Step.of0(s:cb H H'):Step H H' ρ ρ:=⟨λa o q n=>⟨n,s a o q⟩,⟨[],by simp⟩,λa ob u h=>s a _ h⟩
theorem Step.idx(s:Step H H' ρ ae):∀(c:Nat)(a:Addr),ρ[c]?=some a->ae[c]?=some a:=λc a h=>by
 obtain⟨e,b⟩:=s.pre;rw[b];exact Rx h
theorem Step.tw(s:Step H H' ρ ae)(Z:Addr->Prop):cb (mask H Z ρ) (mask H' Z ae):=λa o h=>by
 obtain⟨d,c,b⟩:=jX h
 exact nQ d (s.kept a o b c).1 (s.kept a o b c).2
theorem RT.step{t:T}{v:V}(h:RT K (mask H Z ρ) ρ t v)(s:Step H H' ρ ae):RT K (mask H' Z ae) ae t v:=h.mono (s.tw Z) s.idx
theorem aw.step{t:List T}{v:List V}(h:aw K (mask H Z ρ) ρ t v)(s:Step H H' ρ ae):aw K (mask H' Z ae) ae t v:=h.mono (s.tw Z) s.idx
abbrev SStep(Z:Addr->Prop)(H H':Hp)(ρ ae:cx):Prop:=Step H H' ρ ae
theorem Step.ss(s:Step H H' ρ ae):Step H H' ρ ae:=s
section
variable {K:aL}{g H H':Hp}{Z:Addr->Prop}{ρ ae:cx}{f:aD}{C:ab}{σ:St}
variable{p:Addr}{kd:Kd}{ob:HO}{c:Nat}
theorem Rel.alloc(R:Rel K g Z ρ f C σ H){o:HO}(k:H p=none):Rel K g Z ρ f C σ (upd H p o)/\Step H (upd H p o) ρ ρ:=by
 have sm:cb H (upd H p o):=λb u h=>by rw[gH (λz=>by rw[z,k]at h;cases h)];exact h
 have st:Step H (upd H p o) ρ ρ:=.of0 sm
 refine⟨⟨R.old.trans sm,R.bx,R.nd,λa z=>(R.zd a z).same sm,λi t e=>?_,λc a e=>?_,R.len,R.ro⟩,st⟩
 ·obtain⟨v,j,d⟩:=R.loc i t e
  exact⟨v,j,d.step st⟩
 ·obtain⟨x,vs,ob,j,d,l,m⟩:=R.jg c a e
  exact⟨x,vs,ob,j,sm _ _ d,l,m.step st⟩
theorem Rel.fx(R:Rel K g Z ρ f C σ H)(b:H p=none):¬Z p/\p∉ρ/\g p=none:=by
 refine⟨λz=>(R.zd p z).some b,λz=>?_,R.old.free b⟩
 obtain⟨c,d⟩:=fT z;obtain⟨_,_,_,_,h,_⟩:=R.jg c p d;rw[b]at h;cases h
theorem Rel.pb(R:Rel K g Z ρ f C σ H){b:List T}{vs:List V}(d:H p=none)(h:aw K (mask H Z ρ) ρ b vs):
 RT K (mask (upd H p (.lst vs)) Z ρ) ρ (.lst b) (.ref p):=by
 obtain⟨j,i,_⟩:=R.fx d;unfold RT
 exact⟨p,vs,rfl,.of (nQ j i j8),h.step (R.alloc d).2⟩
theorem Rel.hL(R:Rel K g Z ρ f C σ H){b:List T}{vs:List V}(d:H p=none)(h:aw K (mask H Z ρ) ρ b vs):
 RT K (mask (upd H p (.tup vs)) Z ρ) ρ (.tup b) (.ref p):=by
 obtain⟨j,i,_⟩:=R.fx d;unfold RT
 exact⟨p,vs,rfl,(nQ j i j8),h.step (R.alloc d).2⟩
theorem Rel.fq(R:Rel K g Z ρ f C σ H){ts:List T}{vs:List V}(j:H p=none)(r:ti K kd vs ob)(h:aw K (mask H Z ρ) ρ ts vs):
 Rel K g Z (ρ++[p]) f (C++[(kd,ts)]) σ (upd H p ob)/\Step H (upd H p ob) ρ (ρ++[p])/\RT K (mask (upd H p ob) Z (ρ++[p])) (ρ++[p]) (.cell C.length) (.ref p):=by
 obtain⟨A,y,x⟩:=R.fx j;have sm:cb H (upd H p ob):=λb u h=>by rw[gH (λz=>by rw[z,j]at h;cases h)];exact h
 have st:Step H (upd H p ob) ρ (ρ++[p]):=.of sm λa d=>by rw[gJ d];exact j
 refine⟨⟨R.old.trans sm,λa d=>?_,?_,λa z=>(R.zd a z).same sm,λi t e=>?_,λc a e=>?_,by simp[R.len],R.ro⟩,st,?_⟩
 ·rcases fY d with d|d
  ·exact R.bx a d
  ·rw[gJ d];exact⟨x,A⟩
 ·refine i9 ⟨R.nd,by simp,λa d b B=>?_⟩
  rw[gJ B];rintro rfl
  exact y d
 ·obtain⟨v,l,k⟩:=R.loc i t e
  exact⟨v,l,k.step st⟩
 ·by_cases m:c<ρ.length
  ·rw[aW m]at e;obtain⟨q,n,w,l,k,D,F⟩:=R.jg c a e
   exact⟨q,n,w,by rw[aW (by rw[<-R.len];exact m)];exact l,sm _ _ k,D,F.step st⟩
  ·have s:c=ρ.length:=by
    have:=(fA e).1;simp at this;lia
   subst s;rw[bD (bE _)]at e;simp at e;subst e
   exact⟨(kd,ts),vs,ob,by rw[R.len];simp,j8,r,h.step st⟩
 ·unfold RT
  exact⟨p,rfl,by rw[<-R.len];simp⟩
theorem Rel.my(R:Rel K g Z ρ f C σ H){b:List T}{vs:List V}(d:H p=none)(h:aw K (mask H Z ρ) ρ b vs):
 Rel K g Z (ρ++[p]) f (C++[(.l,b)]) σ (upd H p (.lst vs))/\Step H (upd H p (.lst vs)) ρ (ρ++[p])/\RT K (mask (upd H p (.lst vs)) Z (ρ++[p])) (ρ++[p]) (.cell C.length) (.ref p):=R.fq d rfl h
theorem Rel.mx(R:Rel K g Z ρ f C σ H){a:Addr}{ts:List T}(h:ρ[c]?=some a)(e:C[c]?=some (.l,ts)):∃vs,H a=some (.lst vs)/\aw K (mask H Z ρ) ρ ts vs:=by
 obtain⟨x,vs,ob,d,j,b,i⟩:=R.jg c a h;rw[e]at d;cases d;have b:ob=.lst vs:=b;subst b
 exact⟨vs,j,i⟩
theorem Rel.BH(R:Rel K g Z ρ f C σ H){a:Addr}{k:List T}{vs:List V}(j:ρ[c]?=some a)(s:ti K kd vs ob)(h:aw K (mask H Z ρ) ρ k vs):
 Rel K g Z ρ f (C.set c (kd,k)) σ (upd H a ob)/\mask (upd H a ob) Z ρ=mask H Z ρ:=by
 have m:a∈ρ:=aZ j;have em:mask (upd H a ob) Z ρ=mask H Z ρ:=by
  funext b;unfold mask;split
  ·rfl
  ·rename_i q;rw[gH (by rintro rfl;exact q (.inr m))]
 refine⟨⟨λb o q=>?_,R.bx,R.nd,λb z=>?_,λi t e=>?_,λd b e=>?_,by simp[R.len],R.ro⟩,em⟩
 ·rw[gH (by rintro rfl;rw[(R.bx b m).1]at q;cases q)]
  exact R.old b o q
 ·rw[gH (by rintro rfl;exact(R.bx b m).2 z)];exact R.zd b z
 ·rw[em];exact R.loc i t e
 ·rw[em];by_cases l:d=c
  ·subst l;rw[j]at e;cases e;have v:d<C.length:=by rw[<-R.len];exact(fA j).1
   exact⟨(kd,k),vs,ob,by rw[bK v],j8,s,h⟩
  ·obtain⟨r,n,u,A,y,w,x⟩:=R.jg d b e
   refine⟨r,n,u,by rw[aT (Ne.symm l)];exact A,?_,w,x⟩
   rw[gH]
   ·exact y
   ·rintro rfl;obtain⟨G,D⟩:=fA e;obtain⟨F,B⟩:=fA j
    exact l ((aSd R.nd).mp (D.trans B.symm))
theorem Rel.put(R:Rel K g Z ρ f C σ H){a:Addr}{ts:List T}{vs:List V}(i:ρ[c]?=some a)(d:Hm (H a))(j:ti K kd vs ob)(h:aw K (mask H Z ρ) ρ ts vs):
 Rel K g Z ρ f (C.set c (kd,ts)) σ (upd H a ob)/\SStep Z H (upd H a ob) ρ ρ:=
 have k:a∈ρ:=aZ i
 ⟨(R.BH i j h).1,⟨λb o q n=>⟨n,by rw[gH (by rintro rfl;exact n k)];exact q⟩,⟨[],by simp⟩,λb ob u h=>by rw[gH (by rintro rfl;rw[h]at d;exact d)];exact h⟩⟩
theorem Rel.write(R:Rel K g Z ρ f C σ H){a:Addr}{ts:List T}{vs:List V}(d:ρ[c]?=some a)(b:Hm (H a))(h:aw K (mask H Z ρ) ρ ts vs):
 Rel K g Z ρ f (C.set c (.l,ts)) σ (upd H a (.lst vs))/\SStep Z H (upd H a (.lst vs)) ρ ρ:=R.put d b rfl h
theorem Rel.set(R:Rel K g Z ρ f C σ H){i:Nat}{t:T}{v:V}(h:RT K (mask H Z ρ) ρ t v):Rel K g Z ρ (f.set i (some t)) C (σ.set i (some v)) H:=by
 refine⟨R.old,R.bx,R.nd,R.zd,λj u e=>?_,R.jg,R.len,by simp[R.ro]⟩
 by_cases b:j=i
 ·subst b;have d:j<f.length:=by
   have:=(fA e).1;simpa using this
  rw[bK d]at e;cases e
  exact⟨v,by rw[bK (by rw[<-R.ro];exact d)],h⟩
 ·rw[aT (Ne.symm b)]at e;obtain⟨w,l,k⟩:=R.loc j u e
  exact⟨w,by rw[aT (Ne.symm b)];exact l,k⟩
theorem Rel.weak(R:Rel K g Z ρ f C σ H){b:aD}(d:b.length=f.length)(h:∀(i:Nat) t,b[i]?=some (some t)->f[i]?=some (some t)):Rel K g Z ρ b C σ H:=
 ⟨R.old,R.bx,R.nd,R.zd,λi t e=>R.loc i t (h i t e),R.jg,R.len,d.trans R.ro⟩
end
noncomputable def lim:Nat:=400000
abbrev FE:=aD->ab->Option (T×ab)
abbrev FN:=aD->ab->Option (List T×ab)
abbrev FB:=aD->ab->Option (Bool×ab)
def bu(K:aL)(f:FE):TE:=λσ H Q=>∃b Z ρ c C t d,Rel K b Z ρ c C σ H/\f c C=some (t,d)/\
 ∀v H' ae,Rel K b Z ae c d σ H'->RT K (mask H' Z ae) ae t v->Step H H' ρ ae->Q v H'
def ia(K:aL)(f:FN):TA:=λσ H Q=>∃b Z ρ c C ts d,Rel K b Z ρ c C σ H/\f c C=some (ts,d)/\
 ∀vs H' ae,Rel K b Z ae c d σ H'->aw K (mask H' Z ae) ae ts vs->Step H H' ρ ae->Q vs H'
def ke(K:aL)(f:FN):TE:=λd H Q=>∃b Z ρ c C g h,Rel K b Z ρ c C d H/\f c C=some (g,h)/\
 ∀p H' ae vs,Rel K b Z ae c h d H'->H' p=none->aw K (mask H' Z ae) ae g vs->Step H H' ρ ae->Q (.ref p) (upd H' p (.lst vs))
noncomputable def jf(K:aL)(f:FB):TT:=λg H Q=>∃c Z ρ d C b h,Rel K c Z ρ d C g H/\f d C=some (b,h)/\
 ∀H' ae,Rel K c Z ae d h g H'->Step H H' ρ ae->Q b H'
def h9(K:aL)(d:St)(h:List T)(vs:List V)(g:ab->Option (T×ab))(H:Hp)(Q:VK):Prop:=∃b Z ρ c C t f,Rel K b Z ρ c C d H/\aw K (mask H Z ρ) ρ h vs/\g C=some (t,f)/\
 ∀v H' ae,Rel K b Z ae c f d H'->RT K (mask H' Z ae) ae t v->Step H H' ρ ae->Q v H'
def vz(K:aL)(d:St)(i:List T)(vs:List V)(g:ab->Option (List T))(H:Hp)(Q:VK):Prop:=∃b Z ρ c C h,Rel K b Z ρ c C d H/\aw K (mask H Z ρ) ρ i vs/\g C=some h/\
 ∀p H' ae f,Rel K b Z ae c C d H'->H' p=none->aw K (mask H' Z ae) ae h f->Step H H' ρ ae->Q (.ref p) (upd H' p (.lst f))
noncomputable def k8(i:Nat):FE:=λb C=>match b[i]?with
 |some (some t)=>some (t,C)
 |_=>none
noncomputable def fC(t:T):FE:=λ_ C=>some (t,C)
abbrev Y0:FE:=k8 0
abbrev Y1:FE:=k8 1
abbrev Y2:FE:=k8 2
abbrev Y3:FE:=k8 3
abbrev Y4:FE:=k8 4
abbrev Y5:FE:=k8 5
abbrev Y6:FE:=k8 6
abbrev Y7:FE:=k8 7
abbrev Y8:FE:=k8 8
abbrev Y9:FE:=k8 9
abbrev AD:FE:=k8 10
abbrev AC:FE:=k8 11
abbrev CG:FE:=k8 12
abbrev MI:FE:=k8 13
abbrev W6:FE:=k8 14
abbrev fI(n:Int):FE:=fC (.int n)
noncomputable def j3(d c:FE)(g:T->T->ab->Option (T×ab)):FE:=λb C=>(d b C).bind λp=>(c b p.2).bind λq=>g p.1 q.1 q.2
noncomputable def yh(c:FE)(g:T->ab->Option (T×ab)):FE:=λb C=>(c b C).bind λp=>g p.1 p.2
noncomputable def AB(f d:FE)(g:T->T->ab->Option (List T)):FN:=λb C=>(f b C).bind λp=>(d b p.2).bind λq=>(g p.1 q.1 q.2).map λc=>(c,q.2)
noncomputable def fP:FN:=λ_ C=>some ([],C)
noncomputable def fB(d:FE)(c:FN):FN:=λb C=>(d b C).bind λp=>(c b p.2).map λq=>(p.1::q.1,q.2)
noncomputable def o4(c:FN)(g:List T->ab->Option (T×ab)):FE:=λb C=>(c b C).bind λp=>g p.1 p.2
noncomputable def rQ(d:FN)(g:List T->ab->Option (List T)):FN:=λb C=>(d b C).bind λp=>(g p.1 p.2).map λc=>(c,p.2)
noncomputable def gT(f:FN):FE:=λb C=>(f b C).map λp=>(.lst p.1,p.2)
noncomputable def jW(f:FN):FE:=λb C=>(f b C).map λp=>(.cell p.2.length,p.2++[(.l,p.1)])
section
variable {K:aL}{σ:St}{H:Hp}{Q:VK}
variable{m n:FE}{g:Int->Int->V}{f:Int->Int->T}{C:ab}{M d:Hp}{l:aD}{x y:V}
theorem Ot{i:Nat}(h:bu K (k8 i) σ H Q):Bn i σ H Q:=by
 obtain⟨d,Z,ρ,l,C,t,p,R,e,k⟩:=h;unfold k8 at e;split at e
 ·rename_i u b;cases e;obtain⟨v,j,c⟩:=R.loc i t b
  exact⟨v,j,k v H ρ R c .refl⟩
 ·cases e
theorem C8{t:T}{v:V}(b:∀M ρ,RT K M ρ t v)(h:bu K (fC t) σ H Q):tC v σ H Q:=by
 obtain⟨d,Z,ρ,l,C,t,c,R,e,k⟩:=h;cases e
 exact k v H ρ R (b _ _) .refl
theorem Dv{g:T->T->ab->Option (T×ab)}(h:bu K (j3 m n g) σ H Q):
 bu K m σ H λx p=>bu K n σ p λy j=>∃c b,h9 K σ [c,b] [x,y] (g c b) j Q:=by
 obtain⟨d,Z,ρ,l,C,t,O,R,e,k⟩:=h;unfold j3 at e;obtain⟨⟨c,r⟩,D,e⟩:=eV e;obtain⟨⟨b,q⟩,B,e⟩:=eV e
 refine⟨d,Z,ρ,l,C,c,r,R,D,λx p I L A u=>?_⟩
 refine⟨d,Z,I,l,r,b,q,L,B,λy j G R2 z i=>?_⟩
 exact⟨c,b,d,Z,G,l,q,t,O,R2,.cons (A.step i) (.cons z .nil),e,λv N F J w s=>k v N F J w ((u.trans i).trans s)⟩
theorem EK{g:T->ab->Option (T×ab)}(h:bu K (yh m g) σ H Q):
 bu K m σ H λx c=>∃b,h9 K σ [b] [x] (g b) c Q:=by
 obtain⟨d,Z,ρ,l,C,t,D,R,e,k⟩:=h;unfold yh at e;obtain⟨⟨b,i⟩,s,e⟩:=eV e
 refine⟨d,Z,ρ,l,C,b,i,R,s,λx c w A r p=>?_⟩
 exact⟨b,d,Z,w,l,i,t,D,A,.cons r .nil,e,λv B u z q j=>k v B u z q (p.trans j)⟩
theorem Pf{g:T->T->ab->Option (List T)}(h:ke K (AB m n g) σ H Q):
 bu K m σ H λx q=>bu K n σ q λy j=>∃c b,vz K σ [c,b] [x,y] (g c b) j Q:=by
 obtain⟨d,Z,ρ,l,C,S,X,R,e,k⟩:=h;unfold AB at e;obtain⟨⟨c,r⟩,F,e⟩:=eV e;obtain⟨⟨b,U⟩,D,e⟩:=eV e;obtain⟨P,B,e⟩:=eZ e;cases e
 refine⟨d,Z,ρ,l,C,c,r,R,F,λx q J N A u=>?_⟩
 refine⟨d,Z,J,l,r,b,_,N,D,λy j I R2 z i=>?_⟩
 exact⟨c,b,d,Z,I,l,_,_,R2,.cons (A.step i) (.cons z .nil),B,λp O G s L v w t=>k p O G s L v w ((u.trans i).trans t)⟩
theorem H0{Q:List V->Hp->Prop}(h:ia K fP σ H Q):Dl σ H Q:=by
 obtain⟨d,Z,ρ,l,C,b,c,R,e,k⟩:=h;cases e
 exact k [] H ρ R .nil .refl
theorem PH{c:FN}{Q:List V->Hp->Prop}(h:ia K (fB m c) σ H Q):Fw (bu K m) (ia K c) σ H Q:=by
 obtain⟨d,Z,ρ,l,C,B,G,R,e,k⟩:=h;unfold fB at e;obtain⟨⟨p,i⟩,u,e⟩:=eV e;obtain⟨⟨j,F⟩,t,e⟩:=eZ e;cases e
 refine⟨d,Z,ρ,l,C,p,i,R,u,λx D w z s q=>?_⟩
 exact⟨d,Z,w,l,i,j,_,z,t,λvs A v R2 r b=>k (x::vs) A v R2 (.cons (s.step b) r) (q.trans b)⟩
theorem Cu{m:FN}{g:List T->ab->Option (T×ab)}(h:bu K (o4 m g) σ H Q):
 ia K m σ H λvs c=>∃b,h9 K σ b vs (g b) c Q:=by
 obtain⟨d,Z,ρ,l,C,t,D,R,e,k⟩:=h;unfold o4 at e;obtain⟨⟨b,i⟩,s,e⟩:=eV e
 refine⟨d,Z,ρ,l,C,b,i,R,s,λx c w A r p=>?_⟩
 exact⟨b,d,Z,w,l,i,t,D,A,r,e,λv B u z q j=>k v B u z q (p.trans j)⟩
theorem F5{m:FN}{g:List T->ab->Option (List T)}(h:ke K (rQ m g) σ H Q):
 ia K m σ H λvs j=>∃b,vz K σ b vs (g b) j Q:=by
 obtain⟨d,Z,ρ,l,C,b,I,R,e,k⟩:=h;unfold rQ at e;obtain⟨⟨i,G⟩,w,e⟩:=eV e;obtain⟨c,v,e⟩:=eZ e;cases e
 refine⟨d,Z,ρ,l,C,i,_,R,w,λx j A D u r=>?_⟩
 exact⟨i,d,Z,A,l,_,_,D,u,v,λp F z c B s t q=>k p F z c B s t (r.trans q)⟩
theorem Jp{f:FN}(h:bu K (gT f) σ H Q):ke K f σ H Q:=by
 obtain⟨d,Z,ρ,l,C,t,w,R,e,k⟩:=h;unfold gT at e;obtain⟨⟨i,v⟩,r,e⟩:=eZ e;cases e
 exact⟨d,Z,ρ,l,C,i,_,R,r,λp u s vs c b q j=>k _ _ s (c.alloc b).1 (c.pb b q) (j.trans (c.alloc b).2)⟩
theorem IC{f:FN}(h:bu K (jW f) σ H Q):ke K f σ H Q:=by
 obtain⟨d,Z,ρ,l,C,t,B,R,e,k⟩:=h;unfold jW at e;obtain⟨⟨b,A⟩,u,e⟩:=eZ e;cases e
 refine⟨d,Z,ρ,l,C,b,_,R,u,λp z w vs v r s c=>?_⟩
 obtain⟨q,j,i⟩:=v.my r s
 exact k _ _ _ q i (c.trans j)
noncomputable def lc(C:ab)(c:Nat):Option (List T):=(C[c]?).bind λx=>match x.1 with
 | .l=>some x.2
 |_=>none
theorem nM{c:Nat}{b:List T}:lc C c=some b↔C[c]?=some (.l,b):=by
 unfold lc;constructor
 ·intro h;obtain⟨⟨k,i⟩,e,h⟩:=eV h;cases k<;>cases h
  exact e
 ·intro h;rw[h];rfl
def hZ:=λ{a b c}=>(@nM a b c).mpr
def kJ:=λ{a b c}=>(@nM a b c).mp
def du(C:ab):T->Option (List T)
 | .lst b=>some b
 | .cell c=>lc C c
 |_=>none
def kl(C:ab):T->Option (List T)
 | .lst b=>some b
 | .cell c=>lc C c
 | .tup b=>some b
 |_=>none
theorem di.tw{Z:Addr->Prop}{ρ:cx}{a:Addr}{vs:List V}(h:di K (mask M Z ρ) a vs):di K M a vs:=nW.seq h
theorem je.tw{Z:Addr->Prop}{ρ:cx}{a:Addr}{vs:List V}(h:je K (mask M Z ρ) a vs):je K M a vs:=cb.D9 nW h
theorem Rel.li{Z:Addr->Prop}{ρ:cx}(R:Rel K d Z ρ l C σ H){t:T}{v:V}{ts:List T}(h:RT K (mask H Z ρ) ρ t v)(e:du C t=some ts):
 ∃a vs,v=.ref a/\di K H a vs/\aw K (mask H Z ρ) ρ ts vs:=by
 cases t with
 |lst p=>
  cases e;unfold RT at h;obtain⟨a,vs,e,q,r⟩:=h
  exact⟨a,vs,e,di.tw q,r⟩
 |cell c=>
  unfold RT at h;obtain⟨a,k,q⟩:=h;obtain⟨b,j,i⟩:=R.mx q (kJ e)
  exact⟨a,b,k,.of j,i⟩
 |_=>cases e
theorem Rel.sq{Z:Addr->Prop}{ρ:cx}(R:Rel K d Z ρ l C σ H){t:T}{v:V}{b:List T}(h:RT K (mask H Z ρ) ρ t v)(e:kl C t=some b):
 ∃a vs,v=.ref a/\(di K H a vs\/je K H a vs)/\aw K (mask H Z ρ) ρ b vs:=by
 cases t with
 |lst p=>
  obtain⟨a,vs,k,j,i⟩:=R.li h (show du C (.lst p)=some b from e)
  exact⟨a,vs,k,.inl j,i⟩
 |cell c=>
  obtain⟨a,vs,k,j,i⟩:=R.li h (show du C (.cell c)=some b from e)
  exact⟨a,vs,k,.inl j,i⟩
 |tup p=>
  cases e;unfold RT at h;obtain⟨a,vs,e,q,r⟩:=h
  exact⟨a,vs,e,.inr (je.tw (.of q)),r⟩
 |_=>cases e
theorem RT.int_inv{ρ:cx}{i:Int}{v:V}(h:RT K M ρ (.int i) v):v=.int i:=by unfold RT at h;exact h
theorem RT.ec{ρ:cx}{b:Bool}{v:V}(h:RT K M ρ (.bl b) v):v=.bl b:=by unfold RT at h;exact h
theorem RT.jv{ρ:cx}{v:V}(h:RT K M ρ .aH v):v=.aH:=by unfold RT at h;exact h
theorem RT.int{M:Hp}{ρ:cx}{i:Int}:RT K M ρ (.int i) (.int i):=by unfold RT;rfl
theorem RT.bl{M:Hp}{ρ:cx}{i:Bool}:RT K M ρ (.bl i) (.bl i):=by unfold RT;rfl
theorem RT.aH{M:Hp}{ρ:cx}:RT K M ρ .aH .aH:=by unfold RT;rfl
noncomputable def gI(f:Int->Int->T):T->T->ab->Option (T×ab)
 | .int i,.int j,C=>some (f i j,C)
 |_,_,_=>none
noncomputable def qc(c:Int->Int->Bool)(f:Int->Int->T):T->T->ab->Option (T×ab)
 | .int i,.int j,C=>if c i j=true then some (f i j,C)else none
 |_,_,_=>none
theorem ud(p:∀i j M ρ,RT K M ρ (f i j) (g i j))(h:∃c b,h9 K σ [c,b] [x,y] (gI f c b) H Q):
 ∃i j,x=.int i/\y=.int j/\Q (g i j) H:=by
 obtain⟨c,b,d,Z,ρ,l,C,t,u,R,r,e,k⟩:=h;obtain⟨_,_,z,s,r⟩:=r.cons_inv;cases z;obtain⟨_,_,z,q,r⟩:=r.cons_inv;cases z;unfold gI at e;split at e
 ·cases e
  exact⟨_,_,s.int_inv,q.int_inv,k _ H ρ R (p _ _ _ _) .refl⟩
 ·cases e
theorem Ca{c:Int->Int->Bool}(q:∀i j M ρ,RT K M ρ (f i j) (g i j))(h:∃p b,h9 K σ [p,b] [x,y] (qc c f p b) H Q):
 ∃i j,x=.int i/\y=.int j/\c i j=true/\Q (g i j) H:=by
 obtain⟨p,b,d,Z,ρ,l,C,t,w,R,r,e,k⟩:=h;obtain⟨_,_,z,u,r⟩:=r.cons_inv;cases z;obtain⟨_,_,z,s,r⟩:=r.cons_inv;cases z;unfold qc at e;split at e
 ·split at e
  ·rename_i v;cases e
   exact⟨_,_,u.int_inv,s.int_inv,v,k _ H ρ R (q _ _ _ _) .refl⟩
  ·cases e
 ·cases e
end
inductive Fl where
 |nx|bk|ct|rt (t:T)|ex (c:String)
abbrev FS:=aD->ab->Option (Fl×aD×ab)
abbrev XW:=String->St->Hp->Prop
def CS(K:aL)(W:XW)(D:Ends)(Z:Addr->Prop)(ρ:cx)(d:Fl)(b:St)(H:Hp):Prop:=match d with
 | .nx=>D.nx b H
 | .bk=>D.bk b H
 | .ct=>D.ct b H
 | .rt t=>∀v,RT K (mask H Z ρ) ρ t v->D.rt v H
 | .ex c=>W c b H
noncomputable def eH(K:aL)(W:XW)(F:FS):TS:=λD i H=>∃b Z ρ c C d g h,Rel K b Z ρ c C i H/\F c C=some (d,g,h)/\
 ∀f H' ae,Rel K b Z ae g h f H'->SStep Z H H' ρ ae->CS K W D Z ae d f H'
abbrev FG:=T->ab->aD->Option aD
def ly(K:aL)(g:FG):TG:=λv h H Q=>∃b Z ρ c C t f,Rel K b Z ρ c C h H/\RT K (mask H Z ρ) ρ t v/\g t C c=some f/\
 ∀d,Rel K b Z ρ f C d H->Q d H
noncomputable def jK:FS:=λb C=>some (.nx,b,C)
noncomputable def DV:FS:=λ_ _=>none
noncomputable def f9(F G:FS):FS:=λb C=>(F b C).bind λr=>match r with
 | (.nx,c,d)=>G c d
 |r=>some r
noncomputable def er(c:FB)(F G:FS):FS:=λb C=>(c b C).bind λp=>if p.1=true then F b p.2 else G b p.2
def iF(f:FE):FS:=λb C=>(f b C).map λp=>(.rt p.1,b,p.2)
noncomputable def oB(f:FE):FS:=λb C=>(f b C).map λp=>(.nx,b,p.2)
noncomputable def gR(f:FE)(g:FG):FS:=λb C=>(f b C).bind λp=>(g p.1 p.2 b).map λc=>(.nx,c,p.2)
noncomputable def gN(i:Nat):FG:=λt _ b=>some (b.set i (some t))
noncomputable def dc:List Nat->List T->aD->aD
 |i::is,t::ts,b=>dc is ts (b.set i (some t))
 |_,_,b=>b
def gU(is:List Nat):FG:=λt C c=>(kl C t).bind λb=>if b.length=is.length then some (dc is b c)else none
section
variable {K:aL}{W:XW}{σ:St}{H:Hp}{D:Ends}
variable{F G:FS}{c:FB}{f:FE}{g:FG}{aE A:Hp}{d:aD}{C:ab}{B:cx}{n:Nat}
theorem IA(h:eH K W jK D σ H):E8 D σ H:=by
 obtain⟨aE,Z,ρ,d,C,b,i,j,R,e,k⟩:=h;cases e
 exact k σ H ρ R .refl
theorem SO(h:eH K W DV D σ H):False:=by
 obtain⟨aE,Z,ρ,d,C,b,i,j,R,e,k⟩:=h;cases e
theorem Og(h:eH K W (f9 F G) D σ H):Bp (eH K W F) (eH K W G) D σ H:=by
 obtain⟨aE,Z,ρ,d,C,q,v,x,R,e,k⟩:=h;unfold f9 at e;obtain⟨⟨f1,l,m⟩,r,e⟩:=eV e
 refine⟨aE,Z,ρ,d,C,f1,l,m,R,r,λj A B i b=>?_⟩
 cases f1 with
 |nx=>exact⟨aE,Z,B,l,m,q,v,x,i,e,λs w u R2 p=>k s w u R2 (b.trans p)⟩
 |bk=>cases e;exact k j A B i b
 |ct=>cases e;exact k j A B i b
 |rt t=>cases e;exact k j A B i b
 |ex c=>cases e;exact k j A B i b
theorem Np(h:eH K W (er c F G) D σ H):Bv (jf K c) (eH K W F) (eH K W G) D σ H:=by
 obtain⟨aE,Z,ρ,d,C,r,s,u,R,e,k⟩:=h;unfold er at e;obtain⟨⟨b,p⟩,v,e⟩:=eV e
 refine⟨aE,Z,ρ,d,C,b,p,R,v,λA B t q=>?_⟩
 cases b with
 |true=>
  rw[if_pos rfl]at e|-
  exact⟨aE,Z,B,d,p,r,s,u,t,e,λj m l R2 i=>k j m l R2 (q.ss.trans i)⟩
 |false=>
  rw[if_neg (by simp)]at e|-
  exact⟨aE,Z,B,d,p,r,s,u,t,e,λj m l R2 i=>k j m l R2 (q.ss.trans i)⟩
theorem N0(h:eH K W (iF f) D σ H):Bq (bu K f) D σ H:=by
 obtain⟨aE,Z,ρ,d,C,m,p,r,R,e,k⟩:=h;unfold iF at e;obtain⟨⟨t,q⟩,j,e⟩:=eZ e;cases e
 exact⟨aE,Z,ρ,d,C,t,_,R,j,λv A B l i b=>k σ A B l b.ss v i⟩
theorem O0(h:eH K W (oB f) D σ H):Fz (bu K f) D σ H:=by
 obtain⟨aE,Z,ρ,d,C,m,p,r,R,e,k⟩:=h;unfold oB at e;obtain⟨⟨t,q⟩,i,e⟩:=eZ e;cases e
 exact⟨aE,Z,ρ,d,C,t,_,R,i,λv A B j l b=>k σ A B j b.ss⟩
theorem Du(h:eH K W (gR f g) D σ H):Aq (bu K f) (ly K g) D σ H:=by
 obtain⟨aE,Z,ρ,d,C,r,u,x,R,e,k⟩:=h;unfold gR at e;obtain⟨⟨t,w⟩,l,e⟩:=eV e;obtain⟨s,j,e⟩:=eZ e;cases e
 refine⟨aE,Z,ρ,d,C,t,_,R,l,λv A B p i b=>?_⟩
 exact⟨aE,Z,B,d,_,t,_,p,i,j,λm q=>k m A B q b.ss⟩
theorem DZ{i:Nat}{v:V}{Q:St->Hp->Prop}(h:ly K (gN i) v σ H Q):t9 i v σ H Q:=by
 obtain⟨aE,Z,ρ,d,C,t,b,R,r,e,k⟩:=h;cases e
 exact k _ (R.set r)
theorem Rel.dc{aE:Hp}{Z:Addr->Prop}{ρ:cx}{C:ab}:∀{is:List Nat}{ts:List T}{vs:List V}{d:aD}{σ:St},Rel K aE Z ρ d C σ H->aw K (mask H Z ρ) ρ ts vs->ts.length=is.length->∀{Q:St->Hp->Prop},
 (∀h,Rel K aE Z ρ (TL.dc is ts d) C h H->Q h H)->(is.foldr (λi g=>Dw (t9 i) g) Do) vs σ H Q
 | [],[],vs,d,σ,R,r,_,Q,k=>⟨r.nil_inv,k σ R⟩
 |i::is,t::ts,vs,d,σ,R,r,b,Q,k=>by
  obtain⟨v,j,rfl,m,l⟩:=r.cons_inv
  exact⟨v,j,rfl,Rel.dc (is:=is) (ts:=ts) (R.set m) l (by simpa using b) k⟩
 | [],t::ts,_,_,_,_,_,b,_,_=>by simp at b
 |i::is,[],_,_,_,_,_,b,_,_=>by simp at b
open Classical in
def lH(P:ab->Prop)(g:FG)(F:FS):List T->FS
 | [],d,C=>some (.nx,d,C)
 |t::i,d,C=>(g t C d).bind λj=>(F j C).bind λr=>match r with
  | (.nx,h,b)=>if P b then lH P g F i h b else none
  | (.ct,h,b)=>if P b then lH P g F i h b else none
  | (.bk,h,b)=>some (.nx,h,b)
  | (.rt v,h,b)=>some (.rt v,h,b)
  | (.ex c,h,b)=>some (.ex c,h,b)
def stays(t:T)(b:List T)(C:ab):Prop:=match t with
 | .cell c=>lc C c=some b
 |_=>True
def pW(f:FE)(g:FG)(F:FS):FS:=λd C=>(f d C).bind λp=>(du p.2 p.1).bind λb=>lH (stays p.1 b) g F b d p.2
theorem Rel.same{aE:Hp}{Z:Addr->Prop}{ρ:cx}{d:aD}{C:ab}{H':Hp}(R:Rel K aE Z ρ d C σ H)(s:cb H H'):Rel K aE Z ρ d C σ H'/\Step H H' ρ ρ:=by
 have st:Step H H' ρ ρ:=.of0 s
 refine⟨⟨R.old.trans s,R.bx,R.nd,λa z=>(R.zd a z).same s,λi t e=>?_,λc a e=>?_,R.len,R.ro⟩,st⟩
 ·obtain⟨v,h,b⟩:=R.loc i t e
  exact⟨v,h,b.step st⟩
 ·obtain⟨j,vs,ob,h,b,k,l⟩:=R.jg c a e
  exact⟨j,vs,ob,h,s _ _ b,k,l.step st⟩
structure AE(K:aL)(J:It)(Z:Addr->Prop)(A:Hp)(B:cx)(ts:List T)(P:ab->Prop):Prop where
 go:∀(i:Nat)(t:T)(aE:Hp)(Z':Addr->Prop)(ae:cx)(d:aD)(C:ab)(σ:St)(H:Hp),ts[i]?=some t->Rel K aE Z' ae d C σ H->cb (mask A Z B) (mask H Z' ae)->
  (∀(c:Nat)(a:Addr),B[c]?=some a->ae[c]?=some a)->(P C\/cb A H)->(∀a ob u,A a=some (.fo ob u)->H a=some (.fo ob u))->J.go i H/\∀x H',J.zc i H x H'->cb H H'/\RT K (mask H' Z' ae) ae t x
 stop:∀(aE:Hp)(Z':Addr->Prop)(ae:cx)(d:aD)(C:ab)(σ:St)(H:Hp),Rel K aE Z' ae d C σ H->cb (mask A Z B) (mask H Z' ae)->
  (∀(c:Nat)(a:Addr),B[c]?=some a->ae[c]?=some a)->(P C\/cb A H)->(∀a ob u,A a=some (.fo ob u)->H a=some (.fo ob u))->J.stop ts.length H
theorem yG{J:It}{Z:Addr->Prop}{ρ:cx}{Q:aD}{U:ab}{P:ab->Prop}{h:List T}{O:Fl}{cw:St}
 (R:Rel K aE Z ρ d C cw A)(hP:P C)(e:lH P g F h d C=some (O,Q,U))(w:AE K J Z A ρ h P)
 (k:∀s H' ae,Rel K aE Z ae Q U s H'->SStep Z A H' ρ ae->CS K W D Z ae O s H'):
 ∃V:Nat->Nat->St->Hp->Prop,(∃m,V 0 m cw A)/\∀i m σ H,V i m σ H->
  (J.stop i H/\D.nx σ H)\/(J.go i H/\∃N:St->Hp->Prop,(∀s H',N s H'->∃m',m'<m/\V (i+1) m' s H')/\∀x H',J.zc i H x H'->ly K g x σ H' λbn H2=>eH K W F {D with nx:=N,ct:=N,bk:=D.nx} bn H2):=by
 refine⟨λi m σ H=>∃ae M z rest,m=rest.length/\h.drop i=rest/\i<=h.length/\Rel K aE Z ae M z σ H/\SStep Z A H ρ ae/\P z/\lH P g F rest M z=some (O,Q,U),
  ⟨h.length,ρ,d,C,h,rfl,rfl,dM _,R,.refl,hP,e⟩,?_⟩
 rintro i m σ H ⟨ae,M,z,rest,rfl,Y,hi,S,q,og,b⟩;cases rest with
 |nil=>
  have ff:i=h.length:=by
   have:h.length<=i:=by simpa using Y
   lia
  subst ff;cases b
  exact .inl ⟨w.stop _ _ _ _ _ _ _ S (q.tw _) q.idx (.inl og) q.fz,k σ H ae S q⟩
 |cons t rest=>
  have ht:h[i]?=some t:=by
   have:=congrArg (λl=>l[0]?) Y;simpa using this
  have bh:i<h.length:=(fA ht).1;have jr:h.drop (i+1)=rest:=by
   have:=congrArg aTG Y;simpa using this
  obtain⟨g1,g2⟩:=w.go i t _ _ ae M z σ H ht S (q.tw _) q.idx (.inl og) q.fz;unfold lH at b;obtain⟨al,eg,b⟩:=eV b;obtain⟨⟨f3,r,p⟩,eF,b⟩:=eV b
  refine .inr ⟨g1,λs H'=>∃j r p,Rel K aE Z j r p s H'/\SStep Z A H' ρ j/\P p/\lH P g F rest r p=some (O,Q,U),?_,?_⟩
  ·rintro s H' ⟨j,r,p,u,X,I,e3⟩
   exact⟨rest.length,by simp,j,r,p,rest,rfl,jr,bh,u,X,I,e3⟩
  ·intro x H' y;obtain⟨sm,rx⟩:=g2 x H' y;obtain⟨vp,ay⟩:=S.same sm
   refine⟨aE,Z,ae,M,z,t,al,vp,rx,eg,λbn R2=>?_⟩
   refine⟨aE,Z,ae,al,z,f3,r,p,R2,eF,λE H3 j u X=>?_⟩
   have L:=(q.trans ay.ss).trans X;cases f3 with
   |nx=>
    dsimp only at b;split at b
    ·rename_i I
     exact⟨j,r,p,u,L,I,b⟩
    ·cases b
   |ct=>
    dsimp only at b;split at b
    ·rename_i I
     exact⟨j,r,p,u,L,I,b⟩
    ·cases b
   |bk=>
    cases b
    exact k E H3 j u L
   |rt v=>
    cases b
    exact k E H3 j u L
   |ex c=>
    cases b
    exact k E H3 j u L
theorem pU{t:T}{b:List T}(e:du C t=some b):stays t b C:=by
 cases t with
 |cell c=>exact e
 |_=>trivial
theorem KW{Z:Addr->Prop}{σ:St}{t:T}{m:List T}{a:Addr}(Q:Rel K aE Z B d C σ A)(I:RT K (mask A Z B) B t (.ref a))(w:du C t=some m):
 AE K (G8 K a) Z A B m (stays t m):=by
 have h:∀{aE:Hp}{q:Addr->Prop}{ae:cx}{u:aD}{r:ab}{σ:St}{H:Hp},Rel K aE q ae u r σ H->cb (mask A Z B) (mask H q ae)->(∀(c:Nat)(a:Addr),B[c]?=some a->ae[c]?=some a)->(stays t m r\/cb A H)->
  ∃b,di K H a b/\aw K (mask H q ae) ae m b:=by
  intro aE q ae u r σ H s sm p j;rcases j with j|j
  ·have N:=I.mono sm p;have O:du r t=some m:=by
    cases t with
    |cell c=>exact j
    |lst R=>exact w
    |_=>cases w
   obtain⟨P,b,v,k,l⟩:=s.li N O;cases v
   exact⟨b,k,l⟩
  ·obtain⟨P,b,v,k,l⟩:=Q.li I w;cases v
   exact⟨b,j.seq k,l.mono sm p⟩
 refine⟨λi S aE q ae u r σ H M s sm p j _=>?_,λaE q ae u r σ H s sm p j _=>?_⟩
 ·obtain⟨b,k,l⟩:=h s sm p j;obtain⟨x,e,J⟩:=l.get M
  refine⟨⟨b,x,k,e⟩,λy H' ⟨L,z⟩=>?_⟩
  subst L;have:=z b k;rw[e]at this;cases this
  exact⟨.refl _,J⟩
 ·obtain⟨b,k,l⟩:=h s sm p j
  exact⟨b,k,by rw[l.length];exact bE _⟩
noncomputable def wB(lo:Int)(n:Nat):List T:=(bH n).map fun(i:Nat)=>T.int (lo+(i:Int))
theorem vM{Z:Addr->Prop}{lo:Int}:AE K (CL lo n) Z A B (wB lo n) (λ_=>True):=by
 refine⟨λi t aE q ae p s σ H b r sm j m _=>?_,λaE q ae p s σ H r sm j m _=>?_⟩
 ·unfold wB at b;have h:i<n:=by
   have:=(fA b).1;simpa using this
  rw[bA,cW h]at b;cases b
  refine⟨h,λx H' ⟨l,k⟩=>?_⟩
  subst l;rw[k];exact⟨.refl _,.int⟩
 ·show n<=_;simp[wB]
theorem N9(h:eH K W (pW f g F) D σ H):Ce (Fv K (bu K f)) (ly K g) (eH K W F) D σ H:=by
 obtain⟨aE,Z,ρ,d,C,z,I,J,R,e,k⟩:=h;unfold pW at e;obtain⟨⟨t,x⟩,s,e⟩:=eV e;obtain⟨y,b,e⟩:=eV e
 refine⟨aE,Z,ρ,d,C,t,x,R,s,λv A B i j l=>?_⟩
 obtain⟨a,vs,p,q,r⟩:=i.li j b;subst p
 exact⟨a,rfl,⟨vs,q⟩,yG i (pU b) e (KW i j b) λu H' ae w m=>k u H' ae w (l.ss.trans m)⟩
def yk(lo:Int)(n:Nat)(g:FG)(F:FS):FS:=lH (λ_=>True) g F (wB lo n)
def mC(f:FE)(g:FG)(F:FS):FS:=λd C=>(f d C).bind λp=>match p.1 with
 | .int j=>if -(2^62)<=j/\j<2^62 then yk 0 j.toNat g F d p.2 else none
 |_=>none
def tW(f1 f2:FE)(g:FG)(F:FS):FS:=λd C=>(f1 d C).bind λp=>(f2 d p.2).bind λq=>match p.1,q.1 with
 | .int i,.int j=>if -(2^62)<=i/\i<2^62/\ -(2^62)<=j/\j<2^62 then yk i (j - i).toNat g F d q.2 else none
 |_,_=>none
theorem SN(h:eH K W (mC f g F) D σ H):Ce (Fq (ia K (fB f fP))) (ly K g) (eH K W F) D σ H:=by
 obtain⟨aE,Z,ρ,d,C,y,z,I,R,e,k⟩:=h;unfold mC at e;obtain⟨⟨t,x⟩,q,e⟩:=eV e
 refine⟨aE,Z,ρ,d,C,[t],x,R,by simp[fB,fP,q],λvs A B u p i=>?_⟩
 obtain⟨v,r,rfl,m,l⟩:=p.cons_inv;rw[l.nil_inv];dsimp only at e;split at e
 ·split at e
  ·rename_i b
   exact⟨_,by rw[m.int_inv],b.1,b.2,yG (P:=λ_=>True) u trivial e vM λs H' ae w j=>k s H' ae w (i.ss.trans j)⟩
  ·cases e
 ·cases e
theorem Qr{f1 f2:FE}(h:eH K W (tW f1 f2 g F) D σ H):Ce (x4 (ia K (fB f1 (fB f2 fP)))) (ly K g) (eH K W F) D σ H:=by
 obtain⟨aE,Z,ρ,d,C,N,O,Q,R,e,k⟩:=h;unfold tW at e;obtain⟨⟨t,P⟩,x,e⟩:=eV e;obtain⟨⟨u,J⟩,w,e⟩:=eV e
 refine⟨aE,Z,ρ,d,C,[t,u],J,R,by simp[fB,fP,x,w],λvs A B z s b=>?_⟩
 obtain⟨v,r,rfl,p,m⟩:=s.cons_inv;obtain⟨L,M,rfl,l,j⟩:=m.cons_inv;rw[j.nil_inv];dsimp only at e;split at e
 ·split at e
  ·rename_i q
   exact⟨_,_,by rw[p.int_inv,l.int_inv],q,yG (P:=λ_=>True) z trivial e vM λy H' ae I i=>k y H' ae I (b.ss.trans i)⟩
  ·cases e
 ·cases e
def nF(c:FB)(F:FS):Nat->FS
 |0,_,_=>none
 |n+1,d,C=>(c d C).bind λp=>if p.1=true then(F d p.2).bind λr=>match r with
  | (.nx,b,h)=>nF c F n b h
  | (.ct,b,h)=>nF c F n b h
  | (.bk,b,h)=>some (.nx,b,h)
  | (.rt v,b,h)=>some (.rt v,b,h)
  | (.ex v,b,h)=>some (.ex v,b,h)
  else some (.nx,d,p.2)
theorem SG(h:eH K W (nF c F n) D σ H):ql (jf K c) (eH K W F) D σ H:=by
 obtain⟨aE,Z,ρ,d,C,J,P,S,R,e,k⟩:=h
 refine⟨λm y A=>∃B t w,Rel K aE Z B t w y A/\SStep Z H A ρ B/\nF c F m t w=some (J,P,S),⟨n,ρ,d,C,R,.refl,e⟩,?_⟩
 rintro m y A ⟨B,t,w,Y,l,i⟩;cases m with
 |zero=>cases i
 |succ m=>
  unfold nF at i;obtain⟨⟨b,Q⟩,X,i⟩:=eV i
  refine⟨aE,Z,B,t,w,b,Q,Y,X,λE N R2 j=>?_⟩
  cases b with
  |false=>
   rw[if_neg (by simp)]at i|-;cases i
   exact k y E N R2 (l.trans j.ss)
  |true=>
   rw[if_pos rfl]at i|-;obtain⟨⟨L,p,q⟩,U,i⟩:=eV i
   refine⟨λO H'=>∃M p q,Rel K aE Z M p q O H'/\SStep Z H H' ρ M/\nF c F m p q=some (J,P,S),λO H' z=>⟨m,dZ _,z⟩,?_⟩
   refine⟨aE,Z,N,t,Q,L,p,q,R2,U,λx I s u r=>?_⟩
   cases L with
   |nx=>exact⟨s,p,q,u,(l.trans j.ss).trans r,i⟩
   |ct=>exact⟨s,p,q,u,(l.trans j.ss).trans r,i⟩
   |bk=>cases i;exact k x I s u ((l.trans j.ss).trans r)
   |rt v=>cases i;exact k x I s u ((l.trans j.ss).trans r)
   |ex c=>cases i;exact k x I s u ((l.trans j.ss).trans r)
end
section
variable {K:aL}{m:St}{H:Hp}{Q:VK}
variable{M:Hp}{x y:V}{f s A B:FE}{xs:List V}{d:FB}{D:Ends}
theorem IW{ρ:cx}{ts:List T}{vs:List V}{i:Int}{t:T}(h:aw K M ρ ts vs)(e:dh ts i=some t):∃v,dh vs i=some v/\RT K M ρ t v:=by
 unfold dh at e|-;rw[h.length];cases q:jm ts.length i with
 |none=>rw[q]at e;cases e
 |some j=>
  rw[q]at e
  exact h.get e
def AK(g c:T)(C:ab):Option (T×ab):=match c with
 | .int i=>(kl C g).bind λb=>(dh b i).map λt=>(t,C)
 |_=>none
theorem Nk(h:∃c b,h9 K m [c,b] [x,y] (AK c b) H Q):Hk K x y H Q:=by
 obtain⟨c,b,l,Z,ρ,G,C,t,J,R,r,e,k⟩:=h;obtain⟨_,_,z,n,r⟩:=r.cons_inv;cases z;obtain⟨_,_,z,g,r⟩:=r.cons_inv;cases z;unfold AK at e;split at e
 ·obtain⟨I,F,e⟩:=eV e;obtain⟨u,w,e⟩:=eZ e;cases e;obtain⟨a,vs,j,q,rr⟩:=R.sq n F;obtain⟨v,i,p⟩:=IW rr w;have fin:=k v H ρ R p .refl;rcases q with q|q
  ·exact .inl ⟨a,vs,_,v,j,g.int_inv,q,i,fin⟩
  ·exact .inr (.inl ⟨a,vs,_,v,j,g.int_inv,q,i,fin⟩)
 ·cases e
abbrev FO:=aD->ab->Option (Option Int×ab)
noncomputable def qJ:FO:=λ_ C=>some (none,C)
noncomputable def wO(f:FE):FO:=λb C=>(f b C).bind λp=>match p.1 with
 | .int i=>some (some i,p.2)
 |_=>none
noncomputable def Bl(K:aL)(f:FO):TO:=λm H Q=>∃b Z ρ c C o g,Rel K b Z ρ c C m H/\f c C=some (o,g)/\
 ∀H' ae,Rel K b Z ae c g m H'->Step H H' ρ ae->Q o H'
theorem Tz{Q:Option Int->Hp->Prop}(h:Bl K qJ m H Q):nk m H Q:=by
 obtain⟨b,Z,ρ,c,C,o,g,R,e,k⟩:=h;cases e
 exact k H ρ R .refl
theorem NN{Q:Option Int->Hp->Prop}(h:Bl K (wO f) m H Q):wd (bu K f) m H Q:=by
 obtain⟨b,Z,ρ,c,C,o,r,R,e,k⟩:=h;unfold wO at e;obtain⟨⟨t,q⟩,j,e⟩:=eV e;dsimp only at e;split at e
 ·cases e
  exact⟨b,Z,ρ,c,C,_,_,R,j,λv p l n i g=>⟨_,i.int_inv,k p l n g⟩⟩
 ·cases e
def Ar(xs:List T)(lo b:Option Int):List T:=(xs.drop (HT.ik xs.length 0 lo)).take (HT.ik xs.length xs.length b - HT.ik xs.length 0 lo)
theorem aw.cut{ρ:cx}{b:List T}{vs:List V}(h:aw K M ρ b vs)(lo c:Option Int):aw K M ρ (Ar b lo c) (AX vs lo c):=by
 unfold Ar AX;rw[h.length]
 exact(h.drop _).take _
def yi(f:FE)(lo g:FO):FN:=λb C=>(f b C).bind λp=>(lo b p.2).bind λq=>(g b q.2).bind λr=>(du r.2 p.1).map λc=>(Ar c q.1 r.1,r.2)
theorem Nn{lo j:FO}(h:ke K (yi f lo j) m H Q):Hg (BC K) (bu K f) (Bl K lo) (Bl K j) m H Q:=by
 obtain⟨b,Z,ρ,c,C,ts,C',R,e,k⟩:=h;unfold yi at e;obtain⟨⟨t,z⟩,P,e⟩:=eV e;obtain⟨⟨l,w⟩,O,e⟩:=eV e;obtain⟨⟨u,C3⟩,N,e⟩:=eV e;obtain⟨us,L,e⟩:=eZ e;cases e
 refine⟨b,Z,ρ,c,C,t,z,R,P,λv H1 X Y I F=>?_⟩
 refine⟨b,Z,X,c,z,l,w,Y,O,λH2 U R2 i=>?_⟩
 refine⟨b,Z,U,c,w,u,_,R2,N,λE S n g=>?_⟩
 obtain⟨a,vs,J,q,r⟩:=n.li ((I.step i).step g) L
 exact⟨a,vs,J,q,λp G=>k p E S _ n G (r.cut l u) ((F.trans i).trans g)⟩
def xx(K:aL):R2:=λx y H Q=>∃l b xs zs,x=.ref l/\y=.ref b/\di K H l xs/\di K H b zs/\xs.length+zs.length<=lim/\∀p,H p=none->Q (.ref p) (upd H p (.lst (xs++zs)))
def AU(g c:T)(C:ab):Option (List T):=(du C g).bind λb=>(du C c).bind λus=>if b.length+us.length<=lim then some (b++us)else none
theorem N3(h:∃g c,vz K m [g,c] [x,y] (AU g c) H Q):xx K x y H Q:=by
 obtain⟨g,c,j,Z,ρ,L,C,O,R,r,e,k⟩:=h;obtain⟨_,_,z,q,r⟩:=r.cons_inv;cases z;obtain⟨_,_,z,n,r⟩:=r.cons_inv;cases z;unfold AU at e;obtain⟨P,J,e⟩:=eV e;obtain⟨N,I,e⟩:=eV e;split at e
 ·rename_i w;cases e;obtain⟨a,vs,G,u,i⟩:=R.li q J;obtain⟨b,l,F,t,rb⟩:=R.li n I
  exact⟨a,b,vs,l,G,F,u,t,by rw[i.length,rb.length];exact w,λp v=>k p H ρ _ R v (i.append rb) .refl⟩
 ·cases e
def iN(s:FN):FN:=rQ s λb _=>if b.length<=lim then some b else none
theorem Px{s:FN}(l:lim<=sizeLine)(h:ke K (iN s) m H Q):Bu (ia K s) m H Q:=by
 obtain⟨b,Z,ρ,g,C,i,z,R,e,k⟩:=F5 h
 refine⟨b,Z,ρ,g,C,i,z,R,e,λvs c u v t j=>?_⟩
 obtain⟨G,I,L,ae,J,N,F,w,r,e,k⟩:=k vs c u v t j;split at e
 ·rename_i q;cases e
  exact⟨by rw[r.length];exact bV q l,λp n=>k p c ae _ w n r .refl⟩
 ·cases e
def Dz(b:List T)(C:ab):Option (List T):=match b with
 | [t]=>kl C t
 |_=>none
theorem NV(h:∃c,vz K m c xs (Dz c) H Q):∃p b,xs=[.ref p]/\(di K H p b\/je K H p b)/\∀l,H l=none->Q (.ref l) (upd H l (.lst b)):=by
 obtain⟨c,g,Z,ρ,u,C,w,R,r,e,k⟩:=h;unfold Dz at e;split at e
 ·obtain⟨v,_,rfl,j,r⟩:=r.cons_inv;rw[r.nil_inv];obtain⟨a,vs,t,n,i⟩:=R.sq j e
  exact⟨a,vs,by rw[t],n,λp q=>k p H ρ _ R q i .refl⟩
 ·cases e
def AQ(c:List T)(C:ab):Option (T×ab):=match c with
 | [t]=>(kl C t).map λb=>(.int b.length,C)
 |_=>none
theorem N8(h:∃c,h9 K m c xs (AQ c) H Q):∃p b,xs=[.ref p]/\(di K H p b\/je K H p b)/\Q (.int b.length) H:=by
 obtain⟨c,g,Z,ρ,u,C,t,z,R,r,e,k⟩:=h;unfold AQ at e;split at e
 ·obtain⟨v,_,rfl,j,r⟩:=r.cons_inv;rw[r.nil_inv];obtain⟨w,q,e⟩:=eZ e;cases e;obtain⟨a,vs,n,l,i⟩:=R.sq j q
  exact⟨a,vs,by rw[n],l,k _ H ρ R (by rw[i.length];exact .int) .refl⟩
 ·cases e
noncomputable def gg:List T->Option (List Int)
 | []=>some []
 | .int i::b=>(gg b).map (i:: ·)
 |_::_=>none
noncomputable def ku:List T->Option (List Bool)
 | []=>some []
 | .bl i::b=>(ku b).map (i:: ·)
 |_::_=>none
theorem v5{ρ:cx}:∀{b:List T}{vs:List V}{c:List Int},aw K M ρ b vs->gg b=some c->vs=c.map V.int:=by
 intro b;induction b with
 |nil=>intro _ _ r e;cases e;rw[r.nil_inv];rfl
 |cons t b ih=>
  intro _ _ r e;cases t with
  |int i=>
   obtain⟨v,vs,rfl,g,r⟩:=r.cons_inv;obtain⟨c,h,rfl⟩:=eZ e;rw[aK,g.int_inv,ih r h]
  |_=>cases e
theorem TJ{ρ:cx}:∀{b:List T}{vs:List V}{c:List Bool},aw K M ρ b vs->ku b=some c->vs=c.map V.bl:=by
 intro b;induction b with
 |nil=>intro _ _ r e;cases e;rw[r.nil_inv];rfl
 |cons t b ih=>
  intro _ _ r e;cases t with
  |bl i=>
   obtain⟨v,vs,rfl,g,r⟩:=r.cons_inv;obtain⟨c,h,rfl⟩:=eZ e;rw[aK,g.ec,ih r h]
  |_=>cases e
theorem sW(ns:List Int):gg (ns.map T.int)=some ns:=by
 induction ns with
 |nil=>rfl
 |cons n ns ih=>simp[gg,ih]
theorem R8(b:List Bool):ku (b.map T.bl)=some b:=by
 induction b with
 |nil=>rfl
 |cons n b ih=>simp[ku,ih]
def Aw(c:List Int->Bool)(f:List Int->Int)(h:List T)(C:ab):Option (T×ab):=match h with
 | [t]=>(du C t).bind λg=>(gg g).bind λb=>if c b=true then some (.int (f b),C)else none
 |_=>none
def Cw(K:aL)(c:List Int->Bool)(f:List Int->Int):List V->Hp->VK->Prop:=λxs H Q=>∃p b,xs=[.ref p]/\di K H p (b.map V.int)/\c b=true/\Q (.int (f b)) H
theorem F2{c:List Int->Bool}{f:List Int->Int}(h:∃b,h9 K m b xs (Aw c f b) H Q):Cw K c f xs H Q:=by
 obtain⟨b,g,Z,ρ,z,C,t,G,R,r,e,k⟩:=h;unfold Aw at e;split at e
 ·obtain⟨v,_,rfl,j,r⟩:=r.cons_inv;rw[r.nil_inv];obtain⟨F,w,e⟩:=eV e;obtain⟨n,u,e⟩:=eV e;split at e
  ·rename_i p;cases e;obtain⟨a,vs,q,l,i⟩:=R.li j w;have:=v5 i u;subst this
   exact⟨a,n,by rw[q],l,p,k _ H ρ R .int .refl⟩
  ·cases e
 ·cases e
def Cd(f:List Bool->Bool)(c:List T)(C:ab):Option (T×ab):=match c with
 | [t]=>(du C t).bind λb=>(ku b).map λg=>(.bl (f g),C)
 |_=>none
def BG(K:aL)(f:List Bool->Bool):List V->Hp->VK->Prop:=λxs H Q=>∃p b,xs=[.ref p]/\di K H p (b.map V.bl)/\Q (.bl (f b)) H
theorem Ob{f:List Bool->Bool}(h:∃b,h9 K m b xs (Cd f b) H Q):BG K f xs H Q:=by
 obtain⟨b,c,Z,ρ,u,C,t,z,R,r,e,k⟩:=h;unfold Cd at e;split at e
 ·obtain⟨v,_,rfl,i,r⟩:=r.cons_inv;rw[r.nil_inv];obtain⟨w,q,e⟩:=eV e;obtain⟨l,p,e⟩:=eZ e;cases e;obtain⟨a,vs,n,j,g⟩:=R.li i q;have:=TJ g p;subst this
  exact⟨a,l,by rw[n],j,k _ H ρ R .bl .refl⟩
 ·cases e
noncomputable def Ae(f:Int->Int->Int)(b:List T)(C:ab):Option (T×ab):=match b with
 | [.int i,.int j]=>some (.int (f i j),C)
 |_=>none
theorem HA{f:Int->Int->Int}(h:∃b,h9 K m b xs (Ae f b) H Q):∃i j,xs=[.int i,.int j]/\Q (.int (f i j)) H:=by
 obtain⟨b,c,Z,ρ,n,C,t,p,R,r,e,k⟩:=h;unfold Ae at e;split at e
 ·obtain⟨v,_,rfl,l,r⟩:=r.cons_inv;obtain⟨w,_,rfl,g,r⟩:=r.cons_inv;rw[r.nil_inv,l.int_inv,g.int_inv];cases e
  exact⟨_,_,rfl,k _ H ρ R .int .refl⟩
 ·cases e
def EJ(C:ab):T->Option Bool
 | .aH=>some false
 | .bl b=>some b
 | .int i=>some (i !=0)
 | .lst g=>some (!g.isEmpty)
 | .tup g=>some (!g.isEmpty)
 | .cell c=>(lc C c).map λg=> !g.isEmpty
 | .str _=>none
 | .exc _=>none
def mX(f:FE):FB:=λc C=>(f c C).bind λp=>(EJ p.2 p.1).map λb=>(b,p.2)
theorem tU{ρ:cx}{b:List T}{vs:List V}(h:aw K M ρ b vs):vs.isEmpty=b.isEmpty:=by
 cases b with
 |nil=>rw[h.nil_inv];rfl
 |cons t b=>obtain⟨v,r,rfl,_⟩:=h.cons_inv;rfl
theorem Nv{Q:Bool->Hp->Prop}(h:jf K (mX f) m H Q):bu K f m H λx u=>∃k,EL K x u k/\Q k u:=by
 obtain⟨q,Z,ρ,z,C,b,O,R,e,k⟩:=h;unfold mX at e;obtain⟨⟨t,N⟩,I,e⟩:=eV e;obtain⟨L,g,e⟩:=eZ e;cases e
 refine⟨q,Z,ρ,z,C,t,_,R,I,λv u J r j F=>⟨b,?_,k u J r F⟩⟩
 dsimp only at g r;cases t with
 |aH=>rw[j.jv];cases g;rfl
 |bl c=>rw[j.ec];cases g;rfl
 |int i=>rw[j.int_inv];cases g;rfl
 |str x=>cases g
 |exc x=>cases g
 |lst w=>
  obtain⟨a,vs,p,n,l⟩:=r.li j rfl;rw[p];cases g
  exact .inl ⟨vs,n,by rw[tU l]⟩
 |tup w=>
  unfold RT at j;obtain⟨a,vs,p,n,l⟩:=j;rw[p];cases g
  exact .inr (.inl ⟨vs,je.tw (.of n),by rw[tU l]⟩)
 |cell c=>
  obtain⟨w,G,g⟩:=eZ g;obtain⟨a,vs,p,n,l⟩:=r.li j G;rw[p];cases g
  exact .inl ⟨vs,n,by rw[tU l]⟩
noncomputable def jD(f:FE):FB:=λc C=>(f c C).bind λp=>match p.1 with
 | .bl b=>some (b,p.2)
 |_=>none
theorem FD{g:TE}{Q:Bool->Hp->Prop}(l:∀m H Q,bu K f m H Q->g m H Q)(h:jf K (jD f) m H Q):wa g m H Q:=by
 obtain⟨c,Z,ρ,i,C,b,z,R,e,k⟩:=h;unfold jD at e;obtain⟨⟨t,w⟩,p,e⟩:=eV e;dsimp only at e;split at e
 ·cases e
  exact l _ _ _ ⟨c,Z,ρ,i,C,_,_,R,p,λv u q r n j=>⟨_,n.ec,k u q r j⟩⟩
 ·cases e
noncomputable def tI(c d:FB):FB:=λb C=>(c b C).bind λp=>if p.1=true then d b p.2 else some (false,p.2)
noncomputable def oC(c d:FB):FB:=λb C=>(c b C).bind λp=>if p.1=true then some (true,p.2)else d b p.2
noncomputable def l9(c:FB):FB:=λb C=>(c b C).map λp=>(!p.1,p.2)
theorem Pe{c:FB}{Q:Bool->Hp->Prop}(h:jf K (tI c d) m H Q):By (jf K c) (jf K d) m H Q:=by
 obtain⟨g,Z,ρ,i,C,b,z,R,e,k⟩:=h;unfold tI at e;obtain⟨⟨l,q⟩,t,e⟩:=eV e
 refine⟨g,Z,ρ,i,C,l,q,R,t,λw n p j=>?_⟩
 cases l with
 |true=>
  rw[if_pos rfl]at e|-
  exact⟨g,Z,n,i,q,b,z,p,e,λv u R2 r=>k v u R2 (j.trans r)⟩
 |false=>
  rw[if_neg (by simp)]at e|-;cases e
  exact k w n p j
theorem Ol{c:FB}{Q:Bool->Hp->Prop}(h:jf K (oC c d) m H Q):Hh (jf K c) (jf K d) m H Q:=by
 obtain⟨g,Z,ρ,i,C,b,z,R,e,k⟩:=h;unfold oC at e;obtain⟨⟨l,q⟩,t,e⟩:=eV e
 refine⟨g,Z,ρ,i,C,l,q,R,t,λw n p j=>?_⟩
 cases l with
 |false=>
  rw[if_neg (by simp)]at e|-
  exact⟨g,Z,n,i,q,b,z,p,e,λv u R2 r=>k v u R2 (j.trans r)⟩
 |true=>
  rw[if_pos rfl]at e|-;cases e
  exact k w n p j
theorem NL{c:FB}{Q:Bool->Hp->Prop}(h:jf K (l9 c) m H Q):Bs (jf K c) m H Q:=by
 obtain⟨g,Z,ρ,i,C,b,u,R,e,k⟩:=h;unfold l9 at e;obtain⟨⟨n,t⟩,l,e⟩:=eZ e;cases e
 exact⟨g,Z,ρ,i,C,n,_,R,l,λr p q j=>k r p q j⟩
noncomputable def zW(s A:FE):FE:=λb C=>(s b C).bind λp=>match p.1 with
 | .bl true=>A b p.2
 | .bl false=>some (.bl false,p.2)
 |_=>none
noncomputable def A0(s A:FE):FE:=λb C=>(s b C).bind λp=>match p.1 with
 | .bl false=>A b p.2
 | .bl true=>some (.bl true,p.2)
 |_=>none
noncomputable def AA(s:FE):FE:=λc C=>(s c C).bind λp=>match p.1 with
 | .bl b=>some (.bl (!b),p.2)
 |_=>none
theorem PP(h:bu K (zW s A) m H Q):xc (bu K s) (bu K A) m H Q:=by
 obtain⟨b,Z,ρ,c,C,t,G,R,e,k⟩:=h;unfold zW at e;obtain⟨⟨p,n⟩,u,e⟩:=eV e
 refine⟨b,Z,ρ,c,C,p,n,R,u,λv F j l i g=>?_⟩
 dsimp only at e;split at e
 ·refine⟨true,i.ec,?_⟩
  rw[if_pos rfl]
  exact⟨b,Z,j,c,n,t,G,l,e,λv z w R2 r q=>k v z w R2 r (g.trans q)⟩
 ·refine⟨false,i.ec,?_⟩
  rw[if_neg (by simp)];cases e
  exact k _ F j l .bl g
 ·cases e
theorem N2(h:bu K (A0 s A) m H Q):Br (bu K s) (bu K A) m H Q:=by
 obtain⟨b,Z,ρ,c,C,t,G,R,e,k⟩:=h;unfold A0 at e;obtain⟨⟨p,n⟩,u,e⟩:=eV e
 refine⟨b,Z,ρ,c,C,p,n,R,u,λv F j l i g=>?_⟩
 dsimp only at e;split at e
 ·refine⟨false,i.ec,?_⟩
  rw[if_neg (by simp)]
  exact⟨b,Z,j,c,n,t,G,l,e,λv z w R2 r q=>k v z w R2 r (g.trans q)⟩
 ·refine⟨true,i.ec,?_⟩
  rw[if_pos rfl];cases e
  exact k _ F j l .bl g
 ·cases e
theorem P4(h:bu K (AA s) m H Q):we (bu K s) m H Q:=by
 obtain⟨b,Z,ρ,c,C,t,u,R,e,k⟩:=h;unfold AA at e;obtain⟨⟨g,r⟩,l,e⟩:=eV e
 refine⟨b,Z,ρ,c,C,g,r,R,l,λv q n p j i=>?_⟩
 dsimp only at e;split at e
 ·cases e
  exact⟨_,j.ec,k _ q n p .bl i⟩
 ·cases e
noncomputable def EX(c:FB)(s A:FE):FE:=λb C=>(c b C).bind λp=>if p.1=true then s b p.2 else A b p.2
noncomputable def vL(s A c:FE)(p q:Int->Int->Bool):FE:=λb C=>(s b C).bind λx=>(A b x.2).bind λy=>match x.1,y.1 with
 | .int i,.int j=>if p i j=true then(c b y.2).bind λz=>match z.1 with
  | .int l=>some (.bl (q j l),z.2)
  |_=>none
   else some (.bl false,y.2)
 |_,_=>none
theorem QK{u:FE}{p q:Int->Int->Bool}(h:bu K (vL s A u p q) m H Q):
 qx (λx y H Q=>∃i j,x=.int i/\y=.int j/\Q (.bl (p i j)) H) (λx y H Q=>∃i j,x=.int i/\y=.int j/\Q (.bl (q i j)) H) (bu K s) (bu K A) (bu K u) m H Q:=by
 obtain⟨b,Z,ρ,c,C,t,C',R,e,k⟩:=h;unfold vL at e;obtain⟨⟨J,F⟩,U,e⟩:=eV e;obtain⟨⟨I,w⟩,S,e⟩:=eV e
 refine⟨b,Z,ρ,c,C,J,F,R,U,λx H1 Y R1 O n=>?_⟩
 refine⟨b,Z,Y,c,F,I,w,R1,S,λy H2 v R2 r l=>?_⟩
 dsimp only at e;split at e
 ·refine⟨_,_,O.int_inv,r.int_inv,_,rfl,?_⟩
  split at e
  ·rename_i g;rw[if_pos g];obtain⟨⟨G,C3⟩,P,e⟩:=eV e
   refine⟨b,Z,v,c,w,G,C3,R2,P,λz H3 X E N L=>?_⟩
   dsimp only at e;split at e
   ·cases e
    exact⟨_,_,r.int_inv,N.int_inv,k _ H3 X E .bl ((n.trans l).trans L)⟩
   ·cases e
  ·rename_i g;rw[if_neg g];cases e
   exact k _ H2 v R2 .bl (n.trans l)
 ·cases e
def sC(k B h:FE):FS:=λb C=>(k b C).bind λp=>(B b p.2).bind λq=>(h b q.2).bind λr=>match q.1,r.1 with
 | .cell c,.int i=>(lc r.2 c).bind λg=>(jm g.length i).map λj=>(.nx,b,r.2.set c (.l,g.set j p.1))
 |_,_=>none
theorem O6{q p:FE}(h:eH K W (sC q B p) D m H):Aq (bu K q) (BV (bu K B) (bu K p) Fi) D m H:=by
 obtain⟨b,Z,ρ,g,C,fl,ah,C',R,e,k⟩:=h;unfold sC at e;obtain⟨⟨I,u⟩,E,e⟩:=eV e;obtain⟨⟨G,t⟩,Y,e⟩:=eV e;obtain⟨⟨F,C3⟩,X,e⟩:=eV e
 refine⟨b,Z,ρ,g,C,I,u,R,E,λx H1 af R1 O J=>?_⟩
 refine⟨b,Z,af,g,u,G,t,R1,Y,λy H2 au R2 N l=>?_⟩
 refine⟨b,Z,au,g,t,F,C3,R2,X,λz H3 ba r L i=>?_⟩
 dsimp only at e;split at e
 ·obtain⟨ts,U,e⟩:=eV e;obtain⟨j,S,e⟩:=eZ e;cases e;have c:=N.step i;unfold RT at c;obtain⟨a,P,n⟩:=c;obtain⟨vs,c2,c3⟩:=r.mx n (kJ U);obtain⟨w,v⟩:=r.write n (by rw[c2];trivial) (c3.set ((O.step l).step i) j)
  exact⟨a,vs,_,j,P,L.int_inv,c2,by rw[c3.length];exact S,k m _ ba w (((J.trans l).trans i).ss.trans v)⟩
 ·cases e
def AR(B:FE)(s:FN)(g:List T->List T->Option (List T)):FS:=λb C=>(B b C).bind λp=>(s b p.2).bind λq=>match p.1 with
 | .cell c=>(lc p.2 c).bind λ_=>(lc q.2 c).bind λi=>(g i q.1).map λh=>(.nx,b,q.2.set c (.l,h))
 |_=>none
def EO(g:List V->List V->Option (List V)):V->List V->Hp->VK->Prop:=λx vs H Q=>∃l xs b,x=.ref l/\H l=some (.lst xs)/\g xs vs=some b/\Q .aH (upd H l (.lst b))
theorem HU{s:FN}{g:List T->List T->Option (List T)}{v:List V->List V->Option (List V)}
 (P:∀M ρ n l r vs xs,aw K M ρ n vs->aw K M ρ l xs->g n l=some r->∃i,v vs xs=some i/\aw K M ρ r i)
 (h:eH K W (AR B s g) D m H):Fz (Hi K "list" (EO v) (bu K B) (ia K s)) D m H:=by
 obtain⟨b,Z,ρ,q,C,fl,ah,C',R,e,k⟩:=h;unfold AR at e;obtain⟨⟨N,z⟩,e1,e⟩:=eV e;obtain⟨⟨L,C2⟩,E,e⟩:=eV e
 refine⟨b,Z,ρ,q,C,N,z,R,e1,λx H1 af w u O=>?_⟩
 dsimp only at e;split at e
 ·obtain⟨_,Y,e⟩:=eV e;obtain⟨n,X,e⟩:=eV e;obtain⟨l,U,e⟩:=eZ e;cases e
  refine⟨?_,b,Z,af,q,z,L,C2,w,E,λxs H2 au R2 S t=>?_⟩
  ·have c:=u;unfold RT at c;obtain⟨a,p,j⟩:=c;obtain⟨vs,c2,c3⟩:=w.mx j (kJ Y);rw[p]
   exact .inl ⟨rfl,vs,.of c2⟩
  ·have c:=u.step t;unfold RT at c;obtain⟨a,p,j⟩:=c;obtain⟨vs,c2,c3⟩:=R2.mx j (kJ X);obtain⟨i,G,F⟩:=P _ _ _ _ _ _ _ c3 S U;obtain⟨J,I⟩:=R2.write j (by rw[c2];trivial) F
   exact⟨a,vs,i,p,c2,G,k m _ au J ((O.trans t).ss.trans I)⟩
 ·cases e
end
mutual
def CF:T->Bool
 | .cell _=>false
 | .lst b=>ei b
 | .tup b=>ei b
 |_=>true
def ei:List T->Bool
 | []=>true
 |t::b=>CF t&&ei b
end
theorem xY{b:List T}:ei b=true↔∀t∈b,CF t=true:=by
 induction b with
 |nil=>simp[ei]
 |cons t b ih=>simp[ei,ih]
section
variable {K:aL}{s:St}{H:Hp}{Q:VK}
mutual
theorem RT.cf{M:Hp}{ρ ae:cx}:∀{t:T}{v:V},CF t=true->RT K M ρ t v->RT K M ae t v
 | .aH,_,_,h=>by unfold RT at*;exact h
 | .bl _,_,_,h=>by unfold RT at*;exact h
 | .int _,_,_,h=>by unfold RT at*;exact h
 | .str _,_,_,h=>by unfold RT at*;exact h
 | .exc _,_,_,h=>by unfold RT at*;exact h
 | .lst b,v,c,h=>by
   unfold RT at*;obtain⟨a,vs,e,q,r⟩:=h
   exact⟨a,vs,e,q,aw.cf (by unfold CF at c;exact c) r⟩
 | .tup b,v,c,h=>by
   unfold RT at*;obtain⟨a,vs,e,q,r⟩:=h
   exact⟨a,vs,e,q,aw.cf (by unfold CF at c;exact c) r⟩
 | .cell c,_,h,_=>by unfold CF at h;cases h
theorem aw.cf{M:Hp}{ρ ae:cx}:∀{b:List T}{vs:List V},ei b=true->aw K M ρ b vs->aw K M ae b vs
 | [],_,_,h=>by unfold aw at*;exact h
 |t::b,vs,c,h=>by
  unfold ei at c;rw[aRN]at c;unfold aw at*;obtain⟨v,r,e,f,d⟩:=h
  exact⟨v,r,e,RT.cf c.1 f,aw.cf c.2 d⟩
end
variable{B M N:Hp}{A:aD}{C:ab}{neg:Bool}{x y:V}{n m k:Nat}{F:List T->Option (List T)}{E:XK}{α:Type}{D:Addr}{is:List Nat}{g:FG}{I:FB}{L f:FE}
noncomputable def cg(f:T->Option T):List T->Option (List T)
 | []=>some []
 |t::b=>(f t).bind λu=>(cg f b).map (u:: ·)
def dr:Nat->ab->T->Option T
 |0,_,t=>if CF t=true then some t else none
 |n+1,C,.cell c=>(lc C c).bind λb=>(cg (dr n C) b).map T.lst
 |n+1,C,.lst b=>if ei b=true then some (.lst b)else(cg (dr n C) b).map T.lst
 |n+1,C,.tup b=>if ei b=true then some (.tup b)else(cg (dr n C) b).map T.tup
 |_+1,_,t=>if CF t=true then some t else none
theorem sI{Z:Addr->Prop}{ρ:cx}:cb (mask H Z ρ) (mask H Z []):=λa o h=>by
 obtain⟨c,d,b⟩:=jX h
 exact nQ c (by simp) b
theorem aw.cg{M N:Hp}{ρ ae:cx}{f:T->Option T}(i:∀t v d,RT K M ρ t v->f t=some d->RT K N ae d v):∀{c:List T}{vs:List V}{b:List T},aw K M ρ c vs->TL.cg f c=some b->aw K N ae b vs
 | [],_,_,h,e=>by cases e;rw[h.nil_inv];exact .nil
 |t::c,_,b,h,e=>by
  obtain⟨v,r,rfl,l,j⟩:=h.cons_inv;unfold TL.cg at e;obtain⟨u,q,e⟩:=eV e;obtain⟨b,p,rfl⟩:=eZ e
  exact .cons (i t v u l q) (aw.cg i j p)
theorem Rel.dr{Z:Addr->Prop}{ρ:cx}(R:Rel K B Z ρ A C s H):∀(n:Nat)(t:T)(v:V)(i:T),RT K (mask H Z ρ) ρ t v->TL.dr n C t=some i->RT K (mask H Z []) [] i v:=by
 intro n;induction n with
 |zero=>
  intro t v i h e;unfold TL.dr at e;split at e
  ·rename_i d;cases e
   exact(h.cf d).mono sI (λc a z=>z)
  ·cases e
 |succ n ih=>
  intro t v i h e;by_cases d:∃c,t=.cell c
  ·obtain⟨c,rfl⟩:=d;unfold TL.dr at e;obtain⟨G,J,e⟩:=eV e;obtain⟨w,q,rfl⟩:=eZ e;unfold RT at h;obtain⟨a,l,j⟩:=h;obtain⟨vs,c2,c3⟩:=R.mx j (kJ J);unfold RT
   exact⟨a,vs,l,.of (nQ (R.bx a (aZ j)).2 (by simp) c2),c3.cg ih q⟩
  ·have fin:CF t=true->t=i->RT K (mask H Z []) [] i v:=λd z=>by
    subst z
    exact(h.cf d).mono sI (λc a z=>z)
   have b:∀{p:Bool}{u:T},(if p=true then some u else none)=some i->p=true/\u=i:=λ{p u} z=>by
    cases p with
    |true=>exact⟨rfl,cE.inj z⟩
    |false=>cases z
   cases t with
   |cell c=>exact absurd ⟨c,rfl⟩ d
   |lst G=>
    unfold TL.dr at e;split at e
    ·rename_i d
     exact fin (by unfold CF;exact d) (cE.inj e)
    ·obtain⟨w,q,rfl⟩:=eZ e;unfold RT at h;obtain⟨a,vs,l,j,r⟩:=h;unfold RT
     exact⟨a,vs,l,sI.seq j,r.cg ih q⟩
   |tup G=>
    unfold TL.dr at e;split at e
    ·rename_i d
     exact fin (by unfold CF;exact d) (cE.inj e)
    ·obtain⟨w,q,rfl⟩:=eZ e;unfold RT at h;obtain⟨a,vs,l,j,r⟩:=h;unfold RT
     exact⟨a,vs,l,sI _ _ j,r.cg ih q⟩
   |aH=>exact fin (b e).1 (b e).2
   |bl _=>exact fin (b e).1 (b e).2
   |int _=>exact fin (b e).1 (b e).2
   |str _=>exact fin (b e).1 (b e).2
   |exc _=>exact fin (b e).1 (b e).2
noncomputable def su:T->T->Option Bool
 | .bl a,.bl b=>some (a==b)
 | .int a,.int b=>some (a==b)
 | .str a,.str b=>some (a==b)
 |_,_=>none
noncomputable def n3(e:T->T->Option Bool):List T->List T->Option Bool
 | [],[]=>some true
 |x::xs,y::c=>(e x y).bind λa=>(n3 e xs c).map λb=>a&&b
 |_,_=>none
def eqT:Nat->T->T->Option Bool
 |n+1,.lst xs,.lst ys=>if xs.length=ys.length then n3 (eqT n) xs ys else some false
 |_,a,b=>su a b
def EW(K:aL)(neg:Bool):R2:=λx y H Q=>∃d c b,RT K H [] d x/\RT K H [] c y/\eqT 5 d c=some b/\Q (.bl (if neg then !b else b)) H
def n2(neg:Bool)(i h:T)(C:ab):Option (T×ab):=(dr 3 C i).bind λd=>(dr 3 C h).bind λc=>(eqT 5 d c).map λb=>(.bl (if neg then !b else b),C)
theorem E3(h:∃i d,h9 K s [i,d] [x,y] (n2 neg i d) H Q):EW K neg x y H Q:=by
 obtain⟨i,d,B,Z,ρ,A,C,t,G,R,r,e,k⟩:=h;obtain⟨_,_,z,q,r⟩:=r.cons_inv;cases z;obtain⟨_,_,z,p,r⟩:=r.cons_inv;cases z;unfold n2 at e;obtain⟨l,w,e⟩:=eV e;obtain⟨j,v,e⟩:=eV e;obtain⟨b,u,e⟩:=eZ e;cases e
 exact⟨l,j,b,(R.dr _ _ _ _ q w).mono nW (λc a z=>z),(R.dr _ _ _ _ p v).mono nW (λc a z=>z),u,k _ H ρ R .bl .refl⟩
noncomputable def x3(e:T->Option Bool):List T->Option Bool
 | []=>some false
 |x::xs=>(e x).bind λa=>(x3 e xs).map λb=>a||b
def ET(K:aL)(neg:Bool):R2:=λx y H Q=>∃t p vs c b,RT K H [] t x/\y=.ref p/\di K H p vs/\aw K H [] c vs/\x3 (λu=>eqT 5 u t) c=some b/\Q (.bl (if neg then !b else b)) H
def ry(neg:Bool)(j i:T)(C:ab):Option (T×ab):=(dr 3 C j).bind λd=>(du C i).bind λh=>(cg (dr 3 C) h).bind λc=>(x3 (λu=>eqT 5 u d) c).map λb=>(.bl (if neg then !b else b),C)
theorem Hz(h:∃i d,h9 K s [i,d] [x,y] (ry neg i d) H Q):ET K neg x y H Q:=by
 obtain⟨i,d,B,Z,ρ,A,C,t,Y,R,r,e,k⟩:=h;obtain⟨_,_,z,u,r⟩:=r.cons_inv;cases z;obtain⟨_,_,z,q,r⟩:=r.cons_inv;cases z;unfold ry at e;obtain⟨l,S,e⟩:=eV e;obtain⟨U,P,e⟩:=eV e;obtain⟨j,J,e⟩:=eV e;obtain⟨b,O,e⟩:=eZ e;cases e;obtain⟨a,vs,G,w,p⟩:=R.li q P
 exact⟨l,a,vs,j,b,(R.dr _ _ _ _ u S).mono nW (λc a z=>z),G,w,p.cg (λt v X h e=>(R.dr _ _ _ _ h e).mono nW (λc a z=>z)) J,O,k _ H ρ R .bl .refl⟩
def spT(K:aL)(n:Nat)(F:List T->Option T):Sp:=λvs H Q _=>∃Z b t,b.length=n/\(∀a,Z a->NT (H a))/\aw K (mask H Z []) [] b vs/\F b=some t/\
 ∀v H',cb H H'->RT K (mask H' Z []) [] t v->Q v H'
def zr(K:aL)(n:Nat)(F:List T->Option (List T)):Sp:=λvs H Q _=>∃Z b d,b.length=n/\(∀a,Z a->NT (H a))/\aw K (mask H Z []) [] b vs/\F b=some d/\
 ∀p H' c,cb H H'->H' p=none->aw K (mask H' Z []) [] d c->Q (.ref p) (upd H' p (.lst c))
theorem hV{F:List T->Option T}:∀vs H Q E,spT K n F vs H Q E->vs.length=n:=λvs H Q E b=>by obtain⟨Z,c,t,h,_,r,_⟩:=b;rw[r.length,h]
theorem SM:∀vs H Q E,zr K n F vs H Q E->vs.length=n:=λvs H Q E b=>by obtain⟨Z,c,t,h,_,r,_⟩:=b;rw[r.length,h]
noncomputable def oi:T->Bool
 | .aH=>true
 | .bl _=>true
 | .int _=>true
 | .str _=>true
 |_=>false
theorem RT.oi{ρ ae:cx}{t:T}{v:V}(b:TL.oi t=true)(h:RT K M ρ t v):RT K N ae t v:=by
 cases t with
 |aH=>unfold RT at*;exact h
 |bl _=>unfold RT at*;exact h
 |int _=>unfold RT at*;exact h
 |str _=>unfold RT at*;exact h
 |_=>cases b
theorem aw.oi{ρ ae:cx}:∀{b:List T}{vs:List V},b.all TL.oi=true->aw K M ρ b vs->aw K N ae b vs
 | [],_,_,h=>by rw[h.nil_inv];exact .nil
 |t::b,_,c,h=>by
  obtain⟨v,r,rfl,i,d⟩:=h.cons_inv;rw[aTj,aRN]at c
  exact .cons (i.oi c.1) (d.oi c.2)
def jZ(n:Nat)(F:List T->Option T)(b:List T)(C:ab):Option (T×ab):=if b.length=n then
 if ei b=true then(F b).map λt=>(t,C)
 else(cg (dr 3 C) b).bind λc=>(F c).bind λt=>if oi t=true then some (t,C)else none
 else none
def vV(n:Nat)(F:List T->Option (List T))(b:List T)(C:ab):Option (List T):=if b.length=n then
 if ei b=true then F b
 else(cg (dr 3 C) b).bind λc=>(F c).bind λt=>if t.all oi=true then some t else none
 else none
theorem vC{Z:Addr->Prop}{ρ:cx}:mask H (λa=>Z a\/a∈ρ) []=mask H Z ρ:=by
 funext a;unfold mask;by_cases h:Z a\/a∈ρ
 ·rw[if_pos (.inl h),if_pos h]
 ·rw[if_neg (by rintro(z|z);·exact h z
                ·cases z),if_neg h]
theorem GU{f:T->Option T}:∀{c b:List T},cg f c=some b->b.length=c.length
 | [],_,e=>by cases e;rfl
 |t::c,b,e=>by
  unfold cg at e;obtain⟨u,h,e⟩:=eV e;obtain⟨b,d,rfl⟩:=eZ e;simp[GU d]
theorem Rel.gv{Z:Addr->Prop}{ρ:cx}(R:Rel K B Z ρ A C s H){a:Addr}(i:a∈ρ):NT (H a):=by
 obtain⟨c,b⟩:=fT i;obtain⟨_,_,_,_,h,d,_⟩:=R.jg c a b;rw[h];exact d.nt
theorem O8{F:List T->Option T}{vs:List V}(h:∃b,h9 K s b vs (jZ n F b) H Q):spT K n F vs H Q E:=by
 obtain⟨b,B,Z,ρ,A,C,t,O,R,r,e,k⟩:=h;unfold jZ at e;split at e
 ·rename_i l;split at e
  ·rename_i w;obtain⟨u,i,e⟩:=eZ e;cases e
   refine⟨λa=>Z a\/a∈ρ,b,_,l,λa z=>?_,by rw[vC];exact r.cf w,i,λv H' sm d=>?_⟩
   ·rcases z with z|z
    ·exact R.zd a z
    ·exact R.gv z
   ·obtain⟨j,st⟩:=R.same sm;rw[vC]at d
    exact k v H' ρ j (d.mono (.refl _) (λc a z=>by cases z)) st
  ·obtain⟨p,i,e⟩:=eV e;obtain⟨u,G,e⟩:=eV e;split at e
   ·rename_i q;cases e
    refine⟨Z,p,_,(GU i).trans l,R.zd,r.cg (λt v J h e=>R.dr _ _ _ _ h e) i,G,λv H' sm d=>?_⟩
    obtain⟨j,st⟩:=R.same sm
    exact k v H' ρ j (d.oi q) st
   ·cases e
 ·cases e
theorem Sx{vs:List V}(h:∃d,vz K s d vs (vV n F d) H Q):zr K n F vs H Q E:=by
 obtain⟨d,B,Z,ρ,A,C,P,R,r,e,k⟩:=h;unfold vV at e;split at e
 ·rename_i q;split at e
  ·rename_i J
   refine⟨λa=>Z a\/a∈ρ,d,_,q,λa z=>?_,by rw[vC];exact r.cf J,e,λp H' b sm j i=>?_⟩
   ·rcases z with z|z
    ·exact R.zd a z
    ·exact R.gv z
   ·obtain⟨l,st⟩:=R.same sm;rw[vC]at i
    exact k p H' ρ b l j (i.mono (.refl _) (λc a z=>by cases z)) st
  ·obtain⟨b,w,e⟩:=eV e;obtain⟨u,O,e⟩:=eV e;split at e
   ·rename_i G;cases e
    refine⟨Z,b,_,(GU w).trans q,R.zd,r.cg (λt v S h e=>R.dr _ _ _ _ h e) w,O,λp H' b sm j i=>?_⟩
    obtain⟨l,st⟩:=R.same sm
    exact k p H' ρ b l j (i.oi G) st
   ·cases e
 ·cases e
noncomputable def gp(m:Nat)(b:List T):aD:=b.map some++aP (m - b.length) none
theorem Rel.start{Z:Addr->Prop}{b:List T}{vs:List V}(j:∀a,Z a->NT (H a))(h:aw K (mask H Z []) [] b vs):
 Rel K H Z [] (gp m b) [] (vs.map some++aP (m - vs.length) none) H:=by
 refine⟨.refl _,(λa l=>nomatch l),aTe,j,λi t e=>?_,(λc a e=>nomatch e),rfl,by simp[gp,h.length]⟩
 unfold gp at e;have d:i<b.length:=by
  by_cases d:i<b.length
  ·exact d
  ·rw[bD (by simpa using d),cN]at e;split at e<;>cases e
 rw[aW (by simpa using d),bA]at e;cases q:b[i]?with
 |none=>rw[q]at e;cases e
 |some u=>
  rw[q]at e;cases e;obtain⟨v,r,p⟩:=h.get q
  refine⟨v,?_,p⟩
  rw[aW (by simpa[h.length]using d),bA,r];rfl
def CP(t:T):Fl×aD×ab->Prop
 | (.rt r,_,C)=>dr 3 C r=some t
 | (.nx,_,_)=>t=.aH
 |_=>False
def CQ(b:List T):Fl×aD×ab->Prop
 | (.rt (.cell c),_,C)=>lc C c=some b/\ei b=true
 |_=>False
theorem iL{G:List T->Option T}{F:FS}{vs:List V}(w:∀b t,b.length=n->G b=some t->∃r,F (gp m b) []=some r/\CP t r)(h:spT K n G vs H Q E):
 eH K W F {nx:=λ_ H'=>Q .aH H',rt:=Q} (vs.map some++aP (m - vs.length) none) H:=by
 obtain⟨Z,b,t,q,l,r,e,k⟩:=h;obtain⟨⟨j,J,O⟩,z,d⟩:=w b t q e
 refine⟨H,Z,[],gp m b,[],j,J,O,Rel.start l r,z,λP H' ae i _=>?_⟩
 cases j with
 |nx=>
  have:t=.aH:=d;subst this
  exact k .aH H' i.old .aH
 |bk=>exact False.elim d
 |ct=>exact False.elim d
 |rt u=>exact λv p=>k v H' i.old (i.dr _ _ _ _ p d)
 |ex c=>exact False.elim d
theorem O4{G:List T->Option (List T)}{F:FS}{vs:List V}(Y:∀i t,i.length=n->G i=some t->∃r,F (gp m i) []=some r/\CQ t r)(h:zr K n G vs H Q E):
 eH K W F {nx:=λ_ H'=>Q .aH H',rt:=Q} (vs.map some++aP (m - vs.length) none) H:=by
 obtain⟨Z,i,S,l,U,r,e,k⟩:=h;obtain⟨⟨P,ah,C'⟩,e1,d⟩:=Y i S l e
 refine⟨H,Z,[],gp m i,[],P,ah,C',Rel.start U r,e1,λai H' ae p _=>?_⟩
 cases P with
 |nx=>exact False.elim d
 |bk=>exact False.elim d
 |ct=>exact False.elim d
 |ex c=>exact False.elim d
 |rt u=>
  cases u with
  |cell c=>
   obtain⟨d,e3⟩:=d;intro v O;unfold RT at O;obtain⟨a,ea,J⟩:=O;obtain⟨w,c2,c3⟩:=p.mx J (kJ d);subst ea;have R:=aZ J;have l:(λb=>if b=a then none else H' b) a=none:=if_pos rfl;have X:upd (λb=>if b=a then none else H' b) a (.lst w)=H':=by
    funext b;unfold upd;by_cases j:b=a
    ·subst j;rw[if_pos rfl,c2]
    ·rw[if_neg j];exact if_neg j
   have q:=k a (λb=>if b=a then none else H' b) w (λb o z=>?_) l ((c3.cf e3).mono (λb o z=>?_) (λc a z=>z))
   ·rw[X]at q;exact q
   ·have j:b≠a:=by
     rintro rfl;rw[(p.bx b R).1]at z;cases z
    show(if b=a then none else H' b)=some o;rw[if_neg j]
    exact p.old b o z
   ·obtain⟨h1,h2,h3⟩:=jX z
    refine nQ h1 (by simp) ?_
    show(if b=a then none else H' b)=some o;rw[if_neg (by rintro rfl;exact h2 R)]
    exact h3
  |_=>exact False.elim d
def zP(r:TI)(u:St->St)(g:TG)(I:TT)(t:TE):TE:=λs H Q=>r s H λJ q=>∀D,q D=none->∃W:Nat->Nat->St->Hp->Prop,(∃m,W 0 m (u s) (upd q D (.lst [])))/\∀i m j H,W i m j H->
 (J.stop i H/\Q (.ref D) H)\/(J.go i H/\∀x H',J.zc i H x H'->g x j H' λd v=>I d v λb p=>
  if b=true then t d p λy l=>∃h c,l D=some (.lst h)/\h.length<lim/\c<m/\W (i+1) c d (upd l D (.lst (h++[y])))else∃c,c<m/\W (i+1) c d p)
open Classical in
noncomputable def kp{α:Type}(C D:ab)(x:Option α):Option α:=if C<+:D then x else none
theorem Fs{D:ab}{x:Option α}(h:C<+:D):kp C D x=x:=if_pos h
theorem KB{x:Option α}:kp C C x=x:=Fs (aS2 _)
theorem KD{D:ab}{x:Option α}{y:α}(h:kp C D x=some y):C<+:D/\x=some y:=by
 unfold kp at h;split at h
 ·exact⟨by assumption,h⟩
 ·cases h
def kD(g:FG)(I:FB)(L:FE)(A:aD):List T->ab->Option (List T×ab)
 | [],C=>some ([],C)
 |t::c,C=>(g t C A).bind λd=>(I d C).bind λb=>if b.1=true then(L d b.2).bind λy=>kp C y.2 ((kD g I L A c y.2).map λr=>(y.1::r.1,r.2))else kp C b.2 (kD g I L A c b.2)
noncomputable def fw(k:Nat)(is:List Nat)(A:aD):aD:=aP k none++is.map λi=>(A[i]?).getD none
noncomputable def mn(k:Nat)(is:List Nat)(s:St):St:=aP k none++is.map λi=>(s[i]?).getD none
def kv(k:Nat)(g:FG):Prop:=∀t C A b,g t C A=some b->b.length=A.length/\∀j,k<=j->b[j]?=A[j]?
theorem Rel.zi{Z:Addr->Prop}{ρ:cx}{o:HO}(R:Rel K B Z ρ A C s H)(c:Z D)(J:B D=none)(p:NT (some o)):Rel K B Z ρ A C s (upd H D o)/\mask (upd H D o) Z ρ=mask H Z ρ:=by
 have em:mask (upd H D o) Z ρ=mask H Z ρ:=by
  funext b;unfold mask;split
  ·rfl
  ·rename_i q;rw[gH (by rintro rfl;exact q (.inl c))]
 refine⟨⟨λb u q=>?_,R.bx,R.nd,λb z=>?_,λi t e=>?_,λd b e=>?_,R.len,R.ro⟩,em⟩
 ·rw[gH (by rintro rfl;rw[J]at q;cases q)]
  exact R.old b u q
 ·by_cases h:b=D
  ·subst h;rw[j8];exact p
  ·rw[gH h];exact R.zd b z
 ·rw[em];exact R.loc i t e
 ·rw[em];obtain⟨l,j,ob,G,w,r,v⟩:=R.jg d b e
  refine⟨l,j,ob,G,?_,r,v⟩
  rw[gH]
  ·exact w
  ·rintro rfl
   exact(R.bx b (aZ e)).2 c
theorem K7{b:aD}(d:b.length=(fw k is A).length)(h:∀j,k<=j->b[j]?=(fw k is A)[j]?):∀(i:Nat) t,(fw k is A)[i]?=some (some t)->b[i]?=some (some t):=λi t e=>by
 by_cases c:i<k
 ·unfold fw at e;rw[aW (by simpa using c),cN,if_pos c]at e;cases e
 ·rw[h i (by lia)];exact e
theorem sD{J:It}{Z:Addr->Prop}{ρ:cx}{C':ab}{P:ab->Prop}{S ys:List T}{H1:Hp}
 (R:Rel K B Z ρ A C s H1)(hg:kv k g)(w:AE K J Z H1 ρ S P)(hP:P C)(hPm:∀C C2:ab,C<+:C2->P C->P C2)(hl:S.length<lim)(e:kD g I L (fw k is A) S C=some (ys,C'))(hD:H1 D=none)
 (q:∀p H' ae vs,Rel K B Z ae A C' s H'->H' p=none->aw K (mask H' Z ae) ae ys vs->Step H1 H' ρ ae->Q (.ref p) (upd H' p (.lst vs))):
 ∃W:Nat->Nat->St->Hp->Prop,(∃m,W 0 m (mn k is s) (upd H1 D (.lst [])))/\∀i m gr H,W i m gr H->
  (J.stop i H/\Q (.ref D) H)\/(J.go i H/\∀x H',J.zc i H x H'->ly K g x gr H' λbn H2=>jf K I bn H2 λb H3=>
   if b=true then bu K L bn H3 λy H4=>∃ys m',H4 D=some (.lst ys)/\ys.length<lim/\m'<m/\W (i+1) m' bn (upd H4 D (.lst (ys++[y])))else∃m',m'<m/\W (i+1) m' bn H3):=by
 obtain⟨nz,nr,n0⟩:=R.fx hD;have hZD:∀a,Z a->a≠D:=λa z h=>by subst h;exact nz z
 refine⟨λi m gr H=>∃ae C1 done rest vs,m=rest.length/\S.drop i=rest/\i<=S.length/\done.length<=i/\Rel K B (λa=>Z a\/a=D) ae (fw k is A) C1 gr H/\H D=some (.lst vs)/\
  aw K (mask H (λa=>Z a\/a=D) ae) ae done vs/\Step H1 H ρ ae/\P C1/\∃yr,kD g I L (fw k is A) rest C1=some (yr,C')/\ys=done++yr,?_,?_⟩
 ·refine⟨S.length,ρ,C,[],S,[],rfl,rfl,dM _,bE _,?_,j8,.nil,?_,hP,ys,e,rfl⟩
  ·have sm:cb (mask H1 Z ρ) (mask (upd H1 D (.lst [])) (λa=>Z a\/a=D) ρ):=λa o z=>by
    obtain⟨Y,G,U⟩:=jX z;have ne:a≠D:=λz=>by rw[z,hD]at U;cases U
    exact nQ (by rintro(z|z);·exact Y z
                 ·exact ne z) G (by rw[gH ne];exact U)
   refine⟨λb o z=>?_,λa r=>⟨(R.bx a r).1,?_⟩,R.nd,λa z=>?_,λi t z=>?_,λc a z=>?_,R.len,by simp[fw,mn]⟩
   ·rw[gH (by rintro rfl;rw[n0]at z;cases z)]
    exact R.old b o z
   ·rintro(z|z)
    ·exact(R.bx a r).2 z
    ·subst z;exact nr r
   ·by_cases r:a=D
    ·subst r;rw[j8];trivial
    ·rw[gH r];rcases z with z|z
     ·exact R.zd a z
     ·exact absurd z r
   ·unfold fw at z;by_cases hi:i<k
    ·rw[aW (by simpa using hi),cN,if_pos hi]at z;cases z
    ·rw[bD (by simpa using aRM hi),bA]at z;obtain⟨j,hj,z⟩:=eZ z;have qf:A[j]?=some (some t):=by
      cases q:A[j]?with
      |none=>rw[q]at z;cases z
      |some u=>rw[q]at z;exact congrArg some z
     obtain⟨v,Y,G⟩:=R.loc j t qf
     refine⟨v,?_,G.mono sm (λc a z=>z)⟩
     unfold mn;rw[bD (by simpa using aRM hi),bA];simp only[eJ]at hj|-;rw[hj];simp[Y]
   ·obtain⟨us,vs,ob,Y,G,h4,U⟩:=R.jg c a z
    refine⟨us,vs,ob,Y,?_,h4,U.mono sm (λc a z=>z)⟩
    rw[gH (by rintro rfl;rw[hD]at G;cases G)]
    exact G
  ·exact .of0 λb o z=>by
    rw[gH (by rintro rfl;rw[hD]at z;cases z)]
    exact z
 ·rintro i m gr H ⟨ae,C1,done,rest,vs,rfl,hd,hi,kr,X,zx,rd,O,og,yr,d,yl⟩;have ix:∀(c:Nat)(a:Addr),ρ[c]?=some a->ae[c]?=some a:=O.idx;have smm:cb (mask H1 Z ρ) (mask H (λa=>Z a\/a=D) ae):=λa o z=>by
   obtain⟨Y,G,U⟩:=jX z;have ne:a≠D:=λz=>by rw[z,hD]at U;cases U
   refine nQ (by rintro(z|z);·exact Y z
                 ·exact ne z) (O.kept a o U G).1 (O.kept a o U G).2
  cases rest with
  |nil=>
   have ff:i=S.length:=by
    have:S.length<=i:=by simpa using hd
    lia
   subst ff;cases d
   refine .inl ⟨w.stop _ _ _ _ _ _ _ X smm ix (.inl og) O.fz,?_⟩
   have hm:mask (fun b=>if b=D then none else H b) Z ae=mask H (fun a=>Z a\/a=D) ae:=by
    funext a;unfold mask;by_cases r:a=D
    ·subst r;rw[if_pos (show(Z a\/a=a)\/a∈ae from .inl (.inr rfl))];split
     ·rfl
     ·exact if_pos rfl
    ·by_cases hz:Z a\/a∈ae
     ·rw[if_pos hz,if_pos (by rcases hz with z|z;·exact .inl (.inl z)
                              ·exact .inr z)]
     ·rw[if_neg hz,if_neg (by rintro((z|z)|z);·exact hz (.inl z)
                              ·exact r z
                              ·exact hz (.inr z))]
      exact if_neg r
   have hu:upd (λb=>if b=D then none else H b) D (.lst vs)=H:=by
    funext b;unfold upd;by_cases hb:b=D
    ·subst hb;rw[if_pos rfl,zx]
    ·rw[if_neg hb];exact if_neg hb
   have st:Step H1 (λb=>if b=D then none else H b) ρ ae:=⟨λb o z n=>⟨(O.kept b o z n).1,by
    show(if b=D then none else H b)=some o;rw[if_neg (by rintro rfl;rw[hD]at z;cases z)]
    exact(O.kept b o z n).2⟩,O.pre,λb ob u z=>by
    show(if b=D then none else H b)=_;rw[if_neg (by rintro rfl;rw[hD]at z;cases z)]
    exact O.fz b ob u z⟩
   have R2:Rel K B Z ae A C' s (λb=>if b=D then none else H b):=by
    refine⟨λb o z=>by
     show(if b=D then none else H b)=some o;rw[if_neg (by rintro rfl;rw[n0]at z;cases z)]
     exact X.old b o z,λa r=>⟨(X.bx a r).1,λz=>(X.bx a r).2 (.inl z)⟩,X.nd,λa z=>(by
     show NT (if a=D then none else H a);rw[if_neg (hZD a z)];exact X.zd a (.inl z)),λj t z=>?_,λc a z=>?_,X.len,R.ro⟩
    ·obtain⟨v,Y,G⟩:=R.loc j t z
     exact⟨v,Y,G.step st⟩
    ·obtain⟨us,ws,ob,Y,G,h4,U⟩:=X.jg c a z
     refine⟨us,ws,ob,Y,?_,h4,by rw[hm];exact U⟩
     show(if a=D then none else H a)=_;rw[if_neg (λz'=>(X.bx a (aZ z)).2 (.inr z'))]
     exact G
   have fin:=q D (λb=>if b=D then none else H b) ae vs R2 (if_pos rfl) (by rw[hm,yl,aQ];exact rd) st;rw[hu]at fin
   exact fin
  |cons t rest=>
   have ht:S[i]?=some t:=by
    have:=congrArg (λl=>l[0]?) hd;simpa using this
   have bh:i<S.length:=(fA ht).1;have jr:S.drop (i+1)=rest:=by
    have:=congrArg aTG hd;simpa using this
   obtain⟨g1,g2⟩:=w.go i t _ _ ae _ C1 gr H ht X smm ix (.inl og) O.fz
   refine .inr ⟨g1,λx H' hy=>?_⟩
   obtain⟨smy,rx⟩:=g2 x H' hy;obtain⟨vp,ay⟩:=X.same smy;unfold kD at d;obtain⟨ap,eg,d⟩:=eV d;obtain⟨⟨b,C2⟩,et,d⟩:=eV d;obtain⟨o1,o2⟩:=hg _ _ _ _ eg
   refine⟨_,_,ae,_,C1,t,ap,vp,rx,eg,λbn R2=>?_⟩
   refine⟨_,_,ae,ap,C1,b,C2,R2,et,λH3 ba R3 s3=>?_⟩
   have vx:=ay.trans s3;have nD:D∉ae:=λz=>(X.bx D z).2 (.inr rfl)
   cases b with
   |false=>
    rw[if_neg (by simp)]at d;obtain⟨yw,d⟩:=KD d;dsimp only;rw[if_neg (by simp)]
    exact⟨rest.length,by simp,ba,C2,done,rest,vs,rfl,jr,bh,aR7 kr,R3.weak (by rw[o1]) (K7 o1 o2),(vx.kept _ _ zx nD).2,rd.step vx,O.trans vx,hPm _ _ yw og,yr,d,yl⟩
   |true=>
    rw[if_pos rfl]at d;dsimp only;rw[if_pos rfl];obtain⟨⟨ty,C3⟩,ee,d⟩:=eV d;obtain⟨yw,d⟩:=KD d;obtain⟨⟨yr',C4⟩,e3,e2⟩:=eZ d;cases e2
    refine⟨_,_,ba,ap,C2,ty,C3,R3,ee,λy H4 jy R4 hy4 s4=>?_⟩
    have px:=vx.trans s4;have rd4:=rd.step px;obtain⟨R5,em⟩:=R4.zi (D:=D) (o:=.lst (vs++[y])) (.inr rfl) n0 trivial
    refine⟨vs,rest.length,(px.kept _ _ zx nD).2,by rw[rd.length];lia,by simp,jy,C3,done++[ty],rest,vs++[y],rfl,jr,bh,by simp;lia,R5.weak (by rw[o1]) (K7 o1 o2),j8,?_,?_,hPm _ _ yw og,yr',e3,by rw[yl];simp⟩
    ·rw[em]
     exact rd4.append (.cons hy4 .nil)
    ·exact⟨λb o z n=>⟨((O.trans px).kept b o z n).1,by
      rw[gH (by rintro rfl;rw[hD]at z;cases z)]
      exact((O.trans px).kept b o z n).2⟩,(O.trans px).pre,λb ob u z=>by
      rw[gH (by rintro rfl;rw[hD]at z;cases z)]
      exact(O.trans px).fz b ob u z⟩
theorem Ju{d:ab}{c:Nat}{b:List T}(h:C<+:d)(e:lc C c=some b):lc d c=some b:=by
 obtain⟨D,rfl⟩:=h;rw[nM]at e|-;rw[aW (fA e).1];exact e
theorem sT{t:T}{b:List T}(C c:ab)(h:C<+:c)(e:stays t b C):stays t b c:=by
 unfold stays at*;split
 ·exact Ju h e
 ·trivial
def kZ(f:FE)(k:Nat)(is:List Nat)(g:FG)(I:FB)(L:FE):FN:=λA C=>(f A C).bind λp=>(du p.2 p.1).bind λb=>if b.length<lim then kD g I L (fw k is A) b p.2 else none
theorem Iy(G:kv k g)(h:ke K (kZ f k is g I L) s H Q):zP (Fv K (bu K f)) (mn k is) (ly K g) (jf K I) (bu K L) s H Q:=by
 obtain⟨B,Z,ρ,A,C,X,C',R,e,q⟩:=h;unfold kZ at e;obtain⟨⟨t,U⟩,P,e⟩:=eV e;obtain⟨Y,b,e⟩:=eV e;split at e
 ·rename_i z
  refine⟨B,Z,ρ,A,C,t,U,R,P,λv H1 af c d i=>?_⟩
  obtain⟨a,vs,O,u,r⟩:=c.li d b;subst O
  exact⟨a,rfl,⟨vs,u⟩,λD J=>sD c G (KW c d b) (pU b) sT z e J λp H' ae vs S w l j=>q p H' ae vs S w l (i.trans j)⟩
 ·cases e
def lA(f:FE)(k:Nat)(is:List Nat)(g:FG)(I:FB)(L:FE):FN:=λA C=>(f A C).bind λp=>match p.1 with
 | .int j=>if j<400000/\ -(2^62)<=j then kD g I L (fw k is A) (wB 0 j.toNat) p.2 else none
 |_=>none
theorem yM(w:kv k g)(h:ke K (lA f k is g I L) s H Q):zP (Fq (ia K (fB f fP))) (mn k is) (ly K g) (jf K I) (bu K L) s H Q:=by
 obtain⟨B,Z,ρ,A,C,U,C',R,e,q⟩:=h;unfold lA at e;obtain⟨⟨t,S⟩,J,e⟩:=eV e;dsimp only at e;split at e
 ·split at e
  ·rename_i u
   refine⟨B,Z,ρ,A,C,_,S,R,by simp[fB,fP,J];rfl,λvs Y X O G b=>?_⟩
   obtain⟨v,r,rfl,j,i⟩:=G.cons_inv;rw[i.nil_inv]
   refine⟨_,by rw[j.int_inv],u.2,by lia,λD z=>sD (P:=λ_=>True) O w vM trivial (λ_ _ _ _=>trivial) (by simp[wB,lim];lia) e z λp H' ae vs P l d c=>q p H' ae vs P l d (b.trans c)⟩
  ·cases e
 ·cases e
theorem kK{i:Nat}(h:i<k):kv k (gN i):=λt C A c e=>by
 cases e
 refine⟨by simp,λj b=>?_⟩
 rw[aT (by lia)]
theorem yR{k:Nat}:∀(is:List Nat)(b:List T)(A:aD),(∀i∈is,i<k)->(dc is b A).length=A.length/\∀j,k<=j->(dc is b A)[j]?=A[j]?
 | [],_,_,_=>by simp[dc]
 |i::is,[],_,_=>by simp[dc]
 |i::is,t::b,A,h=>by
  obtain⟨l,d⟩:=yR (k:=k) is b (A.set i (some t)) (λj c=>h j (aX _ c));have p:=h i bC
  refine⟨by simp[dc,l],λj c=>?_⟩
  show(dc is b (A.set i (some t)))[j]?=_;rw[d j c,aT (by lia)]
theorem oP(h:∀i∈is,i<k):kv k (gU is):=λt C A d e=>by
 unfold gU at e;obtain⟨b,c,e⟩:=eV e;split at e
 ·cases e
  exact yR is b A h
 ·cases e
end
section
variable {K:aL}{d:St}{H:Hp}
variable{Q:VK}{l:FN}{m:FE}{r:List V->Hp->VK->Prop}
theorem jT{f:FE}{i:VK}(h:bu K f d H Q)(n:∀v H',Q v H'->i v H'):bu K f d H i:=by
 obtain⟨g,Z,ρ,j,C,t,p,R,e,k⟩:=h
 exact⟨g,Z,ρ,j,C,t,p,R,e,λv H' ae a b c=>n _ _ (k v H' ae a b c)⟩
theorem pV{f:FN}{Q i:List V->Hp->Prop}(h:ia K f d H Q)(n:∀v H',Q v H'->i v H'):ia K f d H i:=by
 obtain⟨g,Z,ρ,j,C,t,p,R,e,k⟩:=h
 exact⟨g,Z,ρ,j,C,t,p,R,e,λv H' ae a b c=>n _ _ (k v H' ae a b c)⟩
theorem yI{l:FE}{g:T->T->ab->Option (T×ab)}{r:R2}(f:∀d H Q x y,(∃c b,h9 K d [c,b] [x,y] (g c b) H Q)->r x y H Q)(h:bu K (j3 l m g) d H Q):zm r (bu K l) (bu K m) d H Q:=
 jT (Dv h) λ_ _ q=>jT q λ_ _ q=>f _ _ _ _ _ q
theorem Nz{l:FE}{g:T->T->ab->Option (List T)}{r:R2}(f:∀d H Q x y,(∃c b,vz K d [c,b] [x,y] (g c b) H Q)->r x y H Q)(h:ke K (AB l m g) d H Q):zm r (bu K l) (bu K m) d H Q:=
 jT (Pf h) λ_ _ q=>jT q λ_ _ q=>f _ _ _ _ _ q
theorem HD{g:List T->ab->Option (T×ab)}(c:∀d H Q xs,(∃b,h9 K d b xs (g b) H Q)->r xs H Q)(h:bu K (o4 l g) d H Q):CY r (ia K l) d H Q:=
 pV (Cu h) λ_ _ q=>c _ _ _ _ q
theorem HR{g:List T->ab->Option (List T)}(c:∀d H Q xs,(∃b,vz K d b xs (g b) H Q)->r xs H Q)(h:ke K (rQ l g) d H Q):CY r (ia K l) d H Q:=
 pV (F5 h) λ_ _ q=>c _ _ _ _ q
theorem Pr{n:Nat}{F:List T->Option T}{E:XK}(h:bu K (o4 l (jZ n F)) d H Q):Cy (spT K n F) [] E (ia K l) d H Q:=
 pV (Cu h) λvs _ q=>by rw[aQ];exact O8 q
theorem SI{n:Nat}{F:List T->Option (List T)}{E:XK}(h:ke K (rQ l (vV n F)) d H Q):Cy (zr K n F) [] E (ia K l) d H Q:=
 pV (F5 h) λvs _ q=>by rw[aQ];exact Sx q
noncomputable def W8(b:List T)(C:ab):Option (T×ab):=match b with
 | [.int i,.int j]=>if 0<j/\j<1073741824 then some (.tup [.int (i/j),.int (i%j)],C)else none
 |_=>none
noncomputable def Dq(b:List T)(C:ab):Option (T×ab):=match b with
 | [.int i]=>some (.int i,C)
 | [.bl k]=>some (.int (if k then 1 else 0),C)
 |_=>none
theorem Po{xs:List V}(h:∃b,h9 K d b xs (Dq b) H Q):(∃i,xs=[.int i]/\Q (.int i) H)\/∃k,xs=[.bl k]/\Q (.int (if k then 1 else 0)) H:=by
 obtain⟨b,f,Z,ρ,g,C,t,j,R,r,e,k⟩:=h;unfold Dq at e;split at e
 ·obtain⟨v,_,rfl,c,r⟩:=r.cons_inv;rw[r.nil_inv,c.int_inv];cases e
  exact .inl ⟨_,rfl,k _ H ρ R .int .refl⟩
 ·obtain⟨v,_,rfl,c,r⟩:=r.cons_inv;rw[r.nil_inv,c.ec];cases e
  exact .inr ⟨_,rfl,k _ H ρ R .int .refl⟩
 ·cases e
noncomputable def Cb(t:T)(C:ab):Option (T×ab):=match t with
 | .int i=>some (.int (-i),C)
 |_=>none
theorem On{x:V}(h:∃t,h9 K d [t] [x] (Cb t) H Q):∃i,x=.int i/\Q (.int (-i)) H:=by
 obtain⟨g,b,Z,ρ,f,C,t,j,R,r,e,k⟩:=h;obtain⟨_,_,z,c,r⟩:=r.cons_inv;cases z;unfold Cb at e;split at e
 ·cases e
  exact⟨_,c.int_inv,k _ H ρ R .int .refl⟩
 ·cases e
end
noncomputable def m7(i j:Int):Bool:= !(decide (Builtin.Int.intBits i>shortFactorBits)&&decide (Builtin.Int.intBits j>shortFactorBits)&&Builtin.Int.intTooBig (Builtin.Int.intBits i+Builtin.Int.intBits j))
noncomputable def cc{b:Type}(xs:List b)(i:Int)(y:b):List b:=xs.take (if i<0 then(i+(xs.length:Int)).toNat else min i.toNat xs.length)++y::xs.drop (if i<0 then(i+(xs.length:Int)).toNat else min i.toNat xs.length)
def Co(xs vs:List T):Option (List T):=match vs with
 | [y]=>if xs.length<lim then some (xs++[y])else none
 |_=>none
def Cz(xs vs:List T):Option (List T):=match vs with
 | [.int i,y]=>if xs.length<lim/\ -(2^63)<=i/\i<2^63 then some (cc xs i y)else none
 |_=>none
noncomputable def uH:List Int->Int
 | []=>0
 |n::ns=>ns.foldl (λa b=>if b>a then b else a) n
noncomputable def vT:List Int->Int
 | []=>0
 |n::ns=>ns.foldl (λa b=>if b<a then b else a) n
abbrev jH(a b:FE):FE:=j3 a b (gI λi j=>.int (i+j))
abbrev pO(a b:FE):FE:=j3 a b (gI λi j=>.int (i - j))
abbrev n4(a b:FE):FE:=j3 a b (qc m7 λi j=>.int (i*j))
abbrev kH(a b:FE):FE:=j3 a b (qc (λ_ j=>decide (0<j)) λi j=>.int (i%j))
abbrev rC(a b:FE):FE:=j3 a b (qc (λ_ j=>decide (0<j/\j<1073741824)) λi j=>.int (i/j))
abbrev AZ(a b:FE):FE:=j3 a b (qc (λi j=>decide (0<=j/\j<=1000000/\i.natAbs<2^64)) λi j=>.int (i^j.toNat))
abbrev EB(a:FE):FE:=yh a Cb
abbrev pa(a b:FE):FE:=j3 a b (gI λi j=>.bl (decide (i<j)))
abbrev Hu(a b:FE):FE:=j3 a b (gI λi j=>.bl (decide (i<=j)))
abbrev jw(a b:FE):FE:=j3 a b (gI λi j=>.bl (decide (j<i)))
abbrev EC(a b:FE):FE:=j3 a b (gI λi j=>.bl (decide (j<=i)))
abbrev jx(a b:FE):FE:=j3 a b (n2 false)
abbrev Da(a b:FE):FE:=j3 a b (n2 true)
abbrev Hv(a b:FE):FE:=j3 a b (ry false)
abbrev Di(a b:FE):FE:=j3 a b (ry true)
abbrev B0(a b c:FE):FE:=vL a b c (λi j=>decide (i<=j)) (λi j=>decide (i<j))
abbrev aA(a b:FE):FE:=j3 a b AK
abbrev B9(a b:FE):FN:=AB a b AU
abbrev nE(a:FN):FE:=o4 a AQ
abbrev FC(a:FN):FN:=rQ a Dz
abbrev An(a:FN):FE:=o4 a (Aw (λ_=>true) aTI)
abbrev Fu(a:FN):FE:=o4 a (Aw (λb=> !b.isEmpty) uH)
abbrev Fn(a:FN):FE:=o4 a (Aw (λb=> !b.isEmpty) vT)
abbrev Cj(a:FN):FE:=o4 a (Cd λbs=>bs.all id)
abbrev Au(a:FN):FE:=o4 a (Ae λi j=>if j>i then j else i)
abbrev tM(a:FN):FE:=o4 a (Ae λi j=>if j<i then j else i)
abbrev qX(a:FN):FE:=o4 a Dq
abbrev gG(n:Nat)(F:List T->Option T)(a:FN):FE:=o4 a (jZ n F)
abbrev si(n:Nat)(F:List T->Option (List T))(a:FN):FN:=rQ a (vV n F)
noncomputable def EV(c:String):T->Option Bool
 | .aH=>some (c=="NoneType")
 | .bl _=>some (c=="bool"||c=="int")
 | .int _=>some (c=="int")
 | .str _=>some (c=="str")
 | .lst _=>some (c=="list")
 | .cell _=>none
 | .tup _=>some (c=="tuple")
 | .exc _=>none
def vQ(c:String)(a:FE):FE:=yh a λt C=>(EV c t).map λb=>(.bl b,C)
abbrev xE(o:FE)(a:FN):FS:=AR o a Co
abbrev Dn(o:FE)(a:FN):FS:=AR o a Cz
noncomputable def iI:FB:=λ_ C=>some (true,C)
def jM(B:FS)(m:Nat)(b:List T):Option T:=match B (gp m b) []with
 |some (.rt r,_,C)=>dr 3 C r
 |some (.nx,_,_)=>some .aH
 |_=>none
def runN(B:FS)(m:Nat)(d:List T):Option (List T):=match B (gp m d) []with
 |some (.rt (.cell c),_,C)=>(lc C c).bind λb=>if ei b=true then some b else none
 |_=>none
theorem hW{B:FS}{m n:Nat}:∀b t,b.length=n->jM B m b=some t->∃r,B (gp m b) []=some r/\CP t r:=λb t _ e=>by
 unfold jM at e;split at e
 ·rename_i h;exact⟨_,h,e⟩
 ·rename_i h;cases e;exact⟨_,h,rfl⟩
 ·cases e
theorem Sw{B:FS}{m n:Nat}:∀b t,b.length=n->runN B m b=some t->∃r,B (gp m b) []=some r/\CQ t r:=λb t _ e=>by
 unfold runN at e;split at e
 ·rename_i h;obtain⟨f,d,e⟩:=eV e;split at e
  ·rename_i c;cases e
   exact⟨_,h,d,c⟩
  ·cases e
 ·cases e
end TL
namespace L2
open PySem PySem.Spec PyProof.Rows
variable{X:Cx}{e:Expr}{a:TT}
theorem PE.imp{t a:TE}(h:PE X e t)(c:∀b H Q,a b H Q->t b H Q):PE X e a:=λd s b H Q I q=>h d s b H Q I (c b H Q q)
theorem PT.imp{t:TT}(h:PT X e t)(c:∀b H Q,a b H Q->t b H Q):PT X e a:=λd s b H Q I q=>h d s b H Q I (c b H Q q)
theorem PW.imp{t:TT}(h:PW X e t)(c:∀b H Q,a b H Q->t b H Q):PW X e a:=λwh d s b H Q I q=>h wh d s b H Q I (c b H Q q)
theorem PA.imp{e:List Expr}{t a:TA}(h:PA X e t)(c:∀b H Q,a b H Q->t b H Q):PA X e a:=λpos d s b H Q I q=>h pos d s b H Q I (c b H Q q)
theorem PS.imp{e:Stmt}{t a:TS}(h:PS X e t)(c:∀D b H,a D b H->t D b H):PS X e a:=λd s b H D I q=>h d s b H D I (c D b H q)
theorem jz.imp{e:List Stmt}{t a:TS}(h:jz X e t)(c:∀D b H,a D b H->t D b H):jz X e a:=λd s b H D I q=>h d s b H D I (c D b H q)
theorem PG.imp{t a:TG}(h:PG X e t)(c:∀v b H Q,a v b H Q->t v b H Q):PG X e a:=λd s b H v u Q I r q=>h d s b H v u Q I r (c v b H Q q)
theorem PO.imp{e:Option Expr}{t a:TO}(h:PO X e t)(c:∀b H Q,a b H Q->t b H Q):PO X e a:=λd s b H Q I q=>h d s b H Q I (c b H Q q)
end L2
namespace TL
open PySem PySem.Spec PyProof.Rows L2
theorem m5:lim<=sizeLine:=by unfold lim;rw[sizeLine_eq];decide
section
variable {X:Cx}
theorem Q8:g7 X (binaryOp .Add) (xx X.K):=by
 intro S s J H x y v u Q I e z h;obtain⟨l,b,xs,K,rfl,rfl,C,hB,M,q⟩:=h;cases e;cases z;obtain⟨a,r,p,N⟩:=I.list C;obtain⟨ie,j,A,L⟩:=I.list hB;obtain⟨⟨G,F,t,sl⟩,k,o,n,m⟩:=id p.isList;obtain⟨⟨w,i,data2,g⟩,c,f,B,d⟩:=id A.isList;simp only at o m f d;subst o m f d;have R:=r.length;have P:=j.length;have O:=m5;have D:a.toArray++ie.toArray=(a++ie).toArray:=by simp
 refine concat_meets ⟨_,k,rfl⟩ ⟨_,c,rfl⟩ noFill_list_add seq_list_add PySem.F.slot_list_add PySem.F.entry_list_add (PySem.F.args_list_add_2 _ _)
  (list_addW l b a.toArray ie.toArray n B F i sl g (by rw[bB,bB];lia)) ⟨k,c,?_⟩
 rw[D]
 exact⟨.ref _,_,I.BQ (t':=s.toks) (r.append j) (by rw[bF];lia),rfl,q _ I.fresh⟩
def Fe(xs vs:List V):Option (List V):=match vs with
 | [y]=>if xs.length<lim then some (xs++[y])else none
 |_=>none
theorem P8{K:aL}:∀M a d c b vs xs,aw K M a d vs->aw K M a c xs->Co d c=some b->∃f,Fe vs xs=some f/\aw K M a b f:=by
 intro M a d c b vs xs g k e;unfold Co at e;split at e
 ·obtain⟨v,_,rfl,i,h⟩:=k.cons_inv;rw[h.nil_inv];split at e
  ·rename_i j;cases e
   refine⟨vs++[v],?_,g.append (.cons i .nil)⟩
   show(if vs.length<lim then some (vs++[v])else none)=_;rw[if_pos (by rw[g.length];exact j)]
  ·cases e
 ·cases e
theorem Qd:G6 X "list.append" (EO Fe):=by
 intro i s a H x vs v b Q I c d h;obtain⟨l,xs,j,ex,g,e,q⟩:=h;unfold Fe at e;split at e
 ·split at e
  ·rename_i f;cases e
   exact Mp i s a H x _ v b Q I c d ⟨l,xs,_,ex,rfl,g,bL f m5,q⟩
  ·cases e
 ·cases e
def Fd(xs vs:List V):Option (List V):=match vs with
 | [.int i,y]=>if xs.length<lim/\ -(2^63)<=i/\i<2^63 then some (cc xs i y)else none
 |_=>none
theorem PB{K:aL}:∀M a f d c vs xs,aw K M a f vs->aw K M a d xs->Cz f d=some c->∃h,Fd vs xs=some h/\aw K M a c h:=by
 intro M a f d c vs xs b m e;unfold Cz at e;split at e
 ·obtain⟨v,_,rfl,k,g⟩:=m.cons_inv;obtain⟨i,_,rfl,g,j⟩:=g.cons_inv;rw[j.nil_inv,k.int_inv];split at e
  ·rename_i l;cases e
   refine⟨cc vs _ i,by
    show(if vs.length<lim/\_ then some (cc vs _ i)else none)=_;rw[if_pos (by rw[b.length];exact l)],?_⟩
   unfold cc;rw[b.length]
   exact(b.take _).append (.cons g (b.drop _))
  ·cases e
 ·cases e
theorem aId{a:Type}(xs:List a)(i:Int)(y:a):(cc xs i y).length=xs.length+1:=by
 unfold cc;rw[bF,aM,c8,aSe]
 lia
theorem aq.cc{xs:List V}{us:List Value}{y:V}{u:Value}(h:aq xs us)(r:RelV y u)(i:Int):aq (TL.cc xs i y) (aSx us i u):=by
 unfold TL.cc aSx;rw[h.length]
 exact(L2.aq.take _ h).append (.cons r (L2.aq.drop _ h))
theorem NP:G6 X "list.insert" (EO Fd):=by
 intro y s k H x vs v o Q I f g h;obtain⟨l,xs,m,ex,d,e,q⟩:=h;subst ex;cases f;unfold Fd at e;split at e
 ·split at e
  ·rename_i c;cases e;obtain⟨p,a,rfl,j,i⟩:=g.two;obtain⟨t,rfl⟩:=j;obtain⟨z,its,n,r,u,b⟩:=I.BO d;have w:=m5
   refine call_meets PySem.F.slot_list_insert ⟨_,b,rfl⟩ PySem.F.entry_list_insert (PySem.F.args_list_insert_3 _ _ _) (PySem.AutoSeq1.list_insert_list_int_val_1 l its.toArray n _ t a (by rw[fitsIndex_both c.2.1 c.2.2];exact bJ) (by rw[bB];lia)) ⟨b,?_⟩
   refine⟨.aH,_,I.BP (its':=aSx its _ a) d b ?_ (aq.cc r i _) ?_,rfl,q⟩
   ·show(its.toArray.extract 0 _).push a++its.toArray.extract _=_;rw[PySem.W.kl_ins_eq,bB];rfl
   ·rw[aId];lia
  ·cases e
 ·cases e
theorem UD(m:X.calm=true):oT X (.builtin "sum") (Cw X.K (λ_=>true) (λa=>a.sum)):=by
 intro e s v H xs w Q I r h;obtain⟨p,a,rfl,k,_,q⟩:=h;obtain⟨u,rfl,i⟩:=vals1 r;cases i;obtain⟨c,g,j,y⟩:=I.list k;have f:=oV g;obtain⟨b,d⟩:=f.allInts.items;have t:s.heap.IsList p (intItems b):=d ▸ j.isList
 refine sum_intListG (I.ok.hd m) t λz tk x l=>?_
 have o:a=b.toList.map (·.1):=by
  rw[<-nums_intItems,<-d]
  exact(show numsOf c.toArray.toList=a from f.numsOf).symm
 have n:preSum (numAt b) b.size=a.sum:=by
  rw[preSum_eq,dL (by simp),o]
 rw[n]
 exact⟨.int a.sum,H,I.kept l,⟨_,rfl⟩,q⟩
theorem LO:∀{c:List Int},c≠[]->uH c∈c/\∀a∈c,a<=uH c:=by
 have key:∀(c:List Int)(n:Int),(c.foldl (λa b=>if b>a then b else a) n=n\/c.foldl (λa b=>if b>a then b else a) n∈c)/\n<=c.foldl (λa b=>if b>a then b else a) n/\∀a∈c,a<=c.foldl (λa b=>if b>a then b else a) n:=by
  intro c;induction c with
  |nil=>intro n;simp
  |cons m c ih=>
   intro n;rw[aRR];obtain⟨h1,g,f⟩:=ih (if m>n then m else n);by_cases h:m>n
   ·rw[if_pos h]at h1 g f|-
    refine⟨?_,by lia,λa d=>?_⟩
    ·rcases h1 with h1|h1
     ·rw[h1];simp
     ·exact .inr (aX _ h1)
    ·rcases fR d with rfl|d
     ·exact g
     ·exact f a d
   ·rw[if_neg h]at h1 g f|-
    refine⟨?_,g,λa d=>?_⟩
    ·rcases h1 with h1|h1
     ·exact .inl h1
     ·exact .inr (aX _ h1)
    ·rcases fR d with rfl|d
     ·lia
     ·exact f a d
 intro c i;cases c with
 |nil=>exact absurd rfl i
 |cons n c=>
  obtain⟨h1,g,f⟩:=key c n
  refine⟨?_,λa d=>?_⟩
  ·rcases h1 with h1|h1
   ·show aSI (λa b=>if b>a then b else a) n c∈n::c;rw[h1];simp
   ·exact aX _ h1
  ·rcases fR d with rfl|d
   ·exact g
   ·exact f a d
theorem Ui(F:X.calm=true):oT X (.builtin "max") (Cw X.K (λb=> !b.isEmpty) uH):=by
 intro Y s O H xs P Q I r h;obtain⟨p,b,rfl,B,N,q⟩:=h;obtain⟨u,rfl,y⟩:=vals1 r;cases y;obtain⟨c,x,z,R⟩:=I.list B;have o:=oV x;have m:b≠[]:=by rintro rfl;simp at N
 obtain⟨a,n⟩:=o.allInts.items;have L:s.heap.IsList p (intItems a):=n ▸ z.isList;have f:b=a.toList.map (·.1):=by
  rw[<-nums_intItems,<-n]
  exact(show numsOf c.toArray.toList=b from o.numsOf).symm
 have d:0<a.size:=by
  have w:0<b.length:=jG m;rw[f,aN,bX]at w;exact w
 refine max_intList (I.ok.hd F) L d λv U tk A C=>?_
 obtain⟨t,rfl⟩:=intItems_at A;obtain⟨S,J⟩:=argBest_gt (numAt a) (a.size - 1);obtain⟨l,k⟩:=LO m;obtain⟨M,G⟩:∃M,M=uH b:=⟨_,rfl⟩;rw[<-G]at l k q;have e:numAt a (argBest (λi j=>decide (numAt a i>numAt a j)) (a.size - 1))=M:=by
  apply aRG
  ·refine k _ ?_
   rw[f,numAt_eq];exact getD_mem (by rw[aN,bX];lia)
  ·have g:=l;rw[f]at g;obtain⟨j,D,K⟩:=mem_getD g;rw[aN,bX]at D;rw[<-K,<-numAt_eq];exact J j (by lia)
 exact⟨.int M,H,I.kept C,⟨_,by rw[e]⟩,q⟩
theorem Wt{bs:List Bool}:∀{a:List Value},aq (bs.map V.bl) a->a=bs.map Value.bool:=by
 induction bs with
 |nil=>intro a r;rw[aY]at r;cases r;rfl
 |cons n d ih=>
  intro a r;rw[aK]at r;cases r with
  |cons c b=>
   cases c;rw[ih b];rfl
theorem Vn(bs:List Bool):((bH bs.length).all λi=>(bs[i]?).getD true)=bs.all id:=by
 rw[eC,eR,eR];constructor
 ·intro h b d;obtain⟨i,a,rfl⟩:=List.getElem_of_mem d;have:=h i (aRV.mpr a);simpa[aO a]using this
 ·intro h i a;have c:=iY a;simpa[aO c]using h _ (c9 c)
theorem Q5{s:Shared}{a:Heap}{o:Obj}(d:∀b x,b∉[s.heap.objs.size]->(s.heap.push o).get? b=some x->a.get? b=some x):∀b x,s.heap.get? b=some x->a.get? b=some x:=
 λb x e=>d b x (λc=>by rw[gJ c]at e;exact cR _ (Heap.lt_size e)) (Heap.get?_push_of_some _ e)
theorem Ud(m:X.calm=true):oT X (.builtin "all") (BG X.K (λbs=>bs.all id)):=by
 intro A s t H xs w Q I r h;obtain⟨p,bs,rfl,k,q⟩:=h;obtain⟨u,rfl,g⟩:=vals1 r;cases g;obtain⟨j,f,c,y⟩:=I.list k;have n:=Wt f;subst n;have o:p<s.heap.objs.size:=c.lt
 refine call_all_walk (wpAny_pyIter_list c.isList ?_)
 refine⟨s.heap.objs.size,[s.heap.objs.size,p],[s.heap.objs.size],(bs.map Value.bool).toArray.size,_,_,λi=>(bs[i]?).getD true,rfl,Walks.list (A:=X.A.in1) (I.ok.hd m) _ p (bS o) (bs.map Value.bool).toArray,
  ⟨⟨_,Heap.get?_push_size _ rfl,rfl,rfl⟩,c.isList.push _⟩,λi v x B C a d=>?_,λz tk l=>?_⟩
 ·simp only[List.getElem?_toArray,bA]at a;cases e:bs[i]?with
  |none=>rw[e]at a;cases a
  |some b=>
   rw[e]at a;cases a;simp only[e,b9]at d
   exact wpAny_truthy_bool d
 ·have e:((bH (bs.map Value.bool).toArray.size).all λi=>(bs[i]?).getD true)=bs.all id:=by
   rw[bB,aN];exact Vn bs
  rw[e]
  exact⟨.bl _,H,I.kept (Q5 l),rfl,q⟩
end
section
variable {X:Cx}{g:List (Addr×Obj)}{h:L2.St}{H:Hp}{s:Shared}
variable{i l:T}{b:Bool}
theorem Jk{A:Around}{x y:V}{u v:Value}(c:RT X.K H [] i x)(a:RT X.K H [] l y)(f:RelV x u)(d:RelV y v)(e:su i l=some b):SeqAt.EqAt A s u v b:=by
 unfold su at e;split at e<;>first
  | (cases e;done)
  | (cases e
     unfold RT at c a;subst c a;have q:=NO (A:=A) (s:=s) f d rfl rfl
     exact q)
theorem KJ{x:V}(c:RT X.K H [] i x)(a:RT X.K H [] l x)(e:su i l=some b):b=true:=by
 unfold su at e;split at e<;>first
  | (cases e;done)
  | (cases e
     unfold RT at c a;rw[c]at a;first|rfl| (cases a;simp)| (exact nomatch a))
theorem Lj{e:T->T->Option Bool}{vs:List V}(j:∀i l x b,RT X.K H [] i x->RT X.K H [] l x->e i l=some b->b=true):∀{f a:List T}{vs:List V}{b:Bool},aw X.K H [] f vs->aw X.K H [] a vs->n3 e f a=some b->b=true
 | [],[],_,b,_,_,q=>by cases q;rfl
 |t::f,u::a,vs,b,o,n,q=>by
  obtain⟨v,r,rfl,A,y⟩:=o.cons_inv;obtain⟨B,C,z,w,p⟩:=n.cons_inv;cases z;unfold n3 at q;obtain⟨c,m,q⟩:=eV q;obtain⟨d,k,q⟩:=eZ q;rw[j _ _ _ _ A w m,Lj (vs:=vs) j y p k]at q
  exact q.symm
 | [],_::_,_,_,_,_,q=>by cases q
 |_::_,[],_,_,_,_,q=>by cases q
theorem S4(I:Inv X g h H s):∀(n:Nat)(i l:T)(x:V)(b:Bool),RT X.K H [] i x->RT X.K H [] l x->eqT n i l=some b->b=true:=by
 intro n;induction n with
 |zero=>intro i l x b d c e;exact KJ d c (by unfold eqT at e;exact e)
 |succ n ih=>
  intro i l x b d c e;by_cases m:∃xs f,i=.lst xs/\l=.lst f
  ·obtain⟨xs,f,rfl,rfl⟩:=m;unfold RT at d c;obtain⟨a,vs,t,r,k⟩:=d;obtain⟨v,p,o,q,j⟩:=c;rw[t]at o;cases o;have:=I.fm r q;subst this;unfold eqT at e;rw[if_pos (by rw[<-k.length,<-j.length])]at e
   exact Lj (vs:=vs) ih k j e
  ·have u:su i l=some b:=by
    unfold eqT at e;split at e
    ·exact absurd ⟨_,_,rfl,rfl⟩ m
    ·exact e
   exact KJ d c u
theorem y7{e:T->T->Option Bool}{A:Around}(D:∀i l x y u v b,RT X.K H [] i x->RT X.K H [] l y->RelV x u->RelV y v->e i l=some b->SeqAt.EqAt A s u v b):
 ∀{p o:List T}{vs n:List V}{is w:List Value}{b:Bool},aw X.K H [] p vs->aw X.K H [] o n->aq vs is->aq n w->n3 e p o=some b->
  ∃f:Nat->Bool,(∀j u v,is[j]?=some u->w[j]?=some v->SeqAt.EqAt A s u v (f j))/\(bH is.length).all f=b
 | [],[],_,_,_,_,b,B,F,a,C,q=>by
   cases q;rw[B.nil_inv]at a;cases a
   exact⟨λ_=>true,λj u v z=>by simp at z,rfl⟩
 |t::p,u::o,vs,n,is,w,b,B,F,a,C,q=>by
  obtain⟨v,r,rfl,Q,P⟩:=B.cons_inv;obtain⟨R,S,rfl,O,N⟩:=F.cons_inv;unfold n3 at q;obtain⟨c,M,q⟩:=eV q;obtain⟨d,L,q⟩:=eZ q;cases a with
  |cons K I=>
   cases C with
   |cons J G=>
    obtain⟨f,f1,f2⟩:=y7 D P N I G L
    refine⟨λj=>match j with|0=>c|j+1=>f j,λj u v m k=>?_,?_⟩
    ·cases j with
     |zero=>
      simp at m k;subst m k
      exact D _ _ _ _ _ _ _ Q O K J M
     |succ j=>exact f1 j u v (by simpa using m) (by simpa using k)
    ·rw[aM,d3,aTj,aTq,<-q,<-f2];rfl
 | [],_::_,_,_,_,_,_,_,_,_,_,q=>by cases q
 |_::_,[],_,_,_,_,_,_,_,_,_,q=>by cases q
theorem DP(I:Inv X g h H s):∀(n:Nat)(A:Around)(i l:T)(x y:V)(u v:Value)(b:Bool),A.units+n<cLine->RT X.K H [] i x->RT X.K H [] l y->RelV x u->RelV y v->eqT n i l=some b->SeqAt.EqAt A s u v b:=by
 intro n;induction n with
 |zero=>intro A i l x y u v b O k d o m e;exact Jk k d o m (by unfold eqT at e;exact e)
 |succ n ih=>
  intro A i l x y u v b O k d o m e;by_cases L:∃xs B,i=.lst xs/\l=.lst B
  ·obtain⟨xs,B,rfl,rfl⟩:=L;have sm:x=y->b=true:=λz=>by subst z;exact S4 I _ _ _ _ _ k d e
   unfold RT at k d;obtain⟨a,vs,Q,N,r⟩:=k;obtain⟨c,ws,P,M,p⟩:=d;subst Q P;cases o;cases m;by_cases t:a=c
   ·subst t;rw[sm rfl]
    exact SeqAt.EqAt.same _
   ·obtain⟨is,D,G,z1⟩:=I.list N;obtain⟨js,C,F,z2⟩:=I.list M;have K:=D.length;have J:=C.length;unfold eqT at e;split at e
    ·rename_i w;obtain⟨f,f1,f2⟩:=y7 (A:=A.in1) (λi l x y u v b E Z Y U S=>ih A.in1 i l x y u v b (by show A.units+1+n<cLine;lia) E Z Y U S) r p D C e;have q:=SeqAt.EqAt.of_refs t (SeqAt.RcAt.lists (A:=A) (s:=s) (e:=f) G.isList F.isList (by rw[bB,bB,<-K,<-J,r.length,p.length];exact w) (by lia) λj k d=>
      f1 j _ _ (by simp) (by simp))
     rw[bB,f2]at q
     exact q
    ·rename_i w;cases e
     refine SeqAt.EqAt.of_refs t (SeqAt.RcAt.lists_lengths G.isList F.isList ?_ (by lia))
     rw[bB,bB,<-K,<-J,r.length,p.length];simpa using w
  ·have R:su i l=some b:=by
    unfold eqT at e;split at e
    ·exact absurd ⟨_,_,rfl,rfl⟩ L
    ·exact e
   exact Jk k d o m R
end
def rF(cells:List (Str×Addr)):List (Str×NameKind)->List (Str×Addr)->Option (List (Str×Addr))
 | [],a=>some a
 | (n,k)::r,a=>if(k==NameKind.free)=true then(match cells.lookup n with
  |some c=>rF cells r ((n,c)::a)
  |none=>none)else rF cells r a
theorem GR{env:Env}:∀(f:List (Str×NameKind))(a b:List (Str×Addr)),rF env.cells f a=some b->
 (forIn f a fun(x:Str×NameKind) (g:List (Str×Addr))=>if(x.2==NameKind.free)=true then do let c<-cellOf env x.1;pure (ForInStep.yield ((x.1,c)::g))else pure (ForInStep.yield g):Sem (List (Str×Addr)))=pure b
 | [],a,b,e=>by cases e;rfl
 | (n,k)::r,a,b,e=>by
   unfold rF at e;rw[List.forIn_cons];split at e
   ·rename_i d;split at e
    ·rename_i c h;have:=GR r _ b e;simp only[d,if_true];unfold cellOf;rw[h]
     exact this
    ·cases e
   ·rename_i d;have:=GR r _ b e;simp only[d,if_false]
    exact this
theorem Kx{env:Env}{a:Scope}{b:List (Str×Addr)}(e:rF env.cells a.names []=some b):closureFor a env=pure b:=by
 have h:=GR a.names [] b e;unfold closureFor;first
  |exact h
  | (simp only[bind_pure]at*;exact h)
  | (show(forIn a.names [] _>>=λr=>pure r)=pure b;rw[bind_pure];exact h)
theorem vN{cells:List (Str×Addr)}:∀(g:List (Str×NameKind))(a b:List (Str×Addr)),rF cells g a=some b->(∀x c,a.lookup x=some c->cells.lookup x=some c)->
 (∀x c,b.lookup x=some c->cells.lookup x=some c)
 | [],a,b,e,h=>by cases e;exact h
 | (n,k)::r,a,b,e,h=>by
   unfold rF at e;split at e
   ·split at e
    ·rename_i c i
     refine vN r _ b e λx d f=>?_
     rw[bT]at f;split at f
     ·rename_i q;cases f;rw[eq_of_beq q];exact i
     ·exact h x d f
    ·cases e
   ·exact vN r _ b e h
theorem sR{cells:List (Str×Addr)}:∀(f:List (Str×NameKind))(a b:List (Str×Addr)),rF cells f a=some b->∀x,((x,NameKind.free)∈f\/∃c,a.lookup x=some c)->∃c,b.lookup x=some c
 | [],a,b,e,x,h=>by
   cases e;rcases h with h|h
   ·cases h
   ·exact h
 | (n,k)::r,a,b,e,x,h=>by
   unfold rF at e;split at e
   ·split at e
    ·rename_i c l
     refine sR r _ b e x ?_
     rcases h with h|h
     ·rcases fR h with h|h
      ·cases h
       exact .inr ⟨c,by simp[bT]⟩
      ·exact .inl h
     ·obtain⟨d,j⟩:=h;by_cases g:(x==n)=true
      ·exact .inr ⟨c,by rw[bT,g]⟩
      ·refine .inr ⟨d,?_⟩
       rw[bT];simp only[g]
       exact j
    ·cases e
   ·rename_i i
    refine sR r _ b e x ?_
    rcases h with h|h
    ·rcases fR h with h|h
     ·cases h;exact absurd rfl i
     ·exact .inl h
    ·exact .inr h
abbrev iE(X:Cx)(N:List Str)(a:Scope)(d:List (Str×Addr))(C:Addr)(b:Shared)(f:Hp)(c:List Addr):Cx:=
 {X with N:=N,fb:=b,aE:=f,env:=compEnvC a d C X.env,outer:=X.stack,stack:=X.stack,ex:=c,fn:=λ_=>false,pn:=[],xe:=λ_ _=>False}
theorem oU{env:Env}:∀{a:List (Str×NameKind)}{x:Str},(∀y∈a,y.2≠ .cell)->
 ((a.map fun(n,k)=>if(k==NameKind.free&&env.scope.kind== .function&&env.kindOf n==some .cell)=true then(n,NameKind.cell)else(n,k)).lookup x=some .cell\/
  (a.map fun(n,k)=>if(k==NameKind.free&&env.scope.kind== .function&&env.kindOf n==some .cell)=true then(n,NameKind.cell)else(n,k)).lookup x=some .free)->(x,NameKind.free)∈a
 | [],x,_,h=>by rcases h with h|h<;>simp at h
 | (n,k)::r,x,d,h=>by
   have ih:= @oU env r x (λy g=>d y (aX _ g));have i:k≠ .cell:=d (n,k) bC;rw[aK]at h;by_cases c:(x==n)=true
   ·have f:x=n:=eq_of_beq c;subst f;by_cases b:(k==NameKind.free&&env.scope.kind== .function&&env.kindOf x==some .cell)=true
    ·have:k=.free:=by
      rw[aRN,aRN]at b
      exact eq_of_beq b.1.1
     subst this
     exact bC
    ·simp only[if_neg b,bT,c]at h;rcases h with h|h
     ·cases h;exact absurd rfl i
     ·cases h;exact bC
   ·refine aX _ (ih ?_)
    by_cases b:(k==NameKind.free&&env.scope.kind== .function&&env.kindOf n==some .cell)=true
    ·simp only[if_pos b,bT,c]at h
     exact h
    ·simp only[if_neg b,bT,c]at h
     exact h
structure nB(X:Cx)(own fr:List Str)(is:List Nat)(scope:Scope)(cl:List (Str×Addr)):Prop where
 s7:rF X.env.cells scope.names []=some cl
 cell:∀y∈scope.names,y.2≠ .cell
 kind:scope.kind=.function
 names:∀y∈scope.names,y.2=.local->scope.names.lookup y.1=some .local
 pick:is.map (λi=>X.N[i]?)=fr.map some
 kx:fr.all (λx=>X.env.kindOf x==some .cell||X.env.kindOf x==some .free)=true
 ky:fr.all (λx=>(relabel scope X.env).names.lookup x==some .cell||(relabel scope X.env).names.lookup x==some .free)=true
section
variable {X:Cx}{B fr:List Str}{is:List Nat}{f:Scope}{F:List (Str×Addr)}
variable{L:List (Addr×Obj)}{K:L2.St}{s:Shared}{G:List Addr}{N iter O:Expr}{M:List Expr}{pos:Pos}{P:TE}{S:TI}
theorem JA{x:Option NameKind}(h:(x==some .cell||x==some .free)=true):x=some .cell\/x=some .free:=by
 rw[aTa]at h;rcases h with h|h
 ·exact .inl (eq_of_beq h)
 ·exact .inr (eq_of_beq h)
theorem UG{H:Hp}{t:Heap}{tk:Nat}(k:nB X B fr is f F)(I:Inv X L K H s)(n:∀b∈G,v9 X L H b/\b<s.heap.objs.size)
 (hn:t.Ns s.heap.objs.size (λx=>([]:List (Str×Value)).reverse.lookup x))(hs:Heap.SameBut s.heap.objs.size (s.heap.push {cls:=.type "dict",data:=.dict #[]}) t):
 Inv (iE X (B++fr) f F s.heap.objs.size s H G) [] (mn B.length is K) H {s with heap:=t,toks:=tk}:=by
 have Q:∀b o,s.heap.get? b=some o->t.get? b=some o:=λb o e=>(hs.2 b (bS (Heap.lt_size e))).trans (Heap.get?_push_of_some _ e)
 have sub:=vN _ _ _ k.s7 (λx c z=>by simp at z);have Z:∀x c,F.lookup x=some c->∃v,s.heap.IsCell c v:=λx c e=>I.cell x c (sub x c e)
 have Y:∀{c v},s.heap.IsCell c v->t.IsCell c v:=fun⟨o,J,C⟩=>⟨o,Q _ o J,C⟩
 have ym:∀x c,F.lookup x=some c->c≠s.heap.objs.size:=λx c e z=>by
  obtain⟨v,o,J,_⟩:=Z x c e
  exact absurd (z ▸ Heap.lt_size J) (cR _)
 refine⟨⟨I.ok.mod,k.kind,I.ok.glob,I.ok.blt,bE _,λx y c R a=>I.ok.inj x y c (sub x c R) (sub y c a),λx hx=>?_,λx c h=>(by cases h),I.ok.hd,I.ok.frames,.inl rfl,λb g=>⟨bS (n b g).2,λx c e=>(n b g).1.2.2.2.2.1 x c (sub x c e)⟩,
  λb o e=>I.bs b o e,bV I.ok.uh I.sz,λb o e g=>?_,λb g z=>?_,I.stack,I.nv⟩,
  rfl,I.bare,Un.kept Q,⟨_,hn,λi x v R a h3=>?_⟩,λx c e=>?_,I.bz.fresh (bE _),λx c e=>I.ej x c (sub x c e),λp hp=>absurd hp (by simp),I.bz.kept Q,?_⟩
 ·have na:(relabel f X.env).names.lookup x=some .cell\/(relabel f X.env).names.lookup x=some .free:=hx
  exact sR _ _ _ k.s7 x (.inl (oU k.cell na))
 ·rcases(n b g).1.2.2.2.1 with z|z
  ·exact I.ok.ri b o e z
  ·exact absurd (bL (Heap.lt_size e) (bV I.ok.uh z)) (cR _)
 ·rcases fR (I.mj b z)with q|q
  ·exact(n b g).1.2.1 q
  ·exact(n b g).1.2.2.1 q
 ·
  have A:¬i<B.length:=λA=>by
   unfold mn at a;rw[aW (by simpa using A),cN,if_pos A]at a;cases a
  have ff:=aRM A;unfold mn at a;rw[bD (by simpa using ff),bA]at a;simp only[eJ]at a;obtain⟨j,hj,z⟩:=eZ a;have D:K[j]?=some (some v):=by
   cases q:K[j]?with
   |none=>rw[q]at z;cases z
   |some u=>rw[q]at z;exact congrArg some z
  have io:fr[i - B.length]?=some x:=by
   have:(B++fr)[i]?=some x:=R;rw[bD ff]at this
   exact this
  have hN:X.N[j]?=some x:=by
   have:=congrArg (λl=>l[i - B.length]?) k.pick;simp only[bA,hj,io,dU]at this
   exact cE.inj this
  have U:x∈fr:=aZ io;have kx:=JA (eR.mp k.kx x U);have E:=JA (eR.mp k.ky x U);obtain⟨m,_,hl⟩:=I.loc
  obtain⟨u,r,l⟩:=hl j x v hN D (by rcases kx with z|z;·exact .inr (.inl z)
                                   ·exact .inr (.inr z))
  refine⟨u,r,.inr ⟨E,?_⟩⟩
  rcases l with⟨z,_⟩| ⟨_,c,e,q⟩
  ·rcases kx with w|w<;>(rw[w]at z;cases z)
  ·obtain⟨d,C⟩:=sR _ _ _ k.s7 x (.inl (oU k.cell E));have:=sub x d C;rw[e]at this;cases this
   exact⟨c,C,Y q⟩
 ·obtain⟨v,q⟩:=Z x c e
  exact⟨v,Y q⟩
 ·unfold mn;show _=(B++fr).length;have:=congrArg aS8 k.pick;simp only[aN]at this;simp[this]
theorem Ul{w:L2.St}{H a:Hp}{s':Shared}{g:Heap}(I:Inv X L K H s)(i:∀b∈G,v9 X L H b)
 (J:Inv (iE X (B++fr) f F s.heap.objs.size s H G) [] w a s')(h:Heap.SameBut s.heap.objs.size s'.heap g):Inv X L K a {s' with heap:=g}:=by
 have u:Un (bx X.stack) G H a s.heap s'.heap:=J.base;have l:∀b o,s.heap.get? b=some o->b≠s.heap.objs.size:=λb o e=>bS (Heap.lt_size e)
 have t:Un (bx X.stack) G H a s.heap g:=⟨λb o e n p d=>(h.2 b (l b o e)).trans (u.keep b o e n p d),λb o e n p d=>by
  obtain⟨sl,q⟩:=u.slot b o e n p d
  exact⟨sl,(h.2 b (l b o e)).trans q⟩,u.free,λb o e d=>by
  obtain⟨v,q⟩:=u.there b o e d
  exact⟨v,(h.2 b (l b o e)).trans q⟩,u.jt,u.ir,u.ju⟩
 have r:a s.heap.objs.size=none:=J.free;have m:gh X.prog X.w a g:=λb ob e=>by
  refine(J.bz b ob e).ib (λc x j q=>(h.2 c ?_).trans q) (λ_ q=>q) λ_ _ q=>q
  rintro rfl;rcases j with rfl|j
  ·rw[r]at e;cases e
  ·rw[r]at j;cases j
 exact I.B3 (s':={s' with heap:=g}) J.os t m J.bare λb k=>⟨(i b k).2.2.2.1,(i b k).2.1,(i b k).2.2.2.2.1,(i b k).2.2.2.2.2⟩
theorem z8{b:Program}{w:World}{A:Around}{R:Result->Shared->Prop}{a:Expr}{f:Scope}{k g:Value}{env:Env}(I:Nat->Shared->Prop)
 (j:∀n s,I n s->wpAny (model b w) A (pyNext k) (λr i=>match r with
  |none=>R (.ok .next) i
  |some v=>wpAny (model b w) A (letOwnedTupleGo a k v) (λ_ i=>wpAny (model b w) A (assign a env v) (λ_ u=>
   wpAny (model b w) A (forIn M true λc r=>if r=true then do let ok<-isTrue c env (eval c env);pure (ForInStep.yield ok)else pure (ForInStep.yield r)) (λok o=>
    if ok=true then wpAny (model b w) A (eval N env) (λx t=>
     wpAny (model b w) A (call (.builtin "list.append") [g,x]) (λ_ p=>∃m,m<n/\I m p) (λ_ _=>False) t) (λ_ _=>False) o
    else∃m,m<n/\I m o) (λ_ _=>False) u) (λ_ _=>False) i) (λ_ _=>False) i) (λ_ _=>False) s)
 (n:Nat)(h:I n s):
 codeAny (model b w) A (.compLoop (.ListComp N [⟨a,iter,M,0⟩] f pos) 0 k g env) R s:=by
 refine codeAny_loop rfl I (λn s e=>?_) n h
 show wpAny _ A ((compTurn (.ListComp N [⟨a,iter,M,0⟩] f pos) 0 k g env).onRaise (λx=>do noteFrame x env;theTreesLotGoes x)) _ _ s
 refine wpAny_noted ?_
 rw[compTurn_list]
 refine wpAny_bind (wpAny_standAt (wpAny_bind (wpAny_mono (j n s e) (λr i l=>?_) λ_ _ d=>d.elim)))
 cases r with
 |none=>exact wpAny_pure l
 |some v=>
  refine wpAny_bind (wpAny_mono l (λ_ i l=>?_) λ_ _ d=>d.elim)
  refine wpAny_bind (wpAny_mono l (λ_ u C=>wpAny_bind (wpAny_mono C (λok o q=>?_) λ_ _ d=>d.elim)) λ_ _ d=>d.elim)
  cases ok with
  |false=>exact wpAny_pure ⟨rfl,q⟩
  |true=>
   exact wpAny_bind (wpAny_bind (wpAny_mono q (λx t y=>wpAny_bind (wpAny_mono y (λ_ p z=>wpAny_pure (wpAny_pure ⟨rfl,z⟩)) λ_ _ d=>d.elim)) λ_ _ d=>d.elim))
def vd(X:Cx)(M:List Expr)(t:TT):Prop:=
 ∀(L:List (Addr×Obj))(s:Shared)(K:L2.St)(H:Hp)(Q:Bool->Hp->Prop),Inv X L K H s->t K H Q->
  wpAny (model X.prog X.w) X.A (forIn M true λc r=>if r=true then do let ok<-isTrue c X.env (eval c X.env);pure (ForInStep.yield ok)else pure (ForInStep.yield r)) (TP X L K Q) X.xe s
theorem Qv:vd X [] (λ_ H Q=>Q true H):=λ_ _ _ H _ I h=>wpAny_tests_nil ⟨H,I,h⟩
theorem Qy{c:Expr}{t:TT}(h:PT X c t):vd X [c] t:=λL s K H Q I q=>wpAny_tests_one (h L s K H Q I q)
theorem y6{g:TG}{tc:TT}{w:Hp}{a:Shared}{it:Addr}{tn:Nat->Heap->Prop}{J:It}{Q:VK}
 {RR:Value->Addr->Result->Shared->Prop}{E:Value->Shared->Prop}
 (hc:X.calm=true)(k:nB X B fr is f F)
 (hg:∀C A t G,PG (iE X (B++fr) f F C A t G) O g)(ht:∀C A t G,vd (iE X (B++fr) f F C A t G) M tc)(he:∀C A t G,PE (iE X (B++fr) f F C A t G) N P)
 (I2:Inv X L K w a)(T:Turn X.prog X.w X.K O J G it tn)(lv:tn 0 a.heap)(f2:∀b∈G,v9 X L w b)
 (q:∀D,w D=none->∃W:Nat->Nat->L2.St->Hp->Prop,(∃m,W 0 m (mn B.length is K) (upd w D (.lst [])))/\∀i m gr H,W i m gr H->
  (J.stop i H/\Q (.ref D) H)\/(J.go i H/\∀x j,J.zc i H x j->g x gr j λbn w=>tc bn w λb t=>
   if b=true then P bn t λy H4=>∃ys l,H4 D=some (.lst ys)/\ys.length<lim/\l<m/\W (i+1) l bn (upd H4 D (.lst (ys++[y])))else∃l,l<m/\W (i+1) l bn t))
 (hRR:∀D C j U,(∃m,U.heap.Ns C m)->(∀h',Heap.SameBut C U.heap h'->Inv X L K j {U with heap:=h'})->j C=none->a.heap.objs.size<=C->Q (.ref D) j->RR (.ref D) C (.ok .next) U):
 wpAny (model X.prog X.w) X.A (newList []) (λacc db=>wpAny (model X.prog X.w) X.A (newFunctionEnv f X.env.globals F [] X.env.qual none .none (some X.env)) (λvj kc=>
  codeAny (model X.prog X.w) X.A (.compStart (.ListComp N [⟨O,iter,M,0⟩] f pos) 0 (.ref it) acc {vj with scope:=relabel f X.env}) (RR acc vj.locals) kc) E db) E a:=by
 refine wpAny_newObj_type (wpAny_newFunctionEnv k.cell (by intro y hy;simp at hy) (λbg ni jb=>?_) k.kind)
 have I3:Inv X L K (upd w a.heap.objs.size (.lst [])) {a with heap:=a.heap.push {cls:=.type "list",data:=.seq ([]:List Value).toArray}}:=I2.BQ (t':=a.toks) (its:=[]) .nil (dM _);have hD:w a.heap.objs.size=none:=I2.fresh;obtain⟨W,⟨m0,w0⟩,turn⟩:=q _ hD;have bh:∀b∈G,b<a.heap.objs.size:=λb h=>by
  obtain⟨o,e,_⟩:=T.obj _ _ lv b h
  exact Heap.lt_size e
 have f3:∀b∈G,v9 X L (upd w a.heap.objs.size (.lst [])) b/\b<(a.heap.push {cls:=.type "list",data:=.seq ([]:List Value).toArray}).objs.size:=λb h=>
  ⟨⟨by rw[gH (bS (bh b h))];exact(f2 b h).1,(f2 b h).2⟩,by rw[Heap.size_push];exact aR8 (bh b h)⟩
 have J0:=UG (tk:=a.toks+([]:List (Str×Value)).length) k I3 f3 ni jb;have kept:∀b o,a.heap.get? b=some o->bg.get? b=some o:=λb o e=>(jb.2 b (by
  show b≠(a.heap.push _).objs.size;rw[Heap.size_push]
  exact bS (aR8 (Heap.lt_size e)))).trans (Heap.get?_push_of_some _ (Heap.get?_push_of_some _ e))
 have st4:tn 0 bg:=T.keep _ _ _ lv λb _ o e=>kept b o e
 have fu:∀{j:Hp},(∀b∈G,j b=none)->∀b∈G,v9 (iE X (B++fr) f F (a.heap.push {cls:=.type "list",data:=.seq ([]:List Value).toArray}).objs.size {a with heap:=a.heap.push {cls:=.type "list",data:=.seq ([]:List Value).toArray}} (upd w a.heap.objs.size (.lst [])) G) [] j b:=λhn b h=>
  ⟨hn b h,bS (f3 b h).2,λz=>J0.ok.sk b h z,.inl h,λx c e=>(J0.ok.ED b h).2 x c e,λp hp=>absurd hp (by simp)⟩
 have I:codeAny (model X.prog X.w) X.A (.compLoop (.ListComp N [⟨O,iter,M,0⟩] f pos) 0 (.ref it) (.ref a.heap.objs.size) (compEnvC f F (a.heap.push {cls:=.type "list",data:=.seq ([]:List Value).toArray}).objs.size X.env))
  (RR (.ref a.heap.objs.size) (a.heap.push {cls:=.type "list",data:=.seq ([]:List Value).toArray}).objs.size) {a with heap:=bg,toks:=a.toks+([]:List (Str×Value)).length}:=by
  refine z8 (λn U=>∃i ai j,Inv (iE X (B++fr) f F (a.heap.push {cls:=.type "list",data:=.seq ([]:List Value).toArray}).objs.size {a with heap:=a.heap.push {cls:=.type "list",data:=.seq ([]:List Value).toArray}} (upd w a.heap.objs.size (.lst [])) G) [] ai j U/\tn i U.heap/\(∀b∈G,j b=none)/\W i n ai j) ?_ m0
   ⟨0,_,_,J0,st4,λb h=>(f3 b h).1.1,w0⟩
  rintro n A ⟨i,cj,t,I3',sg,vc,w3⟩;rcases turn i n cj t w3 with⟨stop,qn⟩| ⟨go,step⟩
  ·refine aG (T.done (iE X (B++fr) f F _ _ _ G) rfl rfl rfl hc i [] A cj t (λ_ _=>False) I3' (fu vc) sg stop) λr s4 ⟨hr,I4⟩=>?_
   subst hr;obtain⟨m,Y,_⟩:=I4.loc
   refine hRR _ _ t s4 ⟨m,Y⟩ (λh' kj=>?_) I4.free ?_ qn
   ·have:=Ul I3 (λb h=>(f3 b h).1) I4 kj
    exact this
   ·show a.heap.objs.size<=(a.heap.push _).objs.size;rw[Heap.size_push]
    exact aSw _
  ·refine aG (T.item (iE X (B++fr) f F _ _ _ G) rfl rfl rfl hc i [] A cj t (λ_ _=>False) I3' (fu vc) sg go) λr s4 ⟨u,hr,h4⟩=>?_
   subst hr
   refine aG h4 λ_ s5 R=>?_
   obtain⟨x,H5,I5,r5,y5,mv,fr5⟩:=R;have I5':=I5.pinned (fu fr5) (T.obj _ _ mv)
   refine aG (hg _ _ _ _ _ s5 cj H5 x u _ I5' r5 (step x H5 y5)) λ_ s6 R=>?_
   obtain⟨pw,H6,I6,q6⟩:=R
   refine aG (ht _ _ _ _ _ s6 pw H6 _ I6 q6) λok Z ⟨H7,I7,q7⟩=>?_
   have back:∀{ed:L2.St}{H7:Hp}{Z:Shared}{l:Nat},Inv (iE X (B++fr) f F (a.heap.push {cls:=.type "list",data:=.seq ([]:List Value).toArray}).objs.size {a with heap:=a.heap.push {cls:=.type "list",data:=.seq ([]:List Value).toArray}} (upd w a.heap.objs.size (.lst [])) G) ([]++CB G s5.heap) ed H7 Z->l<n->W (i+1) l ed H7->
    ∃m,m<n/\∃i ai j,Inv (iE X (B++fr) f F (a.heap.push {cls:=.type "list",data:=.seq ([]:List Value).toArray}).objs.size {a with heap:=a.heap.push {cls:=.type "list",data:=.seq ([]:List Value).toArray}} (upd w a.heap.objs.size (.lst [])) G) [] ai j Z/\tn i Z.heap/\(∀b∈G,j b=none)/\W i m ai j:=λ{ed H7 Z l} I7 Y w7=>by
    refine⟨l,Y,i+1,ed,H7,I7.gm,T.keep _ _ _ mv λb h o e=>(I7.pin (b,o) (cC _ (cC _ (qU h e)))).1,λb h=>?_,w7⟩
    obtain⟨o,e,d⟩:=T.obj _ _ mv b h
    exact(I7.pin (b,o) (cC _ (cC _ (qU h e)))).2.1
   cases ok with
   |false=>
    try dsimp only at q7
    try dsimp only
    rw[if_neg (by simp)]at q7|-;obtain⟨l,Y,w7⟩:=q7
    exact back I7 Y w7
   |true=>
    try dsimp only at q7
    try dsimp only
    rw[if_pos rfl]at q7|-
    refine aG (he _ _ _ _ _ Z pw H7 _ I7 q7) λy s8 R=>?_
    obtain⟨v,H8,I8,r8,ys,l,e8,l8,Y,w8⟩:=R
    refine aG (Mp _ s8 pw H8 (.ref a.heap.objs.size) [v] (.ref a.heap.objs.size) [y] (λ_ H9=>W (i+1) l pw H9) I8 rfl (.cons r8 .nil) ⟨_,ys,v,rfl,rfl,e8,bL l8 m5,w8⟩) λ_ s9 R=>?_
    obtain⟨_,H9,I9,_,w9⟩:=R
    exact back I9 Y w9
 exact codeAny_compStart_list I (T.self X.A 0 _ _ _ st4 I)
theorem uB{g:TG}{i:TT}(w:X.calm=true)(k:nB X B fr is f F)(r:PI X O iter S)
 (t:∀C a b G,PG (iE X (B++fr) f F C a b G) O g)(o:∀C a b G,vd (iE X (B++fr) f F C a b G) M i)(u:∀C a b G,PE (iE X (B++fr) f F C a b G) N P)
 (p:∀x,foldedSetIterable iter X.env x=pure x:=by intro _;rfl):PE X (.ListComp N [⟨O,iter,M,0⟩] f pos) (zP S (mn B.length is) g i P):=by
 intro L s K H Q I h;rw[eval_ListComp]
 refine wpAny_comprehension_free (use:=none) rfl p (Kx k.s7) k.kind k.names (aG (r L s K H _ I h) λv s1 A=>aG A λZ s2 z=>?_)
 obtain⟨it,G,E,J,H2,e,U,T,l,f2,q⟩:=z;subst e
 refine y6 (RR:=λd C=>compPost (model X.prog X.w) X.A X.xe none (EP X L K Q) d C) w k t o u U T l f2 q ?_
 intro D C Y s' c y _ _ j;obtain⟨m,c⟩:=c
 exact⟨m,c,λR n=>⟨.ref D,Y,y R n,rfl,j⟩⟩
theorem qF{n bq:Pos}{g:TG}{tc:TT}{i:Nat}{x:Str}(hN:X.N.Nodup)(hx:X.N[i]?=some x)(uf:X.env.scope.names.lookup x=some .local)
 (hc:X.calm=true)(k:nB X B fr is f F)(hi:PI X O iter S)
 (hg:∀C r u G,PG (iE X (B++fr) f F C r u G) O g)(ht:∀C r u G,vd (iE X (B++fr) f F C r u G) M tc)(he:∀C r u G,PE (iE X (B++fr) f F C r u G) N P)
 (iw:swapsWith (.ListComp N [⟨O,iter,M,0⟩] f pos) (some (.Name x n)) bq.line X.env=pure true)
 (hs:∀x,foldedSetIterable iter X.env x=pure x:=by intro _;rfl):PS X (.Assign [.Name x n] (.ListComp N [⟨O,iter,M,0⟩] f pos) bq) (Aq (zP S (mn B.length is) g tc P) (t9 i)):=by
 intro L s K H D I h;rw[exec_Assign_Name_used _ _ _ _ iw]
 refine wpAny_bind (wpAny_standAt (wpAny_bind ?_))
 show wpAny _ X.A (do let _<-comprehension (.ListComp N [⟨O,iter,M,0⟩] f pos) f X.env _ (newList []) false (eval iter X.env) (some (assign (.Name x n) X.env))) _ _ s
 refine wpAny_bind (wpAny_mono (wpAny_comprehension_free (use:=some (assign (.Name x n) X.env)) (Q:=λ_ j=>SP X L D .next j) rfl hs (Kx k.s7) k.kind k.names
  (aG (hi L s K H _ I h) λv s1 h1=>aG h1 λwc s2 h2=>?_)) (λ_ j hq=>wpAny_pure (wpAny_pure hq)) λ_ _ e=>e)
 obtain⟨it,G,tn,J,H2,e,t,T,lv,f2,q⟩:=h2;subst e
 refine y6 (Q:=λv H1=>D.nx (K.set i (some v)) H1) (RR:=λY C=>compPost (model X.prog X.w) X.A X.xe (some (assign (.Name x n) X.env)) (λ_ j=>SP X L D .next j) Y C) hc k hg ht he t T lv f2 q ?_
 intro A C H' j Q hI hC ax qD;obtain⟨m,Q⟩:=Q;show wpAny _ X.A (assign (.Name x n) X.env (.ref A)) _ _ _;have I':Inv X L K H' j:=hI j.heap (Heap.SameBut.refl ..)
 refine wpAny_assign_Name (Ml (v:=.ref A) I' hN hx (.inl uf) rfl (λsj Z bo=>?_) (.inr uf))
 obtain⟨a,sb,U⟩:=bo;have d:∀b o,s2.heap.get? b=some o->C≠b:=λb o e z=>by
  subst z
  exact absurd (bL (Heap.lt_size e) ax) (cR _)
 have hl:∃o,s2.heap.get? X.env.locals=some o:=let ⟨_,⟨o,_,_,l,_⟩,_⟩:=t.loc;⟨o,l⟩
 have E:∀y c,X.env.cells.lookup y=some c->C≠c:=λy c e=>by
  obtain⟨v,o,l,_⟩:=t.cell y c e
  exact d c o l
 have R:C≠a:=by
  rcases U with rfl|U
  ·obtain⟨o,l⟩:=hl
   exact d _ o l
  ·exact E x a U
 refine⟨m,Q.sameBut sb R,λh3 w=>⟨K.set i (some (.ref A)),H',?_,qD⟩⟩
 refine Z.turned (t':=sj.toks) (λb o hb e=>(w.2 b hb).trans e) hC ?_ (.inr (bV t.sz ax)) (λy c e=>Ne.symm (E y c e)) λp hp=>?_
 ·obtain⟨o,l⟩:=hl
  exact d _ o l
 ·exact Ne.symm (d _ _ (t.pin p hp).1)
end
section
variable {X:Cx}
variable{A:Around}{s:Shared}{rs:List (Value×Bool)}
theorem IJ(hu:X.A.units+20<cLine):g7 X (compareOp .Eq) (EW X.K false):=by
 intro S s K H x y u v Q I n m h;obtain⟨l,k,b,g,d,e,q⟩:=h;have O:Q (.bl b) H:=q;have fin:EP X S K Q (.bool b) s:=⟨.bl b,H,I,rfl,O⟩;by_cases J:∃xs w,l=.lst xs/\k=.lst w
 ·obtain⟨xs,w,rfl,rfl⟩:=J;unfold RT at g d;obtain⟨a,vs,R,N,p⟩:=g;obtain⟨c,ws,P,M,o⟩:=d;subst R P;cases n;cases m;obtain⟨is,B,D,z1⟩:=I.list N;obtain⟨js,z,C,z2⟩:=I.list M;have G:=B.length;have F:=z.length;unfold eqT at e;split at e
  ·rename_i r;obtain⟨f,f1,f2⟩:=y7 (A:=X.A.in1) (λl k x y u v b a1 E Z Y U=>DP I _ X.A.in1 l k x y u v b (by show X.A.units+1+4<cLine;lia) a1 E Z Y U) p o B z e
   refine SeqAt.eq_listAt (e:=f) D.isList C.isList (by rw[bB,bB,<-G,<-F,p.length,o.length];exact r) (by lia) (λj g d=>
    f1 j _ _ (by simp) (by simp)) ?_
   rw[bB,f2]
   exact fin
  ·rename_i r;cases e
   refine SeqAt.eq_list_lengthsAt D.isList C.isList ?_ (by lia) fin
   rw[bB,bB,<-G,<-F,p.length,o.length];simpa using r
 ·have i:su l k=some b:=by
   unfold eqT at e;split at e
   ·exact absurd ⟨_,_,rfl,rfl⟩ J
   ·exact e
  unfold su at i;split at i
  ·cases i;unfold RT at g d;subst g d;cases n;cases m;exact SeqAt.RcAt.bool_bool _ _ _ _ _ _ fin
  ·cases i;unfold RT at g d;subst g d;obtain⟨t,rfl⟩:=n;obtain⟨L,rfl⟩:=m;exact SeqAt.RcAt.int_int _ _ _ _ _ _ _ _ fin
  ·cases i;unfold RT at g d;subst g d;obtain⟨t,rfl⟩:=n;obtain⟨L,rfl⟩:=m;exact SeqAt.RcAt.str_str _ _ _ _ _ _ _ _ fin
  ·cases i
theorem P6(hu:X.A.units+20<cLine):g7 X (compareOp .NotEq) (EW X.K true):=by
 intro r s k H x y u v Q I o n h;obtain⟨m,l,b,g,d,e,q⟩:=h;have p:Q (.bl (!b)) H:=q;have fin:EP X r k Q (.bool (!b)) s:=⟨.bl (!b),H,I,rfl,p⟩;by_cases L:∃xs B,m=.lst xs/\l=.lst B
 ·obtain⟨xs,B,rfl,rfl⟩:=L;unfold RT at g d;obtain⟨a,vs,P,N,w⟩:=g;obtain⟨c,ws,O,M,t⟩:=d;subst P O;cases o;cases n;obtain⟨is,D,G,z1⟩:=I.list N;obtain⟨js,C,F,E⟩:=I.list M;have K:=D.length;have J:=C.length;unfold eqT at e;split at e
  ·rename_i z;obtain⟨f,f1,f2⟩:=y7 (A:=X.A.in1) (λm l x y u v b Z Y U S R=>DP I _ X.A.in1 m l x y u v b (by show X.A.units+1+4<cLine;lia) Z Y U S R) w t D C e
   refine SeqAt.RcNeAt.lists (e:=f) G.isList F.isList (by rw[bB,bB,<-K,<-J,w.length,t.length];exact z) (by lia) (λj g d=>
    f1 j _ _ (by simp) (by simp)) _ _ _ _ ?_
   rw[bB,f2]
   exact fin
  ·rename_i z;cases e
   refine SeqAt.RcNeAt.lists_lengths G.isList F.isList ?_ (by lia) _ _ _ _ fin
   rw[bB,bB,<-K,<-J,w.length,t.length];simpa using z
 ·have i:su m l=some b:=by
   unfold eqT at e;split at e
   ·exact absurd ⟨_,_,rfl,rfl⟩ L
   ·exact e
  unfold su at i;split at i
  ·cases i;unfold RT at g d;subst g d;exact Fo r s k H _ _ u v Q I o n ⟨rfl,by rw[IV];exact p⟩
  ·cases i;unfold RT at g d;subst g d;exact Fo r s k H _ _ u v Q I o n ⟨rfl,by rw[Ks];exact p⟩
  ·cases i;unfold RT at g d;subst g d;exact Fo r s k H _ _ u v Q I o n ⟨rfl,by rw[J5];exact p⟩
  ·cases i
theorem Ga{t:T}{x:V}{u:Value}{A:Around}{B:List (Addr×Obj)}{s:Shared}{k:L2.St}{H:Hp}(I:Inv X B k H s)(j:A.units+5<cLine)(h:RT X.K H [] t x)(r:RelV x u):
 ∀{g:List T}{vs:List V}{is:List Value}{b:Bool},aw X.K H [] g vs->aq vs is->x3 (λy=>eqT 5 y t) g=some b->∃rs:List (Value×Bool),rs.map (·.1)=is/\(∀p∈rs,SeqAt.EqAt A s p.1 u p.2)/\b=rs.any (·.2)
 | [],_,_,b,i,f,q=>by
   cases q;rw[i.nil_inv]at f;cases f
   exact⟨[],rfl,(λp a=>nomatch a),rfl⟩
 |w::g,_,_,b,i,f,q=>by
  obtain⟨v,F,rfl,D,C⟩:=i.cons_inv;unfold x3 at q;obtain⟨c,e,q⟩:=eV q;obtain⟨d,z,q⟩:=eZ q;cases f with
  |cons m l=>
   obtain⟨rs,o,n,w3⟩:=Ga I j h r C l z
   refine⟨(_,c)::rs,by rw[aK,o],λp a=>?_,by rw[aRO,<-w3,q]⟩
   rcases fR a with rfl|a
   ·exact DP I 5 A w t _ _ _ _ c j D h m r e
   ·exact n p a
open Classical in
noncomputable def rK(rs:List (Value×Bool))(y:Value):Bool:=if∃p∈rs,p.1=y/\p.2=true then true else false
theorem IL{u y:Value}(h:∀p∈rs,SeqAt.EqAt A s p.1 u p.2)(b:y∈rs.map (·.1)):SeqAt.EqAt A s y u (rK rs y):=by
 unfold rK;split
 ·rename_i d;obtain⟨p,a,rfl,e⟩:=d;rw[<-e];exact h p a
 ·rename_i c;obtain⟨p,a,rfl⟩:=fU b;have:p.2=false:=by
   cases e:p.2 with
   |false=>rfl
   |true=>exact absurd ⟨p,a,rfl,e⟩ c
  rw[<-this];exact h p a
theorem JJ:(rs.map (·.1)).any (rK rs)=rs.any (·.2):=by
 rw[eC,aS3,aS3];constructor
 ·rintro⟨y,c,e⟩;unfold rK at e;split at e
  ·rename_i b;obtain⟨p,a,_,e⟩:=b
   exact⟨p,a,e⟩
  ·cases e
 ·rintro⟨p,a,e⟩
  refine⟨p.1,jF ⟨p,a,rfl⟩,?_⟩
  unfold rK;rw[if_pos ⟨p,a,rfl,e⟩]
theorem OP(w:X.A.units+20<cLine):g7 X (compareOp .In) (ET X.K false):=by
 intro z s n H x y u v Q I g f h;obtain⟨t,p,vs,r,b,m,rfl,l,k,e,q⟩:=h;cases f;obtain⟨is,d,i,o⟩:=I.list l;obtain⟨rs,c,a,w3⟩:=Ga (A:=X.A.in1) I (by show X.A.units+1+5<cLine;lia) m g k d e;subst c
 refine SeqAt.in_listAt (rK rs) i.isList (λy j=>IL a (by simpa using j)) ?_
 rw[show(rs.map (·.1)).toArray.any (rK rs)=(rs.map (·.1)).any (rK rs)by simp,JJ,<-w3]
 exact⟨.bl b,H,I,rfl,q⟩
theorem T9(w:X.A.units+20<cLine):g7 X (compareOp .NotIn) (ET X.K true):=by
 intro z s n H x y u v Q I g f h;obtain⟨t,p,vs,r,b,m,rfl,l,k,e,q⟩:=h;cases f;obtain⟨is,d,i,o⟩:=I.list l;obtain⟨rs,c,a,w3⟩:=Ga (A:=X.A.in1) I (by show X.A.units+1+5<cLine;lia) m g k d e;subst c
 refine SeqAt.notIn_listAt (rK rs) i.isList (λy j=>IL a (by simpa using j)) ?_
 rw[show(rs.map (·.1)).toArray.any (rK rs)=(rs.map (·.1)).any (rK rs)by simp,JJ,<-w3]
 exact⟨.bl (!b),H,I,rfl,q⟩
theorem Ma{c:Program}{w:World}{A:Around}{E:Value->Shared->Prop}{b t:Addr}{items:Array Value}(k:t≠b):∀(n i:Nat)(s:Shared)(Q:List Value->Shared->Prop),s.heap.IsListIter b t i->s.heap.IsList t items->i+n<=items.size->
 (∀f,f.IsListIter b t (i+n)->Heap.SameBut b s.heap f->Q ((items.toList.drop i).take n) {s with heap:=f})->wpAny (model c w) A (draw (.ref b) n) Q E s
 |0,i,s,Q,a,_,_,d=>by
  show wpAny _ _ (pure []) Q E s
  exact wpAny_pure (by simpa using d s.heap a (Heap.SameBut.refl ..))
 |n+1,i,s,Q,a,g,o,d=>by
  have j:i<items.size:=by lia
  show wpAny _ _ (pyNext (.ref b)>>=_) Q E s
  refine wpAny_bind (wpAny_pyNext_list_item a g (x:=items[i]) (by simp[j]) λu q h=>?_)
  refine wpAny_bind (wpAny_holding (Ma k n (i+1) _ _ q (g.extBut h.extBut k) (by lia) λr m l=>wpAny_pure ?_))
  have p:items.toList.drop i=items[i]::items.toList.drop (i+1):=by simp[aRB,j]
  have:=d r (by rw[show i+(n+1)=i+1+n by lia];exact m) (h.trans l);rw[p,aSF]at this
  exact this
theorem v4{a:Program}{w:World}{E:Value->Shared->Prop}{t:Addr}{items:Array Value}{Q:List Value->Shared->Prop}(m:A.handled=none)(c:s.heap.IsList t items)
 (n:∀f,Heap.ExtBut s.heap.objs.size s.heap f->Q items.toList {s with heap:=f}):wpAny (model a w) A (unpackItems (.ref t) items.size none) Q E s:=by
 have h:t≠s.heap.objs.size:=by obtain⟨o,l,_⟩:=c;exact bS (Heap.lt_size l)
 unfold unpackItems
 refine wpAny_bind ?_
 ·unfold notIterableAtAll
  refine wpAny_bind (wpAny_specialOf c.typeIs slot_list_iter.lookup ?_)
  refine wpAny_pure ?_
  simp only[bZ,if_false]
  refine wpAny_bind (wpAny_holding (wpAny_pyIter_list c ?_))
  refine wpAny_bind (wpAny_holding (Ma h items.size 0 _ _ ⟨_,Heap.get?_push_size _ rfl,rfl,rfl⟩ (c.push _) (by lia) λr p g=>?_))
  have k:List.take items.size (List.drop 0 items.toList)=items.toList:=by
   rw[aTf];exact dL (by simp)
  rw[k];rw[if_neg (by simp)];have j:r.IsList t items:=(c.push _).extBut g.extBut h
  refine wpAny_bind (wpAny_holding (wpAny_pyNext_list_end m p j (by simp) λq i=>?_))
  simp only[Option.isSome_none,bZ,if_false]
  refine wpAny_pure (n q λb o d e=>i b o d (g.extBut b o d (Heap.get?_push_of_some _ e)))
noncomputable def BW(K:aL)(n:Nat)(t:va):TG:=λv b H Q=>∃a xs,v=.ref a/\(di K H a xs\/je K H a xs)/\xs.length=n/\t xs b H Q
theorem Pk{d:List Expr}{k:Nat}{t:va}{n:Nat}{pos:Pos}(q:X.calm=true)(h:Bi X d t)
 (m:(assignEach d X.env).length=n:=by rfl)(x:(assignEach d X.env).findIdx? (·.1)=none:=by rfl):PG X (.Tuple d k pos) (BW X.K n t):=by
 intro j s g H v u Q I r f;obtain⟨a,xs,w,c,p,f⟩:=f;rcases c with c|c
 ·subst w;cases r;obtain⟨i,l,B,F⟩:=I.list c;rw[assign_Tuple]
  refine wpAny_bind (wpAny_standAt ?_)
  unfold unpack;have y:(assignEach d X.env).length=i.toArray.size:=by simp[m,<-p,l.length]
  rw[y,x]
  refine wpAny_bind (wpAny_holding (v4 (I.ok.hd q) B.isList λC z=>?_))
  have D:Inv X j g H {s with heap:=C}:=I.kept (t':=s.toks) λb o e=>z b o (bS (Heap.lt_size e)) e
  exact h j _ g H xs _ Q D (by simpa using l) f
 ·exact Qb q h m x j s g H v u Q I r ⟨a,xs,w,c,p,f⟩
end
end TL
namespace TL
open PySem L2
def G7(K:aL)(c b:Addr):It:=
 ⟨λi H=>∃xs a x y,di K H c xs/\di K H b a/\xs[i]?=some x/\a[i]?=some y,
  λi H v d=>∃p x y,H p=none/\v=.ref p/\d=upd H p (.tup [x,y])/\(∀xs,di K H c xs->xs[i]?=some x)/\∀a,di K H b a->a[i]?=some y,
  λi H=>∃xs a,di K H c xs/\di K H b a/\(xs[i]?=none\/a[i]?=none)⟩
def BU(K:aL)(t:TA):TI:=λd H R=>t d H λvs c=>∃b a,vs=[.ref b,.ref a]/\(∃xs,di K c b xs)/\(∃f,di K c a f)/\R (G7 K b a) c
noncomputable def t5(b a:List T):List T:=(b.zip a).map λp=>.tup [p.1,p.2]
section
variable {K:aL}{d:L2.St}{H:Hp}{Q:VK}
variable{j:Hp}{f:cx}
theorem nJ{Z:Addr->Prop}{i:Hp}{u:aD}{C:ab}{d:L2.St}{t:T}{k:List T}{a:Addr}(A:Rel K i Z f u C d j)(s:RT K (mask j Z f) f t (.ref a))(o:du C t=some k)
 {v:Hp}{p:Addr->Prop}{h:cx}{z:aD}{q:ab}{y:L2.St}{H:Hp}(B:Rel K v p h z q y H)(sm:cb (mask j Z f) (mask H p h))(r:∀(c:Nat)(a:Addr),f[c]?=some a->h[c]?=some a)(g:stays t k q\/cb j H):
  ∃b,di K H a b/\aw K (mask H p h) h k b:=by
 rcases g with g|g
 ·have w:=s.mono sm r;have x:du q t=some k:=by
   cases t with
   |cell c=>exact g
   |lst D=>exact o
   |_=>cases o
  obtain⟨e,b,n,m,l⟩:=B.li w x;cases n
  exact⟨b,m,l⟩
 ·obtain⟨e,b,n,m,l⟩:=A.li s o;cases n
  exact⟨b,g.seq m,l.mono sm r⟩
theorem RS{Z:Addr->Prop}{c:Hp}{M:aD}{C:ab}{d:L2.St}{t u:T}{k g:List T}{a b:Addr}(v:Rel K c Z f M C d j)(I:RT K (mask j Z f) f t (.ref a))(L:du C t=some k)
 (G:RT K (mask j Z f) f u (.ref b))(J:du C u=some g):AE K (G7 K a b) Z j f (t5 k g) (λC=>stays t k C/\stays u g C):=by
 refine⟨λi t' c Z' ae ah C' d H e l sm m o _=>?_,λc Z' ae ah C' d H l sm m o _=>?_⟩
 ·obtain⟨q,s,y⟩:=nJ v I L l sm m (o.imp (·.1) id);obtain⟨xs,r,w⟩:=nJ v G J l sm m (o.imp (·.2) id);unfold t5 at e;rw[bA]at e;obtain⟨⟨x1,x2⟩,E,rfl⟩:=eZ e;obtain⟨O,N⟩:=dS.mp E;obtain⟨S,D,P⟩:=y.get O;obtain⟨R,n,U⟩:=w.get N
  refine⟨⟨q,xs,S,R,s,r,D,n⟩,λx H' hy=>?_⟩
  obtain⟨p,y1,y2,F,rfl,rfl,Y,X⟩:=hy;have B:=Y q s;have A:=X xs r;rw[D]at B;cases B;rw[n]at A;cases A
  exact⟨λb u h=>by rw[gH (λz=>by rw[z,F]at h;cases h)];exact h,l.hL F (.cons P (.cons U .nil))⟩
 ·obtain⟨q,s,y⟩:=nJ v I L l sm m (o.imp (·.1) id);obtain⟨xs,r,w⟩:=nJ v G J l sm m (o.imp (·.2) id)
  refine⟨q,xs,s,r,?_⟩
  have hl:(t5 k g).length=min k.length g.length:=by simp[t5]
  rw[hl];rcases Nat.le_total k.length g.length with h|h
  ·exact .inl (b5 (by rw[y.length,aSo h];exact bE _))
  ·exact .inr (b5 (by rw[w.length,aSf h];exact bE _))
def oY(f1 f2:FE)(k:Nat)(is:List Nat)(g:FG)(h:FB)(i:FE):FN:=λa C=>(f1 a C).bind λp=>(f2 a p.2).bind λq=>(du q.2 p.1).bind λc=>(du q.2 q.1).bind λb=>
 if(t5 c b).length<lim then kD g h i (fw k is a) (t5 c b) q.2 else none
theorem Ke{f1 f2:FE}{k:Nat}{is:List Nat}{g:FG}{o:FB}{x:FE}(S:kv k g)(h:ke K (oY f1 f2 k is g o x) d H Q):zP (BU K (ia K (fB f1 (fB f2 fP)))) (mn k is) (ly K g) (jf K o) (bu K x) d H Q:=by
 obtain⟨c,Z,A,y,C,ys,C',R,e,q⟩:=h;unfold oY at e;obtain⟨⟨t,C1⟩,e1,e⟩:=eV e;obtain⟨⟨u,l⟩,e2,e⟩:=eV e;obtain⟨ts,n,e⟩:=eV e;obtain⟨us,m,e⟩:=eV e;split at e
 ·rename_i P
  refine⟨c,Z,A,y,C,[t,u],l,R,by simp[fB,fP,e1,e2],λvs j f i X F=>?_⟩
  obtain⟨v,r,rfl,w,N⟩:=X.cons_inv;obtain⟨v',r',rfl,s,M⟩:=N.cons_inv;rw[M.nil_inv];obtain⟨a,vs,E,L,ra⟩:=i.li w n;obtain⟨b,B,Y,J,rb⟩:=i.li s m;subst E Y
  exact⟨a,b,rfl,⟨vs,L⟩,⟨B,J⟩,λD U=>sD i S (RS i w n s m) ⟨pU n,pU m⟩ (λC l h z=>⟨sT C l h z.1,sT C l h z.2⟩) P e U λp H' ae vs R' O I G=>q p H' ae vs R' O I (F.trans G)⟩
 ·cases e
end
def kS(d:Int)(ns:List Int):Int:=if ns.isEmpty then d else uH ns
def aEl(c b:T)(C:ab):Option (T×ab):=match b with
 | .int d=>(du C c).bind λa=>(gg a).map λf=>(.int (kS d f),C)
 |_=>none
abbrev FA(a b:FE):FE:=j3 a b aEl
def Ey(C:ab):Option T->Option (Option T)
 |none=>some none
 |some t=>(dr 3 C t).map some
def fo(C:ab):aD->Option aD
 | []=>some []
 |o::a=>(Ey C o).bind λb=>(fo C a).map (b:: ·)
section
variable {K:aL}{a:St}{H:Hp}{D:Ends}{F G:FS}{Q:VK}
end
end TL
namespace TL
open PySem PySem.Spec PyProof.Rows L2
section
variable {P:Program}{w:World}{H c:Hp}{h d:Heap}{a:Addr}{o:HO}
end
def Named(K:aL)(c:String)(C:Addr):Prop:=bQ K mainGlobals (Str.ofString c)=some (some (.ref C))
structure CT(P:Program)(w:World)(K:aL)(l:List Env)(H:Hp)(s:Shared)(c:String)(H':Hp)(C:Addr)(B:Heap)(s':Shared):Prop where
 nm:Named K c C
 os:s'.os=s.os
 bare:AllBare s'.gens
 un:Un (bx l) [] H H' s.heap s'.heap
 bz:gh P w H' s'.heap
 Hn:∀b o,s.heap.get? b=some o->H b=none->b∉bx l->B.get? b=some o
 MO:∀b u o,H' b=some u->s'.heap.get? b=some o->B.get? b=some o
 Ec:∀b o,s.heap.get? b=some o->b∉bx l->∃o',B.get? b=some o'
def CO(B:Heap)(l:List Env)(a C:Addr)(b:Shared):Prop:=∃t,Heap.FlyingW B l a (.ref C) (.ref t) b.heap
def Made(B:Heap)(l:List Env)(a C:Addr)(b:Shared):Prop:=∃h vs,B.StaysIn h/\h.FunFrames B l/\Heap.MadeExcOf h b.heap a (.ref C) vs
noncomputable def gk(X:Cx):XW:=λc d g=>∀f H s a C B b,Inv X f d H s->CT X.prog X.w X.K X.stack H s c g C B b->(Made B X.stack a C b\/CO B X.stack a C b)->X.xe (.ref a) b
section
variable {X:Cx}{d:List (Addr×Obj)}{f:L2.St}{H g:Hp}{s h:Shared}{c:String}{C a:Addr}{B:Heap}
end
section
variable {P:Program}{w:World}{K:aL}{a:Str->Option Value}{c:Heap}{N:List Str}{d:Str}{g:Scope}{f:Addr}{h:Value}{A:Around}{i:List Env}{s:Shared}{H:Hp}{E:XK}
end
abbrev QE(X:Cx)(e:Expr)(f:FE):Prop:=PE X e (bu X.K f)
abbrev QN(X:Cx)(e:Expr)(f:FN):Prop:=PE X e (ke X.K f)
abbrev QA(X:Cx)(e:List Expr)(f:FN):Prop:=PA X e (ia X.K f)
abbrev QT(X:Cx)(e:Expr)(f:FB):Prop:=PT X e (jf X.K f)
abbrev QW(X:Cx)(e:Expr)(f:FB):Prop:=PW X e (jf X.K f)
abbrev QO(X:Cx)(e:Option Expr)(f:FO):Prop:=PO X e (Bl X.K f)
abbrev QS(X:Cx)(e:Stmt)(f:FS):Prop:=PS X e (eH X.K (gk X) f)
abbrev th(X:Cx)(e:List Stmt)(f:FS):Prop:=jz X e (eH X.K (gk X) f)
abbrev QG(X:Cx)(e:Expr)(g:FG):Prop:=PG X e (ly X.K g)
abbrev tf(X:Cx)(e:List Expr)(f:FB):Prop:=vd X e (jf X.K f)
theorem vd.imp{X:Cx}{e:List Expr}{t b:TT}(h:vd X e t)(c:∀a H Q,b a H Q->t a H Q):vd X e b:=λd s a H Q I q=>h d s a H Q I (c a H Q q)
theorem TR{i j:Int}(h:m7 i j=true):IntMulOk i j:=by
 unfold m7 at h;unfold IntMulOk;intro z;rw[z]at h;cases h
section
variable {X:Cx}{a b c e:Expr}{d:List Expr}{l m z f:FE}{o fn:FN}{s B:FB}{pos p u:Pos}{j:Nat}
variable{I:CmpOp}{r:R2}
theorem e9(i:Nat){x:Str}(n:X.N[i]?=some x:=by rfl)(h:GZ X.env.scope x:=by first|exact aTr rfl|exact aTg (aTr rfl)|exact aTg (aTg rfl))(k:(x==("__debug__":Str))=false:=by decide)
 (g:(x==("__classdict__":Str))=false:=by decide):QE X (.Name x pos) (k8 i):=(Ql n h k g).imp λ_ _ _=>Ot
theorem fM{i:Int}{k}:QE X (.Constant (.int i) k pos) (fC (.int i)):=FT.imp λ_ _ _=>C8 λ_ _=>.int
theorem uo{i:Bool}{k}:QE X (.Constant (.bool i) k pos) (fC (.bl i)):=N6.imp λ_ _ _=>C8 λ_ _=>.bl
theorem DF{k}:QE X (.Constant .none k pos) (fC .aH):=OA.imp λ_ _ _=>C8 λ_ _=>.aH
theorem iD(h:QE X a l)(g:QE X b m):QE X (.BinOp a .Add b pos) (j3 l m (gI λi j=>.int (i+j))):=(wN Pd h g).imp λ_ _ _=>yI λ_ _ _ _ _=>ud λ_ _ _ _=>.int
theorem mS(h:QE X a l)(g:QE X b m):QE X (.BinOp a .Sub b pos) (j3 l m (gI λi j=>.int (i - j))):=(wN Pp h g).imp λ_ _ _=>yI λ_ _ _ _ _=>ud λ_ _ _ _=>.int
theorem Q4:g7 X (binaryOp .Mult) (rI IntMulOk λi j=>.int (i*j)):=BM λ_ _ _ _ _ _ _ g q=>mul_int q g
theorem lL(k:QE X a l)(g:QE X b m):QE X (.BinOp a .Mult b pos) (j3 l m (qc m7 λi j=>.int (i*j))):=(wN Q4 k g).imp λ_ _ _=>yI λ_ _ _ _ _ h=>by
 obtain⟨i,j,v,t,n,q⟩:=Ca (g:=λi j=>.int (i*j)) (λ_ _ _ _=>.int) h
 exact⟨i,j,v,t,TR n,q⟩
theorem i6(k:QE X a l)(g:QE X b m):QE X (.BinOp a .Mod b pos) (j3 l m (qc (λ_ j=>decide (0<j)) λi j=>.int (i%j))):=(wN NQ k g).imp λ_ _ _=>yI λ_ _ _ _ _ h=>by
 obtain⟨i,j,v,t,n,q⟩:=Ca (g:=λi j=>.int (i%j)) (λ_ _ _ _=>.int) h
 exact⟨i,j,v,t,of_decide_eq_true n,q⟩
theorem lO(k:QE X a l)(g:QE X b m):QE X (.BinOp a .FloorDiv b pos) (j3 l m (qc (λ_ j=>decide (0<j/\j<1073741824)) λi j=>.int (i/j))):=(wN QL k g).imp λ_ _ _=>yI λ_ _ _ _ _ h=>by
 obtain⟨i,j,w,v,t,q⟩:=Ca (g:=λi j=>.int (i/j)) (λ_ _ _ _=>.int) h;have n:0<j/\j<1073741824:=of_decide_eq_true t
 exact⟨i,j,w,v,n,q⟩
theorem A4(k:QE X a l)(g:QE X b m):QE X (.BinOp a .Pow b pos) (j3 l m (qc (λi j=>decide (0<=j/\j<=1000000/\i.natAbs<2^64)) λi j=>.int (i^j.toNat))):=(wN OI k g).imp λ_ _ _=>yI λ_ _ _ _ _ h=>by
 obtain⟨i,j,w,v,t,q⟩:=Ca (g:=λi j=>.int (i^j.toNat)) (λ_ _ _ _=>.int) h;have n:0<=j/\j<=1000000/\i.natAbs<2^64:=of_decide_eq_true t
 exact⟨i,j,w,v,n,q⟩
theorem Om(g:QE X a l):QE X (.UnaryOp .USub a pos) (yh l Cb):=(Nw OD g).imp λ_ _ _ h=>jT (EK h) λ_ _ q=>On q
theorem Bb{g:T->T->ab->Option (T×ab)}(n:g7 X (compareOp I) r)(t:∀k H Q x y,(∃i h,h9 X.K k [i,h] [x,y] (g i h) H Q)->r x y H Q)(w:QE X a l)(v:QE X b m)(q:behindInMarks I b=false):
 QE X (.Compare a [I] [b] pos) (j3 l m g):=(Sn n w v q).imp λ_ _ _=>yI t
theorem zO{g:T->T->ab->Option (T×ab)}(n:g7 X (compareOp I) r)(t:∀k H Q x y,(∃i h,h9 X.K k [i,h] [x,y] (g i h) H Q)->r x y H Q)(w:QE X a l)(v:QE X b m)(q:behindInMarks I b=false):
 QT X (.Compare a [I] [b] pos) (jD (j3 l m g)):=(Ry n w v q).imp λ_ _ _=>FD λ_ _ _=>yI t
abbrev Hr:=gI λi j=>.bl (decide (i<j))
abbrev Hs:=gI λi j=>.bl (decide (i<=j))
abbrev Ht:=gI λi j=>.bl (decide (j<i))
abbrev M8:=gI λi j=>.bl (decide (j<=i))
theorem Ni(h:QE X a l)(g:QE X b m):QE X (.Compare a [.Lt] [b] pos) (j3 l m Hr):=Bb Fp (λ_ _ _ _ _=>ud λ_ _ _ _=>.bl) h g (dy _)
theorem Nj(h:QE X a l)(g:QE X b m):QE X (.Compare a [.LtE] [b] pos) (j3 l m Hs):=Bb Fy (λ_ _ _ _ _=>ud λ_ _ _ _=>.bl) h g (dy _)
theorem yp(h:QE X a l)(g:QE X b m):QE X (.Compare a [.Gt] [b] pos) (j3 l m Ht):=Bb Ij (λ_ _ _ _ _=>ud λ_ _ _ _=>.bl) h g (dy _)
theorem HG(h:QE X a l)(g:QE X b m):QE X (.Compare a [.GtE] [b] pos) (j3 l m M8):=Bb Nr (λ_ _ _ _ _=>ud λ_ _ _ _=>.bl) h g (dy _)
theorem As(h:QE X a l)(g:QE X b m):QT X (.Compare a [.Lt] [b] pos) (jD (j3 l m Hr)):=zO Fp (λ_ _ _ _ _=>ud λ_ _ _ _=>.bl) h g (dy _)
theorem Nh(h:QE X a l)(g:QE X b m):QT X (.Compare a [.LtE] [b] pos) (jD (j3 l m Hs)):=zO Fy (λ_ _ _ _ _=>ud λ_ _ _ _=>.bl) h g (dy _)
theorem yq(h:QE X a l)(g:QE X b m):QT X (.Compare a [.Gt] [b] pos) (jD (j3 l m Ht)):=zO Ij (λ_ _ _ _ _=>ud λ_ _ _ _=>.bl) h g (dy _)
theorem Dh(g:X.A.units+20<cLine)(i:QE X a l)(h:QE X b m):QE X (.Compare a [.Eq] [b] pos) (j3 l m (n2 false)):=Bb (IJ g) (λ_ _ _ _ _=>E3) i h (dy _)
theorem te(g:X.A.units+20<cLine)(i:QE X a l)(h:QE X b m):QT X (.Compare a [.Eq] [b] pos) (jD (j3 l m (n2 false))):=zO (IJ g) (λ_ _ _ _ _=>E3) i h (dy _)
theorem HI(g:X.A.units+20<cLine)(i:QE X a l)(h:QE X b m):QT X (.Compare a [.NotEq] [b] pos) (jD (j3 l m (n2 true))):=zO (P6 g) (λ_ _ _ _ _=>E3) i h (dy _)
theorem Nf(g:X.A.units+20<cLine)(k:QE X a l)(i:QE X b m)(h:behindInMarks .In b=false:=by rfl):QE X (.Compare a [.In] [b] pos) (j3 l m (ry false)):=Bb (OP g) (λ_ _ _ _ _=>Hz) k i h
theorem HS(g:X.A.units+20<cLine)(k:QE X a l)(i:QE X b m)(h:behindInMarks .NotIn b=false:=by rfl):QT X (.Compare a [.NotIn] [b] pos) (jD (j3 l m (ry true))):=zO (T9 g) (λ_ _ _ _ _=>Hz) k i h
theorem WX(n:QE X a l)(k:QE X b m)(h:QE X c z)(g:lastMarks [.LtE,.Lt] [b,c]=false:=by with_unfolding_all rfl):QE X (.Compare a [.LtE,.Lt] [b,c] pos) (vL l m z (λi j=>decide (i<=j)) (λi j=>decide (i<j))):=
 (UN Fy Fp n k h g).imp λ_ _ _=>QK
theorem Fc{I}(g:QE X a l):QE X (.BoolOp I [a] pos) l:=P0 g
theorem Ir(h:QE X a l)(g:QE X (.BoolOp .And (b::d) pos) m):QE X (.BoolOp .And (a::b::d) pos) (zW l m):=(PV h g).imp λ_ _ _=>PP
theorem Nc(h:QE X a l)(g:QE X (.BoolOp .Or (b::d) pos) m):QE X (.BoolOp .Or (a::b::d) pos) (A0 l m):=(NH h g).imp λ_ _ _=>N2
theorem HL(g:QE X a l):QE X (.UnaryOp .Not a pos) (AA l):=(Qe g).imp λ_ _ _=>P4
theorem DS(g:QT X a s):QW X (.BoolOp .And [a] pos) s:=Qm g
theorem Bf(g:QT X a s):QW X (.BoolOp .Or [a] pos) s:=NK g
theorem Dt(h:QT X a s)(g:QW X (.BoolOp .And (b::d) pos) B):QW X (.BoolOp .And (a::b::d) pos) (tI s B):=(OX h g).imp λ_ _ _=>Pe
theorem ua(h:QT X a s)(g:QW X (.BoolOp .Or (b::d) pos) B):QW X (.BoolOp .Or (a::b::d) pos) (oC s B):=(N4 h g).imp λ_ _ _=>Ol
theorem tr(h:QW X a s):QT X a s:=h.pt
theorem rW(g:QT X a s):QT X (.UnaryOp .Not a pos) (l9 s):=(Pi g).imp λ_ _ _=>NL
theorem nY(i:QE X a l)(h:∀g,isTrue a X.env g=(do let v<-g;standAt a.pos;holding [v] (truthy v)):=by intro _;rfl):QT X a (mX l):=(Uw i h).imp λ_ _ _=>Nv
theorem g8(i:QE X a l)(h:QE X b m)(g:n7 b:=by exact λ_ _=>rfl):QE X (.Subscript a b pos) (j3 l m AK):=(NA O5 i h g).imp λ_ _ _=>yI λ_ _ _ _ _=>Nk
theorem GX:QO X none qJ:=Rr.imp λ_ _ _=>Tz
theorem FU(g:QE X a l):QO X (some a) (wO l):=(GI g).imp λ_ _ _=>NN
theorem Gg{lo g:Option Expr}{h fh:FO}(n:QE X a l)(i:QO X lo h)(k:QO X g fh):QN X (.Subscript a (.Slice lo g none u) pos) (yi l h fh):=(Tr QI n i k).imp λ_ _ _=>Nn
theorem fG:QA X [] fP:=FP.imp λ_ _ _=>H0
theorem eY(i:QE X e f)(h:QA X d o)(g:starEach (e::d) X.env=(false,eval e X.env)::starEach d X.env:=by rfl):QA X (e::d) (fB f o):=(xV i h g).imp λ_ _ _=>PH
theorem iJ(h:QA X d o):QN X (.List d pos) (iN o):=(Pg h).imp λ_ _ _=>Px m5
theorem Cp(h:QE X a l)(g:QE X b m):QN X (.BinOp a .Add b pos) (AB l m AU):=(wN Q8 h g).imp λ_ _ _=>Nz λ_ _ _ _ _=>N3
theorem gQ(h:QN X a fn):QE X a (gT fn):=PE.imp h λ_ _ _=>Jp
theorem lF(h:QN X a fn):QE X a (jW fn):=PE.imp h λ_ _ _=>IC
section
variable {x:Str}{id:String}
theorem Ai{r:List V->Hp->VK->Prop}{g:List T->ab->Option (T×ab)}(y:oT X (.builtin id) r)(n:∀i H Q xs,(∃h,h9 X.K i h xs (g h) H Q)->r xs H Q)(k:bootBuiltins x=some (.builtin id))(t:X.mg x=none)(v:Gl X x)(A:QA X (e::d) o)(q:x≠"__name__":=by decide)(C:(x==("__debug__":Str))=false:=by decide)
 (w:starEach (e::d) X.env=(false,eval e X.env)::starEach d X.env:=by rfl)(D:(backTo pos (starEach d X.env)).any (·.1)=false:=by rfl):QE X (.Call (.Name x p) (e::d) [] pos) (o4 o g):=
 (GV y v t k A q C w D).imp λ_ _ _=>HD n
end
theorem mG(g:X.mg "len"=none)(k:QA X (e::d) o)(h:Gl X "len":=by rfl)(i:starEach (e::d) X.env=(false,eval e X.env)::starEach d X.env:=by rfl)(n:(backTo pos (starEach d X.env)).any (·.1)=false:=by rfl):
 QE X (.Call (.Name "len" p) (e::d) [] pos) (o4 o AQ):=Ai WN (λ_ _ _ _=>N8) PySem.boot_len g h k (by decide) (by decide) i n
theorem U7(g:X.calm=true):oT X (.builtin "sum") (Cw X.K (λ_=>true) aTI):=UD g
theorem Cr(g:X.mg "sum"=none)(k:X.calm=true)(n:QA X (e::d) o)(h:Gl X "sum":=by rfl)(i:starEach (e::d) X.env=(false,eval e X.env)::starEach d X.env:=by rfl)(q:(backTo pos (starEach d X.env)).any (·.1)=false:=by rfl):
 QE X (.Call (.Name "sum" p) (e::d) [] pos) (An o):=Ai (U7 k) (λ_ _ _ _=>F2) boot_sum g h n (by decide) (by decide) i q
theorem IT(g:X.mg "max"=none)(k:X.calm=true)(n:QA X (e::d) o)(h:Gl X "max":=by rfl)(i:starEach (e::d) X.env=(false,eval e X.env)::starEach d X.env:=by rfl)(q:(backTo pos (starEach d X.env)).any (·.1)=false:=by rfl):
 QE X (.Call (.Name "max" p) (e::d) [] pos) (Fu o):=Ai (Ui k) (λ_ _ _ _=>F2) boot_max g h n (by decide) (by decide) i q
theorem vS(g:X.mg "max"=none)(k:X.calm=true)(n:QA X (e::d) o)(h:Gl X "max":=by rfl)(i:starEach (e::d) X.env=(false,eval e X.env)::starEach d X.env:=by rfl)(q:(backTo pos (starEach d X.env)).any (·.1)=false:=by rfl):
 QE X (.Call (.Name "max" p) (e::d) [] pos) (Au o):=Ai (Uh k) (λ_ _ _ _=>HA) boot_max g h n (by decide) (by decide) i q
theorem rZ(g:X.mg "min"=none)(k:X.calm=true)(n:QA X (e::d) o)(h:Gl X "min":=by rfl)(i:starEach (e::d) X.env=(false,eval e X.env)::starEach d X.env:=by rfl)(q:(backTo pos (starEach d X.env)).any (·.1)=false:=by rfl):
 QE X (.Call (.Name "min" p) (e::d) [] pos) (tM o):=Ai (Um k) (λ_ _ _ _=>HA) boot_min g h n (by decide) (by decide) i q
theorem HM(g:X.mg "all"=none)(k:X.calm=true)(n:QA X (e::d) o)(h:Gl X "all":=by rfl)(i:starEach (e::d) X.env=(false,eval e X.env)::starEach d X.env:=by rfl)(q:(backTo pos (starEach d X.env)).any (·.1)=false:=by rfl):
 QE X (.Call (.Name "all" p) (e::d) [] pos) (Cj o):=Ai (Ud k) (λ_ _ _ _=>Ob) boot_all g h n (by decide) (by decide) i q
theorem pN(g:X.mg "int"=none)(k:QA X (e::d) o)(h:Gl X "int":=by rfl)(i:starEach (e::d) X.env=(false,eval e X.env)::starEach d X.env:=by rfl)(n:(backTo pos (starEach d X.env)).any (·.1)=false:=by rfl):
 QE X (.Call (.Name "int" p) (e::d) [] pos) (qX o):=(Mh UU h g boot_int k (by decide) (by decide) i n).imp λ_ _ _=>HD λ_ _ _ _=>Po
theorem Jd(g:X.mg "list"=none)(k:QA X (e::d) o)(h:Gl X "list":=by rfl)(i:starEach (e::d) X.env=(false,eval e X.env)::starEach d X.env:=by rfl)(n:(backTo pos (starEach d X.env)).any (·.1)=false:=by rfl):
 QN X (.Call (.Name "list" p) (e::d) [] pos) (FC o):=(Mh Wy h g boot_list k (by decide) (by decide) i n).imp λ_ _ _=>HR λ_ _ _ _=>NV
structure jB(P:Program)(w:World)(K:aL)(mg:Str->Option Value)(base:Heap)(k:Nat)(x:Str)(n:Nat)(F:List T->Option T):Prop where
 ex:∃f fd ps,oW P w K mg base kb k f fd ps (spT K n F)/\mg x=some (.ref f)/\cI K (.ref f)=true/\Binds K fd ps []
structure ER(P:Program)(w:World)(K:aL)(mg:Str->Option Value)(base:Heap)(k:Nat)(x:Str)(n:Nat)(F:List T->Option (List T)):Prop where
 ex:∃f fd ps,oW P w K mg base kb k f fd ps (zr K n F)/\mg x=some (.ref f)/\cI K (.ref f)=true/\Binds K fd ps []
theorem gB{k n:Nat}{x:Str}{F:List T->Option T}(D:jB X.prog X.w X.K X.mg X.base k x n F)(g:cm k X.A)(y:QA X (e::d) o)(t:Gl X x:=by rfl)(A:(x==("__debug__":Str))=false:=by decide)
 (v:starEach (e::d) X.env=(false,eval e X.env)::starEach d X.env:=by rfl)(C:(backTo pos (starEach d X.env)).any (·.1)=false:=by rfl):QE X (.Call (.Name x p) (e::d) [] pos) (gG n F o):=by
 obtain⟨f,J,H,G,i,q,w⟩:=D.ex
 exact(yD (E:=λ_ _ _=>False) G g t i q w .nil (λ_ _ _ _ _ _ _ h=>h.elim) y A v C).imp λ_ _ _=>Pr
theorem OQ{k n:Nat}{x:Str}{F:List T->Option (List T)}(D:ER X.prog X.w X.K X.mg X.base k x n F)(g:cm k X.A)(y:QA X (e::d) o)(t:Gl X x:=by rfl)(A:(x==("__debug__":Str))=false:=by decide)
 (v:starEach (e::d) X.env=(false,eval e X.env)::starEach d X.env:=by rfl)(C:(backTo pos (starEach d X.env)).any (·.1)=false:=by rfl):QN X (.Call (.Name x p) (e::d) [] pos) (si n F o):=by
 obtain⟨f,J,H,G,i,q,w⟩:=D.ex
 exact(yD (E:=λ_ _ _=>False) G g t i q w .nil (λ_ _ _ _ _ _ _ h=>h.elim) y A v C).imp λ_ _ _=>SI
theorem cq{k:Nat}{A:Around}(g:cm k A):A.units+20<cLine:=by have:=g.un;lia
theorem kY{x:Str}(n:X.N.Nodup)(i:Nat)(h:X.N[i]?=some x:=by rfl)(g:Loc X.env.scope x:=by first|exact aTr rfl|exact aTg rfl)(k:X.fn x=true\/X.env.scope.names.lookup x=some .local:=by first|exact .inl rfl|exact .inr rfl):QG X (.Name x pos) (gN i):=
 (JV n h g k).imp λ_ _ _ _=>DZ
structure NG(X:Cx)(ts:List Expr)(is:List Nat):Prop where
 h:Bi X ts (is.foldr (λi g=>Dw (t9 i) g) Do)
theorem lR:NG X [] []:=⟨SQ⟩
theorem iB{x:Str}{g:List Expr}{is:List Nat}(v:X.N.Nodup)(i:Nat)(h:NG X g is)(q:X.N[i]?=some x:=by rfl)(k:Loc X.env.scope x:=by first|exact aTr rfl|exact aTg rfl)(t:X.fn x=true\/X.env.scope.names.lookup x=some .local:=by first|exact .inl rfl|exact .inr rfl)
 (n:(assignEach (.Name x pos::g) X.env).map (·.2)=assign (.Name x pos) X.env::(assignEach g X.env).map (·.2):=by rfl):NG X (.Name x pos::g) (i::is):=⟨TB (JV v q k t) h.h n⟩
theorem Oi{K:aL}{is:List Nat}{v:V}{n:L2.St}{H:Hp}{Q:L2.St->Hp->Prop}(h:ly K (gU is) v n H Q):BW K is.length (is.foldr (λi g=>Dw (t9 i) g) Do) v n H Q:=by
 obtain⟨x,Z,G,F,C,t,L,R,r,e,k⟩:=h;unfold gU at e;obtain⟨J,D,e⟩:=eV e;split at e
 ·rename_i w;cases e;obtain⟨a,vs,A,y,q⟩:=R.sq r D
  exact⟨a,vs,A,y,by rw[q.length];exact w,Rel.dc R q w k⟩
 ·cases e
theorem lS{g:List Expr}{is:List Nat}{k:Nat}(n:X.calm=true)(h:NG X g is)(i:(assignEach g X.env).length=is.length:=by rfl)(q:(assignEach g X.env).findIdx? (·.1)=none:=by rfl):QG X (.Tuple g k pos) (gU is):=
 (Pk n h.h i q).imp λ_ _ _ _=>Oi
theorem fy(h o:List Str)(is:List Nat){g:Scope}{k:List (Str×Addr)}(C:rF X.env.cells g.names []=some k:=by with_unfolding_all rfl)(A:∀y∈g.names,y.2≠ .cell:=by decide+kernel)(w:g.kind=.function:=by rfl)
 (v:∀y∈g.names,y.2=.local->g.names.lookup y.1=some .local:=by decide+kernel)(t:is.map (λi=>X.N[i]?)=o.map some:=by rfl)
 (q:o.all (λx=>X.env.kindOf x==some .cell||X.env.kindOf x==some .free)=true:=by rfl)(n:o.all (λx=>(relabel g X.env).names.lookup x==some .cell||(relabel g X.env).names.lookup x==some .free)=true:=by rfl):nB X h o is g k:=
 ⟨C,A,w,v,t,q,n⟩
theorem iV:tf X [] iI:=Qv.imp λq H Q h=>by
 obtain⟨g,Z,i,n,C,b,t,R,e,k⟩:=h;cases e
 exact k H i R .refl
theorem uA(h:QT X c s):tf X [c] s:=Qy h
section
variable {n bx:List Str}{is:List Nat}{v:Scope}{w:List (Str×Addr)}{y iter A:Expr}{F:List Expr}{G J:FE}{g:FG}{L:FB}{bq M:Pos}{x:Str}
variable{W:XW}{O:TE}{i:Nat}{N:L2.St}
theorem lM(S:X.calm=true)(k:nB X n bx is v w)(P:QE X iter G)(K:kv n.length g)(Q:∀C h t q,QG (iE X (n++bx) v w C h t q) y g)(D:∀C h t q,tf (iE X (n++bx) v w C h t q) F L)
 (R:∀C h t q,QE (iE X (n++bx) v w C h t q) A J)(H:∀x,foldedSetIterable iter X.env x=pure x:=by intro _;rfl):QN X (.ListComp A [⟨y,iter,F,0⟩] v pos) (kZ G n.length is g L J):=
 (uB S k (Gk P) Q D R H).imp λ_ _ _=>Iy K
theorem Lz(Q:X.mg "range"=none)(Y:X.calm=true)(k:nB X n bx is v w)(R:QE X iter G)(P:kv n.length g)(S:∀C h t q,QG (iE X (n++bx) v w C h t q) y g)(H:∀C h t q,tf (iE X (n++bx) v w C h t q) F L)
 (U:∀C h t q,QE (iE X (n++bx) v w C h t q) A J)(Z:Gl X "range":=by rfl)(K:∀x,foldedSetIterable (.Call (.Name "range" p) [iter] [] u) X.env x=pure x:=by intro _;rfl)(D:starEach [iter] X.env=[(false,eval iter X.env)]:=by rfl):
 QN X (.ListComp A [⟨y,.Call (.Name "range" p) [iter] [] u,F,0⟩] v pos) (lA G n.length is g L J):=
 (uB Y k (sS Z Q (eY R fG (by rw[D];rfl)) D) S H U K).imp λ_ _ _=>yM P
theorem EH{K:aL}{fn:FN}{D:Ends}{H:Hp}(k:∀N H Q,ke K fn N H Q->O N H Q)(h:eH K W (gR (gT fn) (gN i)) D N H):Aq O (t9 i) D N H:=
 k _ _ _ (Jp (jT (Du h) λ_ _ q=>DZ q))
theorem EF{K:aL}{fn:FN}{D:Ends}{H:Hp}(k:∀N H Q,ke K fn N H Q->O N H Q)(h:eH K W (gR (jW fn) (gN i)) D N H):Aq O (t9 i) D N H:=
 k _ _ _ (IC (jT (Du h) λ_ _ q=>DZ q))
theorem Jz(E:X.N.Nodup)(i:Nat)(Z:X.calm=true)(k:nB X n bx is v w)(S:QE X iter G)(Q:kv n.length g)(U:∀C h t q,QG (iE X (n++bx) v w C h t q) y g)(K:∀C h t q,tf (iE X (n++bx) v w C h t q) F L)
 (Y:∀C h t q,QE (iE X (n++bx) v w C h t q) A J)(H:X.N[i]?=some x:=by rfl)(R:X.env.scope.names.lookup x=some .local:=by rfl)
 (D:swapsWith (.ListComp A [⟨y,iter,F,0⟩] v pos) (some (.Name x M)) bq.line X.env=pure true:=by rfl)(P:∀x,foldedSetIterable iter X.env x=pure x:=by intro _;rfl):
 QS X (.Assign [.Name x M] (.ListComp A [⟨y,iter,F,0⟩] v pos) bq) (gR (gT (kZ G n.length is g L J)) (gN i)):=
 (qF E H R Z k (Gk S) U K Y D P).imp λ_ _ _=>EH λ_ _ _=>Iy Q
theorem Ub(hN:X.N.Nodup)(i:Nat)(S:X.mg "range"=none)(hc:X.calm=true)(k:nB X n bx is v w)(Y:QE X iter G)(R:kv n.length g)(Z:∀C h t q,QG (iE X (n++bx) v w C h t q) y g)(P:∀C h t q,tf (iE X (n++bx) v w C h t q) F L)
 (E:∀C h t q,QE (iE X (n++bx) v w C h t q) A J)(bv:Gl X "range":=by rfl)(K:X.N[i]?=some x:=by rfl)(U:X.env.scope.names.lookup x=some .local:=by rfl)
 (H:swapsWith (.ListComp A [⟨y,.Call (.Name "range" p) [iter] [] u,F,0⟩] v pos) (some (.Name x M)) bq.line X.env=pure true:=by rfl)(Q:∀x,foldedSetIterable (.Call (.Name "range" p) [iter] [] u) X.env x=pure x:=by intro _;rfl)(D:starEach [iter] X.env=[(false,eval iter X.env)]:=by rfl):
 QS X (.Assign [.Name x M] (.ListComp A [⟨y,.Call (.Name "range" p) [iter] [] u,F,0⟩] v pos) bq) (gR (gT (lA G n.length is g L J)) (gN i)):=
 (qF hN K U hc k (sS bv S (eY Y fG (by rw[D];rfl)) D) Z P E H Q).imp λ_ _ _=>EH λ_ _ _=>yM R
theorem sU(hN:X.N.Nodup)(i:Nat)(S:X.mg "range"=none)(hc:X.calm=true)(k:nB X n bx is v w)(Y:QE X iter G)(R:kv n.length g)(Z:∀C h t q,QG (iE X (n++bx) v w C h t q) y g)(P:∀C h t q,tf (iE X (n++bx) v w C h t q) F L)
 (E:∀C h t q,QE (iE X (n++bx) v w C h t q) A J)(bv:Gl X "range":=by rfl)(K:X.N[i]?=some x:=by rfl)(U:X.env.scope.names.lookup x=some .local:=by rfl)
 (H:swapsWith (.ListComp A [⟨y,.Call (.Name "range" p) [iter] [] u,F,0⟩] v pos) (some (.Name x M)) bq.line X.env=pure true:=by rfl)(Q:∀x,foldedSetIterable (.Call (.Name "range" p) [iter] [] u) X.env x=pure x:=by intro _;rfl)(D:starEach [iter] X.env=[(false,eval iter X.env)]:=by rfl):
 QS X (.Assign [.Name x M] (.ListComp A [⟨y,.Call (.Name "range" p) [iter] [] u,F,0⟩] v pos) bq) (gR (jW (lA G n.length is g L J)) (gN i)):=
 (qF hN K U hc k (sS bv S (eY Y fG (by rw[D];rfl)) D) Z P E H Q).imp λ_ _ _=>EF λ_ _ _=>yM R
end
section
variable {st:Stmt}{w A:List Stmt}{F G:FS}{y iter:Expr}{g:FG}
variable{D C:Pos}
theorem i0:th X [] jK:=RH.imp λ_ _ _=>IA
theorem fO(h:QS X st F):th X [st] F:=Rc h
theorem fH(h:QS X st F)(i:th X w G):th X (st::w) (f9 F G):=(Tn h i).imp λ_ _ _=>Og
theorem Sz:QS X (.Pass pos) jK:=SE.imp λ_ _ _=>IA
theorem Lq:QS X st DV:=λ_ _ _ _ _ _ h=>(SO h).elim
theorem gO(h:QE X a l):QS X (.Return (some a) pos) (iF l):=(O3 h).imp λ_ _ _=>N0
theorem oH(h:QE X a l)(i:swapsWith a none pos.line X.env=pure false:=by rfl):QS X (.Expr a pos) (oB l):=(GE h i).imp λ_ _ _=>O0
theorem lC(h:QT X c s)(k:th X w F)(i:th X A G):QS X (.If c w A pos) (er s F G):=(NC h k i).imp λ_ _ _=>Np
theorem gA{x:Str}{k:Pos}(J:X.N.Nodup)(i:Nat)(h:QE X a l)(v:X.N[i]?=some x:=by rfl)(n:Loc X.env.scope x:=by first|exact aTr rfl|exact aTg rfl)(t:swapsWith a (some (.Name x k)) pos.line X.env=pure false:=by rfl)
 (H:X.fn x=true\/X.env.scope.names.lookup x=some .local:=by first|exact .inl rfl|exact .inr rfl):QS X (.Assign [.Name x k] a pos) (gR l (gN i)):=(NZ J v n h t H).imp λ_ _ _ h=>jT (Du h) λ_ _ q=>DZ q
theorem v7(h:QE X a l)(n:QG X y g)(k:swapsWithSole [y] a pos.line X.env=pure false:=by rfl)(i:swappedStores [y] a X.env=pure none:=by rfl)(q:(assignEach [y] X.env).map (·.2)=[assign y X.env]:=by rfl):QS X (.Assign [y] a pos) (gR l g):=
 (II h n k i q).imp λ_ _ _=>Du
theorem sY(n:QE X a l)(t:QE X b m)(x:QE X c z)(q:swapsWithSole [.Subscript b c p] a pos.line X.env=pure false:=by rfl)(k:swappedStores [.Subscript b c p] a X.env=pure none:=by rfl)
 (J:(assignEach [.Subscript b c p] X.env).map (·.2)=[assign (.Subscript b c p) X.env]:=by rfl)
 (H:∀v,assign (.Subscript b c p) X.env v=(do
  let h<-holding [v] (eval b X.env)
  let i<-holding [v,h] (eval c X.env)
  standAt p
  holding [v,h,i] (setItem h i v)
  release [v,h,i] []):=by intro _;rfl):QS X (.Assign [.Subscript b c p] a pos) (sC l m z):=
 (II n (O7 t x KI H) q k J).imp λ_ _ _=>O6
theorem mZ(q:X.calm=true)(k:QE X iter l)(n:QG X y g)(t:th X w F)(i:PassesOwn (model X.prog X.w) X.A X.env X.xe:=by first|exact PassesOwn.never|exact PassesOwn.leaving|exact PassesOwn.looking)(h:∀x,foldedSetIterable iter X.env x=pure x:=by intro _;rfl):QS X (.For y iter w [] pos) (pW l g F):=
 (DJ i q (Gk k) n t h).imp λ_ _ _=>N9
theorem m9(n:X.mg "range"=none)(v:X.calm=true)(q:QE X iter l)(t:QG X y g)(H:th X w F)(k:PassesOwn (model X.prog X.w) X.A X.env X.xe:=by first|exact PassesOwn.never|exact PassesOwn.leaving|exact PassesOwn.looking)(J:Gl X "range":=by rfl)
 (i:∀x,foldedSetIterable (.Call (.Name "range" p) [iter] [] u) X.env x=pure x:=by intro _;rfl)(h:starEach [iter] X.env=[(false,eval iter X.env)]:=by rfl):QS X (.For y (.Call (.Name "range" p) [iter] [] u) w [] pos) (mC l g F):=
 (DJ k v (sS J n (eY q fG (by rw[h];rfl)) h) t H i).imp λ_ _ _=>SN
theorem LA(q:X.mg "range"=none)(v:X.calm=true)(K:QE X a l)(J:QE X b m)(t:QG X y g)(H:th X w F)(n:PassesOwn (model X.prog X.w) X.A X.env X.xe:=by first|exact PassesOwn.never|exact PassesOwn.leaving|exact PassesOwn.looking)(L:Gl X "range":=by rfl)
 (k:∀x,foldedSetIterable (.Call (.Name "range" p) [a,b] [] u) X.env x=pure x:=by intro _;rfl)(i:starEach [a,b] X.env=[(false,eval a X.env),(false,eval b X.env)]:=by rfl)(h:starEach [b] X.env=[(false,eval b X.env)]:=by rfl):QS X (.For y (.Call (.Name "range" p) [a,b] [] u) w [] pos) (tW l m g F):=
 (DJ n v (U6 L q (eY K (eY J fG (by rw[h];rfl)) (by rw[i,h])) i h) t H k).imp λ_ _ _=>Qr
theorem qC(n:Nat)(i:QT X c s)(k:th X w F)(h:PassesOwn (model X.prog X.w) X.A X.env X.xe:=by first|exact PassesOwn.never|exact PassesOwn.leaving|exact PassesOwn.looking):QS X (.While c w [] pos) (nF s F n):=(R7 h i k).imp λ_ _ _=>SG
theorem qN(k:QE X a l)(n:QA X (e::d) o)(i:swapsWith (.Call (.Attribute a "append" D) (e::d) [] C) none pos.line X.env=pure false:=by rfl)(q:attributeBase a "append" X.env (eval a X.env)=eval a X.env:=by rfl)
 (h:((backTo C (starEach (e::d) X.env)).all (λx=> !x.1)&&(backToKw C (keywordEach [] X.env)).all (λx=>x.1.isSome)
  &&decide ((e::d).length+([]:List Keyword).length+(if([]:List Keyword).isEmpty then 0 else 1)<30))=true:=by rfl)
 (t:(D.endLine==C.line)=true:=by rfl)(H:starEach (e::d) X.env=(false,eval e X.env)::starEach d X.env:=by rfl)(v:(backTo C (starEach d X.env)).any (·.1)=false:=by rfl):
 QS X (.Expr (.Call (.Attribute a "append" D) (e::d) [] C) pos) (xE l o):=
 (GE (Ig PySem.F.plainAttrs_list PySem.F.slot_list_append PySem.F.type_list_append Qd k n q h t H v) i).imp λ_ _ _=>HU P8
theorem F4(k:QE X a l)(n:QA X (e::d) o)(i:swapsWith (.Call (.Attribute a "insert" D) (e::d) [] C) none pos.line X.env=pure false:=by rfl)(q:attributeBase a "insert" X.env (eval a X.env)=eval a X.env:=by rfl)
 (h:((backTo C (starEach (e::d) X.env)).all (λx=> !x.1)&&(backToKw C (keywordEach [] X.env)).all (λx=>x.1.isSome)
  &&decide ((e::d).length+([]:List Keyword).length+(if([]:List Keyword).isEmpty then 0 else 1)<30))=true:=by rfl)
 (t:(D.endLine==C.line)=true:=by rfl)(H:starEach (e::d) X.env=(false,eval e X.env)::starEach d X.env:=by rfl)(v:(backTo C (starEach d X.env)).any (·.1)=false:=by rfl):
 QS X (.Expr (.Call (.Attribute a "insert" D) (e::d) [] C) pos) (Dn l o):=
 (GE (Ig PySem.F.plainAttrs_list PySem.F.slot_list_insert PySem.F.type_list_insert NP k n q h t H v) i).imp λ_ _ _=>HU PB
end
end
section
variable {X:Cx}{a:List (Addr×Obj)}{d:L2.St}{H:Hp}{s:Shared}
variable{ch:List Addr}{f:Heap}{t':Nat}
theorem Lg{p:Addr}{o:HO}(I:Inv X a d H s)(i:∀b∈ch,v9 X a H b)(k:∀b ob,b∉ch->s.heap.get? b=some ob->f.get? b=some ob)(w:s.heap.objs.size<=p)
 (l:kW X.prog X.w (upd H p o) f p o):Inv X a d (upd H p o) {s with heap:=f,toks:=t'}:=by
 have y:H p=none:=I.bz.fresh w;have j:∀b u,H b=some u->b≠p:=λb u e z=>by rw[z,y]at e;cases e
 have t:∀b u,H b=some u->b∉ch:=λb u e z=>by rw[(i b z).1]at e;cases e
 refine I.step (g':=s.gens) (d':=s.drawn) (ch:=ch) (λb h=>⟨(i b h).2.2.2.1,(i b h).2.1,(i b h).2.2.2.2.1,(i b h).2.2.2.2.2⟩) (λb o _ _ g e _=>k b o g e) (λb o _ _ g e _=>⟨o.slots,k b o g e⟩)
  (λb ob _ e n=>by rw[gH (bS (bL (Heap.lt_size e) w))];exact n) (λb ob g e=>⟨ob,k b ob g e⟩)
  (λb xs e=>by rw[gH (j _ _ e)];exact e) (λb ob u e=>by rw[gH (j _ _ e)];exact e) (λb D e=>⟨#[],by rw[gH (j _ _ e),e];simp⟩) (λm A=>?_) (λb u e=>?_) I.bare
 ·obtain⟨ob,B,C,x,r⟩:=A
  exact⟨ob,B,C,k _ ob (λz=>(i _ z).2.1 rfl) x,r⟩
 ·by_cases h:b=p
  ·subst h;rw[j8]at e;cases e
   exact l
  ·rw[gH h]at e
   refine(I.bz b u e).ib (λc v g q=>k c v ?_ q) (λc q=>by rw[gH (j _ _ q)];exact q) λc xs q=>by rw[gH (j _ _ q)];exact q
   rcases g with z|z
   ·rw[z];exact t b u e
   ·exact t c _ z
theorem LM(I:Inv X a d H s)(h:∀b∈ch,v9 X a H b)(k:∀b ob,b∉ch->s.heap.get? b=some ob->f.get? b=some ob):Inv X a d H {s with heap:=f,toks:=t'}:=by
 have j:∀b u,H b=some u->b∉ch:=λb u e z=>by rw[(h b z).1]at e;cases e
 refine I.step (g':=s.gens) (d':=s.drawn) (ch:=ch) (λb i=>⟨(h b i).2.2.2.1,(h b i).2.1,(h b i).2.2.2.2.1,(h b i).2.2.2.2.2⟩) (λb o _ _ g e _=>k b o g e) (λb o _ _ g e _=>⟨o.slots,k b o g e⟩)
  (λb ob _ e n=>n) (λb ob g e=>⟨ob,k b ob g e⟩) (λb xs e=>e) (λb ob u e=>e) (λb x e=>⟨#[],by rw[e];simp⟩) (λm p=>?_) (λb u e=>?_) I.bare
 ·obtain⟨ob,t,w,l,r⟩:=p
  exact⟨ob,t,w,k _ ob (λz=>(h _ z).2.1 rfl) l,r⟩
 ·refine(I.bz b u e).ib (λc v g q=>k c v ?_ q) (λc q=>q) λc xs q=>q
  rcases g with z|z
  ·rw[z];exact j b u e
  ·exact j c _ z
end
theorem Ut{P:Program}{w:World}{K:aL}{ts:List Expr}{k:Nat}{pos:Pos}(z TI TO m l C B:Addr)(D:ZipApart z TI TO m l C B):
 Turn P w K (.Tuple ts k pos) (G7 K C B) [z,TI,TO,m,l] z (λi h=>IsZip h z TI TO .none/\IsPair h TI (.ref m) (.ref l)/\(∃a b,IsPair h TO a b)/\h.IsListIter m C i/\h.IsListIter l B i) where
 mem:=by simp
 obj:=λi h st b c=>by
  obtain⟨d,f,⟨a,L,g⟩,⟨o1,e1,c1,d1⟩,⟨o2,e2,c2,d2⟩⟩:=st;simp only[bU,b4,or_false]at c;rcases c with rfl|rfl|rfl|rfl|rfl
  ·exact⟨_,d,λv z=>by simp at z⟩
  ·exact⟨_,f,λv z=>by simp at z⟩
  ·exact⟨_,g,λv z=>by simp at z⟩
  ·exact⟨o1,e1,λv z=>by rw[d1]at z;cases z⟩
  ·exact⟨o2,e2,λv z=>by rw[d2]at z;cases z⟩
 keep:=λi h h' st j=>by
  obtain⟨d,f,⟨a,L,g⟩,p,n⟩:=st
  exact⟨j z (by simp) _ d,j TI (by simp) _ f,⟨a,L,j TO (by simp) _ g⟩,p.at λo e=>j m (by simp) o e,n.at λo e=>j l (by simp) o e⟩
 item:=by
  intro X Z U hK hc i aa s σ H E I J st Y;subst Z U hK;obtain⟨d,f,⟨a,L,g⟩,p,n⟩:=st;obtain⟨xs,ys,x,y,A,t,g1,g2⟩:=Y;obtain⟨S,N,R,z1⟩:=I.list A;obtain⟨ie,O,Q,z2⟩:=I.list t;obtain⟨u,hu,ru⟩:=N.get g1;obtain⟨r,jo,mw⟩:=O.get g2
  refine wpAny_pyNext_zip_item D d f g p n R.isList Q.isList (x:=u) (y:=r) (by simpa using hu) (by simpa using jo) λh' a1 a2 a3 a4 a5 a6 G=>?_
  refine⟨_,rfl,wpAny_letOwnedTupleGo_zip (s:={s with heap:=h'}) a1 λF yj q=>?_⟩
  have M:z≠s.heap.objs.size:=bS (Heap.lt_size d);have j:∀b ob,b∉[z,TI,TO,m,l]->s.heap.get? b=some ob->F.get? b=some ob:=λb ob c e=>by
   simp only[bU,b4,or_false,not_or]at c
   exact(q.2 b c.1).trans (G b ob c.1 c.2.2.1 c.2.2.2.1 c.2.2.2.2 e)
  have hT:F.get? s.heap.objs.size=some {cls:=.type "tuple",data:=.seq #[u,r]}:=(q.2 _ (Ne.symm M)).trans a5;have I1:Inv X aa σ (upd H s.heap.objs.size (.tup [x,y])) {s with heap:=F,toks:=s.toks}:=Lg I J j (bE _)
   (show kW X.prog X.w _ F _ (.tup [x,y])from⟨by show 2<=sizeLine;decide,[u,r],.cons ru (.cons mw .nil),⟨_,hT,rfl,_,rfl⟩⟩)
  have hn:H s.heap.objs.size=none:=I.fresh
  refine⟨.ref s.heap.objs.size,_,I1,rfl,⟨_,x,y,hn,rfl,rfl,λzs d=>by rw[I.fm d A];exact g1,λzs d=>by rw[I.fm d t];exact g2⟩,?_,λb c=>?_⟩
  ·refine⟨yj,(q.2 _ D.TIz).trans (G _ _ D.TIz D.TITO D.TIi1 D.TIi2 f),⟨u,r,(q.2 _ D.TOz).trans a2⟩,a3.at λo e=>(q.2 _ D.i1z).trans e,a4.at λo e=>(q.2 _ D.i2z).trans e⟩
  ·have ux:=(J b c).1;rw[gH]
   ·exact ux
   ·rintro rfl;have:∃o,s.heap.get? s.heap.objs.size=some o:=by
     simp only[bU,b4,or_false]at c;obtain⟨o1,e1,_⟩:=p;obtain⟨o2,e2,_⟩:=n;rcases c with h|h|h|h|h
     ·rw[h];exact⟨_,d⟩
     ·rw[h];exact⟨_,f⟩
     ·rw[h];exact⟨_,g⟩
     ·rw[h];exact⟨_,e1⟩
     ·rw[h];exact⟨_,e2⟩
    obtain⟨o,e⟩:=this
    exact absurd (Heap.lt_size e) (cR _)
 done:=by
  intro X Z U hK hc i aa s σ H E I J st Y;subst Z U hK;obtain⟨d,f,⟨a,L,g⟩,p,n⟩:=st;obtain⟨xs,ys,A,t,ur⟩:=Y;obtain⟨S,N,R,z1⟩:=I.list A;obtain⟨ie,O,Q,z2⟩:=I.list t;have C:=N.length;have B:=O.length
  refine wpAny_pyNext_zip_end (I.ok.hd hc) D d f g p n R.isList Q.isList ?_ λh' G=>⟨rfl,LM (t':=s.toks) I J λb ob c e=>?_⟩
  ·rcases ur with h|h
   ·exact .inl (by simp at h|-;lia)
   ·exact .inr (by simp at h|-;lia)
  ·simp only[bU,b4,or_false,not_or]at c
   exact G b ob c.1 c.2.2.1 c.2.2.2.1 c.2.2.2.2 e
 self:=λ_ _ _ _ _ st h=>wpAny_pyIter_zip st.1 h
section
variable {X:Cx}{a b e:Expr}{l:List Expr}{f j:FE}{m:FN}{pos p d:Pos}
theorem IR{D:List Expr}{k:Nat}{ar:Pos}{t:TA}(Z:Gl X "zip")(U:X.mg "zip"=none)(E:PA X [a,b] t)(S:starEach [a,b] X.env=[(false,eval a X.env),(false,eval b X.env)]:=by rfl)(w:starEach [b] X.env=[(false,eval b X.env)]:=by rfl):
 PI X (.Tuple D k ar) (.Call (.Name "zip" p) [a,b] [] pos) (BU X.K t):=by
 intro B s r H R I h
 refine Call_ (rN I Z U boot_zip (dB (aG (E pos B s r H _ I h) λus c ⟨vs,C,i,G,L⟩=>?_) (by rw[S,w]) (by rw[w];rfl)))
 obtain⟨y,x,e,⟨xs,K⟩,⟨ys,J⟩,q⟩:=L;subst e;obtain⟨u,u2,rfl,F,M⟩:=G.two;cases F;cases M;obtain⟨P,rv,v,z1⟩:=i.list K;obtain⟨ie,py,d,z2⟩:=i.list J;have a1:y<c.heap.objs.size:=v.lt;have a2:x<c.heap.objs.size:=d.lt
 refine call_zip_2 v.isList d.isList λh' z O N o n Q Y=>wpAny_pyIter_zip z ?_
 have I2:Inv X B r C {c with heap:=h'}:=i.kept (t':=c.toks) Y
 refine⟨c.heap.objs.size+4,[c.heap.objs.size+4,c.heap.objs.size+2,c.heap.objs.size+3,c.heap.objs.size,c.heap.objs.size+1],_,_,C,rfl,I2,Ut _ _ _ _ _ y x (zipApart_new a1 a2),⟨z,O,⟨_,_,N⟩,o,n⟩,λb A=>?_,q⟩
 have g:c.heap.objs.size<=b:=by
  simp only[bU,b4,or_false]at A;rcases A with rfl|rfl|rfl|rfl|rfl
  ·exact eS _ _
  ·exact eS _ _
  ·exact eS _ _
  ·exact bE _
  ·exact eS _ _
 exact i.rz g (i.bz.fresh g)
section
variable {c bx:List Str}{is:List Nat}{h:Scope}{i:List (Str×Addr)}{n:List Expr}{tk:Nat}{o:Pos}{q:Expr}{r:List Expr}{s:FE}{g:FG}{u:FB}
theorem Gm(F:X.mg "zip"=none)(I:X.calm=true)(k:nB X c bx is h i)(K:QE X a f)(J:QE X b j)(D:kv c.length g)(G:∀C t w v,QG (iE X (c++bx) h i C t w v) (.Tuple n tk o) g)(A:∀C t w v,tf (iE X (c++bx) h i C t w v) r u)
 (H:∀C t w v,QE (iE X (c++bx) h i C t w v) q s)(L:Gl X "zip":=by rfl)(B:∀x,foldedSetIterable (.Call (.Name "zip" p) [a,b] [] d) X.env x=pure x:=by intro _;rfl)
 (z:starEach [a,b] X.env=[(false,eval a X.env),(false,eval b X.env)]:=by rfl)(y:starEach [b] X.env=[(false,eval b X.env)]:=by rfl):
 QN X (.ListComp q [⟨.Tuple n tk o,.Call (.Name "zip" p) [a,b] [] d,r,0⟩] h pos) (oY f j c.length is g u s):=
 (uB I k (IR L F (eY K (eY J fG (by rw[y];rfl)) (by rw[z,y])) z y) G A H B).imp λ_ _ _=>Ke D
end
variable{c:String}
def CM(K:aL)(H:Hp)(x:V)(c:String)(b:Bool):Prop:=match x with
 | .aH=>cT K (.type "NoneType") (.type c)=some b
 | .bl _=>cT K (.type "bool") (.type c)=some b
 | .int _=>cT K (.type "int") (.type c)=some b
 | .str _=>cT K (.type "str") (.type c)=some b
 | .ref a=>((∃xs,di K H a xs)/\cT K (.type "list") (.type c)=some b)\/((∃xs,je K H a xs)/\cT K (.type "tuple") (.type c)=some b)
 |_=>False
theorem Tb:oT X (.builtin "isinstance") (λxs H Q=>∃x c b,xs=[x,.ty c]/\CM X.K H x c b/\Q (.bl b) H):=by
 intro C s A H xs D Q I r h;obtain⟨x,c,b,rfl,g,q⟩:=h;obtain⟨u,F,rfl,k,B⟩:=r.two;cases B;have fin:∀tk,EP X C A Q (.bool b) {s with toks:=tk}:=λtk=>⟨.bl b,H,I.tok tk,rfl,q⟩
 cases x with
 |aH=>cases k;exact eE PySem.W.kitx_none I.jk True.intro g (λz=>nomatch z) fin
 |bl y=>cases k;exact eE PySem.W.kitx_bool I.jk True.intro g (λz=>nomatch z) fin
 |int i=>obtain⟨t,q⟩:=k;cases q;exact eE PySem.W.kitx_int I.jk True.intro g (λz=>nomatch z) fin
 |str y=>obtain⟨t,q⟩:=k;cases q;exact eE PySem.W.kitx_str I.jk True.intro g (λz=>nomatch z) fin
 |ref a=>
  cases k;rcases g with⟨⟨xs,w⟩,g⟩| ⟨⟨xs,w⟩,g⟩
  ·obtain⟨v,_,⟨o,n,e,c,_⟩,_⟩:=I.list w
   exact eE PySem.W.kitx_list I.jk ⟨o,e,c⟩ g (λz=>nomatch z) fin
  ·obtain⟨v,_,⟨o,e,c,_⟩,_⟩:=I.tuple w
   exact eE PySem.W.kitx_tuple I.jk ⟨o,e,c⟩ g (λz=>nomatch z) fin
 |_=>exact False.elim g
def Cq(c:String):Prop:=∀(K:aL),cT K (.type "NoneType") (.type c)=some (c=="NoneType")/\cT K (.type "bool") (.type c)=some (c=="bool"||c=="int")/\cT K (.type "int") (.type c)=some (c=="int")/\
 cT K (.type "str") (.type c)=some (c=="str")/\cT K (.type "list") (.type c)=some (c=="list")/\cT K (.type "tuple") (.type c)=some (c=="tuple")
theorem Rp:Cq "int":=λK=>⟨rfl,rfl,rfl,rfl,rfl,rfl⟩
theorem Tx:Cq "bool":=λK=>⟨rfl,rfl,rfl,rfl,rfl,rfl⟩
theorem To:Cq "list":=λK=>⟨rfl,rfl,rfl,rfl,rfl,rfl⟩
theorem Nu{K:aL}{v:L2.St}{H:Hp}{Q:VK}(G:Cq c)(h:bu K (vQ c f) v H Q):bu K f v H λx o=>∃b,CM K o x c b/\Q (.bl b) o:=by
 obtain⟨O,N,M,L,J,I⟩:=G K
 refine jT (EK h) λx o q=>?_
 obtain⟨D,w,Z,A,P,C,t,S,R,r,e,k⟩:=q;obtain⟨_,_,z,g,r⟩:=r.cons_inv;cases z;obtain⟨b,n,e⟩:=eZ e;cases e
 refine⟨b,?_,k _ o A R .bl .refl⟩
 cases D with
 |aH=>rw[g.jv];exact O.trans n
 |bl y=>rw[g.ec];exact N.trans n
 |int i=>rw[g.int_inv];exact M.trans n
 |str y=>
  unfold RT at g;rw[g];exact L.trans n
 |exc y=>cases n
 |lst B=>
  obtain⟨a,vs,u,s,F⟩:=R.li g rfl;rw[u];exact .inl ⟨⟨vs,s⟩,J.trans n⟩
 |tup B=>
  unfold RT at g;obtain⟨a,vs,u,s,F⟩:=g;rw[u];exact .inr ⟨⟨vs,je.tw (.of s)⟩,I.trans n⟩
 |cell c=>cases n
theorem Fx{x:Str}(v:Cq c)(s:X.mg "isinstance"=none)(n:X.mg x=none)(o:bootBuiltins x=some (.type c))(w:QE X a f)(t:Gl X "isinstance":=by rfl)(k:Gl X x:=by rfl)(r:x≠"__name__":=by decide)(u:(x==("__debug__":Str))=false:=by decide)
 (g:starEach [a,.Name x d] X.env=(false,eval a X.env)::starEach [.Name x d] X.env:=by rfl)(i:(backTo pos (starEach [.Name x d] X.env)).any (·.1)=false:=by rfl):
 QE X (.Call (.Name "isinstance" p) [a,.Name x d] [] pos) (vQ c f):=
 (GV Tb t s boot_isinstance (xV w (xV (Rh (v:=.ty c) k n o rfl r u) FP rfl) g) (by decide) (by decide) g i).imp λy H Q h=>jT (Nu v h) λx z q=>by
  obtain⟨b,g,i⟩:=q
  exact⟨x,c,b,rfl,g,i⟩
theorem UV(i:X.mg "isinstance"=none)(h:X.mg "int"=none)(n:QE X a f)(k:Gl X "isinstance":=by rfl)(g:Gl X "int":=by rfl)(q:starEach [a,.Name "int" d] X.env=(false,eval a X.env)::starEach [.Name "int" d] X.env:=by rfl)(o:(backTo pos (starEach [.Name "int" d] X.env)).any (·.1)=false:=by rfl):
 QE X (.Call (.Name "isinstance" p) [a,.Name "int" d] [] pos) (vQ "int" f):=Fx Rp i h boot_int n k g (by decide) (by decide) q o
theorem VA(i:X.mg "isinstance"=none)(h:X.mg "bool"=none)(n:QE X a f)(k:Gl X "isinstance":=by rfl)(g:Gl X "bool":=by rfl)(q:starEach [a,.Name "bool" d] X.env=(false,eval a X.env)::starEach [.Name "bool" d] X.env:=by rfl)(o:(backTo pos (starEach [.Name "bool" d] X.env)).any (·.1)=false:=by rfl):
 QE X (.Call (.Name "isinstance" p) [a,.Name "bool" d] [] pos) (vQ "bool" f):=Fx Tx i h boot_bool n k g (by decide) (by decide) q o
theorem Ms(i:X.mg "isinstance"=none)(h:X.mg "list"=none)(n:QE X a f)(k:Gl X "isinstance":=by rfl)(g:Gl X "list":=by rfl)(q:starEach [a,.Name "list" d] X.env=(false,eval a X.env)::starEach [.Name "list" d] X.env:=by rfl)(o:(backTo pos (starEach [.Name "list" d] X.env)).any (·.1)=false:=by rfl):
 QE X (.Call (.Name "isinstance" p) [a,.Name "list" d] [] pos) (vQ "list" f):=Fx To i h boot_list n k g (by decide) (by decide) q o
end
end TL
namespace TL
open PySem PySem.W PySem.Calls PyProof.Rows L2
theorem B5{n:Int}(h:(WData.int n).layable=true):Builtin.Int.intBits n<=2^20:=by
 obtain⟨_,_,a⟩:=layableW_iff.mp h;unfold WData.weight at a;unfold Builtin.Int.intBits
 exact a
theorem Wc{a:List Int}(h:WData.layableAll [WData.list (a.map WData.int)]=true):∀n∈a,Builtin.Int.intBits n<=2^20:=λn b=>
 B5 (layableW_item (layableW_arg h _ bC) _ (jF ⟨n,b,rfl⟩))
theorem Vb{l:aTb}{k:Nat}{q:Program}{j:List Str}{XP:(Str->Option Value)->Heap->Prop}{YP:World->Heap->Prop}{d:DefRec}{K:Params->aL}{x:Str}{R:List T->Option T}
 (E:l.most=some 63)(t:d.params.defaults=[])(X:cm k callerA)
 (hY:∀(w:World)(h:Heap),YP w h->(K w.params).In h)
 (hR:∀i:List Int,i.length<=63->(∀n∈i,Builtin.Int.intBits n<=2^20)->R [.lst (i.map T.int)]=some (.bl true))
 (F:∀(w:World)(m:Str->Option Value)(p:Addr)(h:Heap),(K w.params).In h->h.Ns mainGlobals m->m d.name=some (.ref p)->
  ∃y:FuncData,(∀(s:Shared)(u:Value),BindsTo s y ⟨[u],[]⟩ [(x,u)])/\
   ∀g:Heap,(K w.params).In g->g.Ns mainGlobals m->oW l.prog w (K w.params) m g kb k p y [x] (spT (K w.params) 1 R)):
 PySem.W.WalkO q j XP YP l.row.toRowW d [] (λf vs=>PySem.call f vs):=by
 intro w I aj m mb G Y p o pm cd doc dV kV ho hd jh N P hg args B as J C Q L hlo;obtain rfl:dV=.none:=Dflts.none N t;obtain rfl:kV=.none:=Dflts.noKw N;obtain⟨a,vs,i,rfl,rfl,D,c,A⟩:=Hd.T7 E J L;have O:=hY w _ Y;obtain⟨y,hb,hF⟩:=F w m p _ O G.T.g P;have U:∀H:Hp,AF H->di (K w.params) H a (i.map V.int)->spT (K w.params) 1 R [.ref a] H (λv _=>v=.bl true) λ_ _ _=>False:=λH _ M=>by
  refine⟨λ_=>False,[.lst (i.map T.int)],.bl true,rfl,λ_ z=>z.elim,.cons ?_ .nil,hR i A (Wc C),λv H' _ r=>r.ec⟩
  unfold RT;have sm:cb H (mask H (λ_=>False) []):=λb o e=>nQ (λz=>z) (by simp) e
  refine⟨a,_,rfl,sm.seq M,?_⟩
  clear M D c A C J Q L;induction i with
  |nil=>exact .nil
  |cons n i ih=>exact .cons .int ih
 refine enter_call (codeAny_mono (SZ O G.T.g G.T.b G.T.builtins G.T.nolimit hg D c (bV A (by decide)) X hF hb U (λH e S z=>z)) λr S Z=>?_)
 obtain⟨rfl,h2,h3,h4⟩:=Z
 exact⟨.inl ⟨.bool true,.bool true,[],rfl,λ_=>rfl,.bool true,Hd.UA l _,λ_=>⟨List.Pairwise.nil,λ_ hm=>(nomatch hm)⟩⟩,h2,h3,h4⟩
end TL
namespace TL
open PySem PySem.Spec PyProof.Rows L2
theorem Vg(a d:Value):argsOk "max" ⟨[a],[("default",d)]⟩:=by unfold argsOk;kernel_rfl
noncomputable abbrev F1(a:Array Value)(c:Nat):Obj:={cls:=.type "list",dict:=none,data:=.seq a c,slots:=#[]}
section
variable {P:Program}{w:World}{A:Around}{R:Result->Shared->Prop}{a bs:Addr}{i f:List Addr}{n:Nat}{h:Nat->Value->Prop}{St:Nat->Heap->Prop}{l:List (Str×Value)}{bt:Nat->Nat->Bool}
variable{s:Shared}{c:Nat}
theorem DN:(toString "max"++toString ".loop":String)="max.loop":=by decide
theorem UY(W:Walks P w A.in1 a i f n h St)(I:CmpOf P w A.in1 .Gt h bt)(F:bs∉i):∀(k j:Nat)(s:Shared)(vb:Value)(c:Nat),n - (j+1)=k->j+1<=n->St (j+1) s.heap->h (argBest bt j) vb->s.heap.get? bs=some (F1 #[vb,vb] c)->
 (∀v g tk,h (argBest bt (n - 1)) v->(∀b o,b∉f->b≠bs->s.heap.get? b=some o->g.get? b=some o)->R (.ok (.ret v)) {s with heap:=g,toks:=tk})->codeAny (model P w) A (.builtin "max.loop" ⟨[.ref a,.none,.ref bs],l⟩) R s:=by
 have D:bs∉f:=λq=>F (W.sub _ q)
 intro k;induction k with
 |zero=>
  intro j s vb c J K st t r fin;have en:j+1=n:=by lia
  refine codeAny_builtin PySem.F.entry_max_loop (by
   rw[Around.under_plainId PySem.F.plain_max_loop _];show wpAny _ A.in1 (seqItems? (.ref bs)>>=_) _ _ s
   refine wpAny_bind (wpAny_seqItems r rfl ?_)
   show wpAny _ A.in1 (tryCatch (pyNext (.ref a)) _>>=_) _ _ s
   refine wpAny_bind (wpAny_tryCatch (W.done s _ _ (en ▸ st) λg tk kp=>?_))
   have p:=kp bs _ D r;show wpAny _ A.in1 (updateSeq bs (λ_=>#[])>>=_) _ _ _
   exact wpAny_bind (wpAny_updateSeq p rfl (wpAny_bind (wpAny_letGo (wpAny_pure (fin vb _ tk (by rw[<-en];exact t) λb o d m e=>(Heap.get?_update_other _ _ (Ne.symm m)).trans (kp b o d e)))))))
 |succ k ih=>
  intro j s vb c J K st t r fin;have lt:j+1<n:=by lia
  refine codeAny_builtin PySem.F.entry_max_loop (by
   rw[Around.under_plainId PySem.F.plain_max_loop _];show wpAny _ A.in1 (seqItems? (.ref bs)>>=_) _ _ s
   refine wpAny_bind (wpAny_seqItems r rfl ?_)
   show wpAny _ A.in1 (tryCatch (pyNext (.ref a)) _>>=_) _ _ s
   refine wpAny_bind (wpAny_tryCatch (W.item (j+1) s _ _ lt st λv g tk pv H kp=>?_))
   have p:=kp bs _ D r;show wpAny _ A.in1 (tryCatch (holding [v,v] (richCompare .Gt v vb>>=_)) _>>=_) _ _ _
   refine wpAny_bind (wpAny_tryCatch (wpAny_holding (wpAny_bind (I (j+1) (argBest bt j) v vb _ _ _ pv t (wpAny_bind (wpAny_holding (wpAny_truthy_bool (wpAny_bind (wpAny_letGo (wpAny_pure ?_))))))))))
   cases G:bt (j+1) (argBest bt j)with
   |true=>
    simp only[if_true]
    refine wpAny_bind (wpAny_updateSeq p rfl (wpAny_bind (wpAny_letGo ?_)))
    rw[DN]
    refine wpAny_pure ⟨plainId_quiet PySem.F.plain_max_loop _,ih (j+1) _ v _ (by lia) lt (W.frame _ _ _ H λb z o e=>?_) (by simp only[argBest,G,if_true];exact pv) (Heap.get?_update_self _ p rfl) λu C y B x=>?_⟩
    ·exact(Heap.get?_update_other _ _ (λq:bs=b=>F (by rw[q];exact z))).trans e
    ·exact fin u C y B λb o d m e=>x b o d m ((Heap.get?_update_other _ _ (Ne.symm m)).trans (kp b o d e))
   |false=>
    simp only[bZ,if_false]
    refine wpAny_bind (wpAny_letGo ?_)
    rw[DN]
    refine wpAny_pure ⟨plainId_quiet PySem.F.plain_max_loop _,ih (j+1) _ vb c (by lia) lt H (by simp only[argBest,G,bZ,if_false];exact t) p λu C y B x=>?_⟩
    exact fin u C y B λb o d m e=>x b o d m (kp b o d e))
theorem Vr(W:Walks P w A.in1 a i f n h St)(y:CmpOf P w A.in1 .Gt h bt)(d:bs∉i)(p:0<n)(st:St 0 s.heap)(r:s.heap.get? bs=some (F1 #[] c))
 (fin:∀v g tk,h (argBest bt (n - 1)) v->(∀b o,b∉f->b≠bs->s.heap.get? b=some o->g.get? b=some o)->R (.ok (.ret v)) {s with heap:=g,toks:=tk}):codeAny (model P w) A (.builtin "max.loop" ⟨[.ref a,.none,.ref bs],l⟩) R s:=by
 have B:bs∉f:=λq=>d (W.sub _ q)
 refine codeAny_builtin PySem.F.entry_max_loop (by
  rw[Around.under_plainId PySem.F.plain_max_loop _];show wpAny _ A.in1 (seqItems? (.ref bs)>>=_) _ _ s
  refine wpAny_bind (wpAny_seqItems r rfl ?_)
  show wpAny _ A.in1 (tryCatch (pyNext (.ref a)) _>>=_) _ _ s
  refine wpAny_bind (wpAny_tryCatch (W.item 0 s _ _ p st λv g tk pv F kp=>?_))
  have m:=kp bs _ B r;show wpAny _ A.in1 (updateSeq bs (λ_=>#[v,v])>>=_) _ _ _
  refine wpAny_bind (wpAny_updateSeq m rfl ?_)
  rw[DN]
  refine wpAny_pure ⟨plainId_quiet PySem.F.plain_max_loop _,UY W y d _ 0 _ v _ rfl p (W.frame _ _ _ F λb z o e=>?_) pv (Heap.get?_update_self _ m rfl) λt D x C u=>?_⟩
  ·exact(Heap.get?_update_other _ _ (λq:bs=b=>d (by rw[q];exact z))).trans e
  ·exact fin t D x C λb o k j e=>u b o k j ((Heap.get?_update_other _ _ (Ne.symm j)).trans (kp b o k e)))
theorem U9{d:Value}{k:Str}(W:Walks P w A.in1 a i f 0 h St)(p:bs∉i)(st:St 0 s.heap)(m:s.heap.get? bs=some (F1 #[] c))
 (fin:∀g tk,(∀b o,b∉f->b≠bs->s.heap.get? b=some o->g.get? b=some o)->R (.ok (.ret d)) {s with heap:=g,toks:=tk}):codeAny (model P w) A (.builtin "max.loop" ⟨[.ref a,.none,.ref bs],[(k,d)]⟩) R s:=by
 refine codeAny_builtin PySem.F.entry_max_loop (by
  rw[Around.under_plainId PySem.F.plain_max_loop _];show wpAny _ A.in1 (seqItems? (.ref bs)>>=_) _ _ s
  refine wpAny_bind (wpAny_seqItems m rfl ?_)
  show wpAny _ A.in1 (tryCatch (pyNext (.ref a)) _>>=_) _ _ s
  refine wpAny_bind (wpAny_tryCatch (W.done s _ _ st λg tk kp=>?_))
  exact wpAny_bind (wpAny_rule (wpAny_pure (fin g tk λb o j _ e=>kp b o j e))))
end
section
variable {X:Cx}{a:List (Addr×Obj)}{c:L2.St}{H:Hp}{s:Shared}{Q:VK}
theorem Vf{p:Addr}{h:List Int}{d:Int}{t:Tok}(K:X.calm=true)(I:Inv X a c H s)(G:di X.K H p (h.map V.int))(q:Q (.int (kS d h)) H):
 wpAny (model X.prog X.w) X.A (call (.builtin "max") [.ref p] [("default",.int d t)]) (EP X a c Q) X.xe s:=by
 obtain⟨r,A,B,Z⟩:=I.list G;have y:=oV A;obtain⟨f,x⟩:=y.allInts.items;have S:s.heap.IsList p (intItems f):=x ▸ B.isList;have n:h=f.toList.map (·.1):=by
  rw[<-nums_intItems,<-x]
  exact(show numsOf r.toArray.toList=h from y.numsOf).symm
 refine kmk_tree PySem.F.kind_max PySem.F.plain_max PySem.F.entry_max (Vg _ _) ?_
 show wpAny _ X.A.in1 (Builtin.Builtins.bindParams "max" ["key","default"] 0 ⟨[],[("default",.int d t)]⟩>>=_) _ _ s
 refine wpAny_bind (wpAny_of_eq (show Builtin.Builtins.bindParams "max" ["key","default"] 0 ⟨[],[("default",.int d t)]⟩=pure [none,some (.int d t)]from rfl) (wpAny_bind (wpAny_pure ?_)))
 refine wpAny_bind (iter_intList S λY R st N C=>?_)
 subst R;have W:=Walks.list (prog:=X.prog) (w:=X.w) (A:=X.A.in1) (I.ok.hd K) s.heap.objs.size p C (intItems f);have w:(s.heap.push {cls:=.type "list_iterator",data:=.fields #[.ref p,.int 0 0]}).objs.size∉[s.heap.objs.size,p]:=λz=>cR _ (N _ z)
 refine wpAny_bind (wpAny_newObj_type ?_)
 rw[DN]
 refine wpAny_pure ⟨plainId_quiet PySem.F.plain_max_loop _,?_⟩
 by_cases l:h=[]
 ·have k:(intItems f).size=0:=by
   have m:h.length=0:=by rw[l];rfl
   rw[n,aN,bX]at m;simpa[intItems]using m
  rw[k]at W
  refine U9 W w (W.frame _ _ _ st λb _ o e=>Heap.get?_push_of_some _ e) (Heap.get?_push_size _ rfl) λg tk kp=>?_
  refine⟨.int d,H,I.kept λb o e=>kp b o (λz=>?_) (bS (aSP (Heap.lt_size e) (by rw[Heap.size_push];exact dZ _))) (Heap.get?_push_of_some _ (Heap.get?_push_of_some _ e)),⟨_,rfl⟩,?_⟩
  ·exact cR _ (gJ z ▸ Heap.lt_size e)
  ·have:kS d h=d:=by unfold kS;rw[l];rfl
   rw[this]at q;exact q
 ·have k:0<f.size:=by
   have m:0<h.length:=jG l;rw[n,aN,bX]at m;exact m
  refine Vr W (bt:=λi j=>decide (numAt f i>numAt f j)) (CmpOf.ints_gt (numAt f) (λ_ _=>intItems_at)) w (by simpa[intItems]using k) (W.frame _ _ _ st λb _ o e=>Heap.get?_push_of_some _ e) (Heap.get?_push_size _ rfl) λv g tk pv kp=>?_
  have D:(intItems f)[argBest (λi j=>decide (numAt f i>numAt f j)) (f.size - 1)]?=some v:=by simpa[intItems]using pv
  obtain⟨U,rfl⟩:=intItems_at D;obtain⟨E,L⟩:=argBest_gt (numAt f) (f.size - 1);obtain⟨u,F⟩:=LO l;have P:numAt f (argBest (λi j=>decide (numAt f i>numAt f j)) (f.size - 1))=uH h:=by
   apply aRG
   ·refine F _ ?_
    generalize argBest (λi j=>decide (numAt f i>numAt f j)) (f.size - 1)=j at*;rw[n,numAt_eq];exact getD_mem (by rw[aN,bX];lia)
   ·generalize uH h=M at*;rw[n]at u;obtain⟨j,J,O⟩:=mem_getD u;rw[aN,bX]at J;rw[<-O,<-numAt_eq];exact L j (by lia)
  refine⟨.int (uH h),H,I.kept λb o e=>kp b o (λz=>?_) (bS (aSP (Heap.lt_size e) (by rw[Heap.size_push];exact dZ _))) (Heap.get?_push_of_some _ (Heap.get?_push_of_some _ e)),⟨_,by rw[P]⟩,?_⟩
  ·exact cR _ (gJ z ▸ Heap.lt_size e)
  ·have:kS d h=uH h:=by
    unfold kS;rw[if_neg (by simpa using l)]
   rw[this]at q;exact q
end
def DA(K:aL):R2:=λx y H Q=>∃p a d,x=.ref p/\y=.int d/\di K H p (a.map V.int)/\Q (.int (kS d a)) H
theorem PY{K:aL}{f:L2.St}{H:Hp}{Q:VK}{x y:V}(h:∃c b,h9 K f [c,b] [x,y] (aEl c b) H Q):DA K x y H Q:=by
 obtain⟨c,b,d,Z,g,s,C,t,v,R,r,e,k⟩:=h;obtain⟨_,_,z,l,r⟩:=r.cons_inv;cases z;obtain⟨_,_,z,j,r⟩:=r.cons_inv;cases z;unfold aEl at e;split at e
 ·obtain⟨u,q,e⟩:=eV e;obtain⟨n,p,e⟩:=eZ e;cases e;obtain⟨a,vs,o,m,i⟩:=R.li l q;have:=v5 i p;subst this
  exact⟨a,n,_,o,j.int_inv,m,k _ H g R .int .refl⟩
 ·cases e
section
variable {X:Cx}{p pos kp:Pos}{e de:Expr}{c a:TE}{f g:FE}
theorem RM(C:X.mg "max"=none)(G:X.calm=true)(K:PE X e c)(J:PE X de a)(D:Gl X "max":=by rfl)
 (F:backTo pos (starEach [e] X.env)=(false,eval e X.env)::backTo pos (starEach [] X.env):=by rfl)(L:(backTo pos (starEach [e] X.env)).any (·.1)=false:=by rfl)
 (v:starEach [e] X.env=(false,eval e X.env)::starEach [] X.env:=by rfl):
 PE X (.Call (.Name "max" p) [e] [⟨some "default",de,kp⟩] pos) (zm (DA X.K) c a):=by
 intro o s k H Q I h
 refine wpAny_Call_Name_kw (rN I D C boot_max ?_ (by decide) (by decide))
 refine aTk (aG ((xV K FP v) pos o s k H (λvs n=>match vs with
  | [x]=>a k n λy j=>DA X.K x y j Q
  |_=>False) I h) λP w ⟨vs,n,N,m,i⟩=>?_) F L rfl rfl
 match vs,m,i with
 | [x],m,i=>
   obtain⟨u,rfl,z⟩:=vals1 m
   refine aG ((Qu J Pw) pos o w k n (λvs j=>match vs with
    | [y]=>DA X.K x y j Q
    |_=>False) N i) λO S ⟨r,j,M,l,b⟩=>?_
   match r,l,b with
   | [y],l,b=>
     obtain⟨R,rfl,A⟩:=vals1 l;obtain⟨p,U,d,rfl,rfl,B,q⟩:=b;cases z;obtain⟨t,rfl⟩:=A
     exact Vf G M B q
   | [],_,b=>exact b.elim
   |_::_::_,_,b=>exact b.elim
 | [],_,i=>exact i.elim
 |_::_::_,_,i=>exact i.elim
theorem Jm(d:X.mg "max"=none)(j:X.calm=true)(l:QE X e f)(k:QE X de g)(h:Gl X "max":=by rfl)
 (i:backTo pos (starEach [e] X.env)=(false,eval e X.env)::backTo pos (starEach [] X.env):=by rfl)(m:(backTo pos (starEach [e] X.env)).any (·.1)=false:=by rfl)
 (b:starEach [e] X.env=(false,eval e X.env)::starEach [] X.env:=by rfl):
 QE X (.Call (.Name "max" p) [e] [⟨some "default",de,kp⟩] pos) (FA f g):=(RM d j l k h i m b).imp λ_ _ _=>yI (λ_ _ _ _ _=>PY)
end
section
variable {P:Program}{w:World}{A:Around}{E:Value->Shared->Prop}{s:Shared}{z TI TO c d f g:Addr}{h i:Nat}{xs j:Array Value}{x y a b l f1:Value}
end
section
variable {X:Cx}{a b e:Expr}{c d:FE}{pos p f:Pos}
variable {h bx:List Str}{is:List Nat}{i:Scope}{j:List (Str×Addr)}{x:Str}{l:Pos}{m:Expr}{n:List Expr}{o:FE}{g:FG}{q:FB}
end
section
variable {X:Cx}{a e:Expr}{c:TE}{d:FE}{pos f g h:Pos}
end
section
variable {X:Cx}{a b:Expr}{c d:FE}
end
section
variable {X:Cx}{a e c:Expr}{d:FE}{pos p f:Pos}{h:List Stmt}{F:FS}{g:FG}
end
section
variable {X:Cx}{st:Stmt}{a:List Stmt}{F G:FS}
end
end TL
namespace TL
open PySem L2
abbrev XF:=aD->ab->Option (String×ab)
noncomputable def fX(x:XF)(F:FS):FS:=λa C=>match x a C with
 |some (c,b)=>some (.ex c,a,b)
 |none=>F a C
noncomputable def se(c:String)(b:FN):FS:=λa C=>(b a C).bind λp=>if p.1.length<=10 then some (.ex c,a,p.2)else none
def gX(n:Nat)(G:List T->Option String)(a:List T)(C:ab):Option String:=if a.length=n then(if ei a=true then G a else(cg (dr 3 C) a).bind G)else none
def vy(n:Nat)(G:List T->Option String)(b:FN):XF:=λa C=>(b a C).bind λp=>(gX n G p.1 p.2).map λc=>(c,p.2)
def E0(B:FS)(m:Nat)(a:List T):Option String:=match B (gp m a) []with
 |some (.ex c,_,_)=>some c
 |_=>none
def D6(b:FE)(x:XF):XF:=λa C=>(b a C).bind λp=>match p.1 with
 | .cell c=>(lc p.2 c).bind λ_=>x a p.2
 |_=>none
section
variable {K:aL}{a:L2.St}{H:Hp}{Q:VK}
end
end TL
namespace TL
open PySem PySem.Spec PyProof.Rows L2
section
variable {K:aL}{W:XW}{a:L2.St}{H:Hp}{x:XF}
end
section
variable {X:Cx}{c:List (Addr×Obj)}{d:L2.St}{H:Hp}{s:Shared}{k:Nat}{f:Addr}{g:FuncData}{h:List Str}{i:Sp}{e a b:Expr}{j:List Expr}{pos p:Pos}{x:XF}{l m:FE}{n:FN}{st:Stmt}{F:FS}
end
section
variable {X:Cx}{a:List (Addr×Obj)}{d:L2.St}{H:Hp}{s:Shared}{c:String}{C:Addr}{f:Expr}{rest:List Expr}{g h pos:Pos}{i:FN}
end
section
variable {P:Program}{w:World}{K:aL}{a:Str->Option Value}{c:Heap}
end
end TL
namespace PySem
end PySem
namespace TL
open PySem PySem.Spec PyProof.Rows L2
section
variable {X:Cx}{d:List (Addr×Obj)}{σ:L2.St}{H f:Hp}{s s':Shared}{c:String}{C a:Addr}{B:Heap}
abbrev Cx.at(X:Cx)(A:Around)(b:Bool)(pn:List (Addr×Obj))(g:Value->Shared->Prop):Cx:={X with A:=A,calm:=b,pn:=pn,xe:=g}
end
section
variable {X:Cx}{a:String->List String}{rs c:List String}{d:String}{i:Nat}{n:Str}{F G:FS}{body f:List Stmt}{g:Stmt}{h j pos:Pos}
end
end TL
namespace PySem.W
open PySem PySem.Spec PySem.Calls PyProof.Rows Builtin Builtin.ObjectAttr Builtin.Getset_descriptor
section
variable {a:Program}{w:World}{A:Around}{E:Value->Shared->Prop}{s:Shared}{K:Frag}{x C D:Addr}{name:Str}{R:Result->Shared->Prop}
end
section
variable {a:Program}{w:World}{A:Around}{E:Value->Shared->Prop}{K:Frag}{x C:Addr}{R:Result->Shared->Prop}{h:Heap}{g:Array GenState}{d:Drawn}{t:Nat}{os:OsState}
end
end PySem.W
namespace TL
open PySem PySem.Spec PyProof.Rows L2
section
variable {X:Cx}
variable {c:String->List String}{rs f:List String}{a:Expr}{g:FE}{p pos h i:Pos}{d:String}{j:List String}{l:List Expr}
end
section
variable {X:Cx}{a e:Expr}{c:List Expr}{d:FE}{x:XF}{pos:Pos}
end
section
variable {X:Cx}{e:Expr}{a:List Expr}{c:FN}{p pos:Pos}
end
section
variable {X:Cx}{a b e de:Expr}{c d:FE}{x:XF}{p pos kp:Pos}
end
end TL
namespace TL
open PySem L2
def A5(f g h:FE):FS:=λa C=>(f a C).bind λq=>(g a q.2).bind λr=>match q.1,r.1 with
 | .cell c,.int i=>(lc r.2 c).bind λts=>(dh ts i).bind λb=>match b with
   | .int x=>(h a r.2).bind λp=>match p.1 with
     | .int y=>(lc p.2 c).bind λd=>(jm d.length i).map λj=>(.nx,a,p.2.set c (.l,d.set j (.int (x+y))))
     |_=>none
   |_=>none
 |_,_=>none
abbrev Cs(a b:FE):FE:=j3 a b (qc (λ_ j=>decide (0<j/\j<2^250)) λi j=>.int (i/j))
def u4(b:FN):FE:=o4 b λa C=>if a.length<=lim then some (.tup a,C)else none
section
variable {K:aL}{W:XW}{c:St}{H:Hp}
theorem OV{r s t:FE}{D:Ends}(h:eH K W (A5 r s t) D c H):w5 (bu K r) (bu K s) (bu K t) (Dm K) (Ho λi j=>i+j) Fi D c H:=by
 obtain⟨b,Z,G,d,C,fl,ah,C',R,e,k⟩:=h;unfold A5 at e;obtain⟨⟨M,F⟩,e1,e⟩:=eV e;obtain⟨⟨L,B⟩,e2,e⟩:=eV e
 refine⟨b,Z,G,d,C,M,F,R,e1,λy H1 af R1 Y N=>?_⟩
 refine⟨b,Z,af,d,F,L,B,R1,e2,λz H2 au R2 q n=>?_⟩
 dsimp only at e;split at e
 ·obtain⟨ts,e3,e⟩:=eV e;obtain⟨U,e4,e⟩:=eV e;split at e
  ·rename_i x;obtain⟨⟨t3,C3⟩,e5,e⟩:=eV e;dsimp only at e;split at e
   ·rename_i w;obtain⟨us,e6,e⟩:=eV e;obtain⟨j,e7,e⟩:=eZ e;cases e;have p:=Y.step n;obtain⟨a,vs,E,P,O⟩:=R2.li p (ts:=ts) e3;obtain⟨v,S,Q⟩:=IW O e4
    refine⟨a,vs,_,v,E,q.int_inv,P,S,?_⟩
    refine⟨b,Z,au,d,B,_,C3,R2,e5,λu H3 ba A X m=>?_⟩
    refine⟨x,w,Q.int_inv,X.int_inv,?_⟩
    have l:=p.step m;unfold RT at l;obtain⟨a',g,o⟩:=l;obtain⟨f,c2,c3⟩:=A.mx o (kJ e6);obtain⟨J,I⟩:=A.write o (by rw[c2];trivial) (c3.set (t:=.int (x+w)) (v:=.int (x+w)) .int j)
    exact⟨a',f,_,j,g,q.int_inv,c2,by rw[c3.length];exact e7,k c _ ba J (((N.trans n).trans m).ss.trans I)⟩
   ·cases e
  ·cases e
 ·cases e
theorem OB{f:FN}{Q:VK}(m:lim<=sizeLine)(h:bu K (u4 f) c H Q):Bo (ia K f) c H Q:=by
 obtain⟨a,Z,i,g,C,j,w,R,e,k⟩:=Cu h
 refine⟨a,Z,i,g,C,j,w,R,e,λvs v q u o l=>?_⟩
 obtain⟨x,y,A,s,z,D,t,B,d,r,e,k⟩:=k vs v q u o l;split at e
 ·rename_i n;cases e
  exact⟨by rw[r.length];exact bV n m,λp b=>k _ _ s (d.alloc b).1 (d.hL b r) (d.alloc b).2⟩
 ·cases e
end
end TL
namespace TL
open PySem PySem.Spec PyProof.Rows L2
section
variable {X:Cx}{a b c e:Expr}{g:List Expr}{d f l:FE}{m:FN}{p pos:Pos}
theorem Uo:CH X (Dm X.K):=by
 intro N s A H o i O P Q I C B h;obtain⟨p,xs,i,z,rfl,rfl,D,G,q⟩:=h;cases C;obtain⟨t,rfl⟩:=B;obtain⟨n,r,v,R⟩:=I.list D;obtain⟨j,k,L,U,K,J⟩:=yE G;obtain⟨w,y,M⟩:=r.get L;have F:=r.length;have S:=gi;have fin:EP X N A Q w s:=⟨z,H,I,M,q⟩;by_cases x:0<=i
 ·have u:i.toNat=j:=by
   rw[seqIndex_of x J]at k
   exact cE.inj k
  exact wpAny_getItem_list v.isList x (by lia) (by rw[u];simpa using y) fin
 ·have u:(i+(n.toArray.size:Int)).toNat=j:=by
   rw[seqIndex_neg (by lia) K]at k;rw[bB,<-F]
   exact cE.inj k
  exact wpAny_getItem_list_neg v.isList (by lia) (by rw[bB]<;>lia) (by lia) (by rw[u];simpa using y) fin
theorem Sq(n:QE X a d)(o:QE X b f)(k:QE X c l)
 (q:∀i j h,augStore b i j h=(do holding [h,i,j] (setItem i j h);release [h,i,j] [];pure .next):=by intros;rfl):QS X (.AugAssign (.Subscript a b p) .Add c pos) (A5 d f l):=
 (SD n o Uo k OZ KI q).imp λ_ _ _=>OV
theorem CD{k}(h:QA X g m):QE X (.Tuple g k pos) (u4 m):=(PN h).imp λ_ _ _=>OB m5
theorem qy{j:Int}(h:0<j/\j<2^250):j.natAbs.log2<9000:=by
 have k:j.natAbs≠0:=by lia
 have:j.natAbs<2^250:=by
  have i:=h.2;have:((j.natAbs:Nat):Int)<((2^250:Nat):Int):=by
   rw[aSy (by lia)];simpa using i
  exact aTs.mp this
 have:=(aTy k).mpr this
 lia
theorem UJ:g7 X (binaryOp .FloorDiv) (rI (λ_ j=>0<j/\j<2^250) λi j=>.int (i/j)):=BM λi j _ _ _ _ _ h q=>by
 have k:(0:Int)<j:=h.1
 exact floordiv_int (by lia) (by rw[aRX i (by lia)];exact q) (.inl (PyProof.noPylong_of_log2 (qy h)))
theorem Gp(n:QE X a d)(k:QE X b f):QE X (.BinOp a .FloorDiv b pos) (Cs d f):=(wN UJ n k).imp λ_ _ _=>yI λ_ _ _ _ _ h=>by
 obtain⟨i,j,t,s,r,q⟩:=Ca (g:=λi j=>.int (i/j)) (λ_ _ _ _=>.int) h;have o:0<j/\j<2^250:=of_decide_eq_true r
 exact⟨i,j,t,s,o,q⟩
end
end TL
namespace TL
open PySem L2
noncomputable def Aj(x:Int):List Int->List Int
 | []=>[x]
 |y::a=>if x<=y then x::y::a else y::Aj x a
def zp:List Int->List Int
 | []=>[]
 |x::xs=>Aj x (zp xs)
theorem wC{x:Int}:∀{a:List Int},(Aj x a).Perm (x::a)
 | []=>.refl _
 |y::a=>by
  unfold Aj;split
  ·exact .refl _
  ·exact(List.Perm.cons y wC).trans (List.Perm.swap x y a)
theorem yK:∀{xs:List Int},(zp xs).Perm xs
 | []=>.refl _
 |x::xs=>wC.trans (List.Perm.cons x yK)
theorem K2{x:Int}:∀{a:List Int},a.Pairwise (· <= ·)->(Aj x a).Pairwise (· <= ·)
 | [],_=>by simp[Aj]
 |y::a,h=>by
  unfold Aj;obtain⟨c,d⟩:=kF h;split
  ·rename_i b
   refine aRW.mpr ⟨λz hz=>?_,h⟩
   rcases fR hz with rfl|hz
   ·exact b
   ·exact cL b (c z hz)
  ·rename_i b
   refine aRW.mpr ⟨λz hz=>?_,K2 d⟩
   rcases fR (wC.mem_iff.mp hz)with rfl|hz
   ·lia
   ·exact c z hz
theorem Gj:∀{xs:List Int},(zp xs).Pairwise (· <= ·)
 | []=>.nil
 |x::xs=>K2 Gj
theorem LH:∀{xs a:List Int},xs.Perm a->xs.Pairwise (· <= ·)->a.Pairwise (· <= ·)->xs=a
 | [],a,h,_,_=>(List.nil_perm.mp h).symm
 |x::xs,[],h,_,_=>absurd (List.perm_nil.mp h) (by simp)
 |x::xs,y::a,h,c,b=>by
  obtain⟨i,g⟩:=kF c;obtain⟨f,d⟩:=kF b;have e:x=y:=by
   have k:x<=y:=by
    rcases fR (h.mem_iff.mpr (bC (a:=y) (l:=a)))with h|h
    ·lia
    ·exact i y h
   have j:y<=x:=by
    rcases fR (h.mem_iff.mp (bC (a:=x) (l:=xs)))with h|h
    ·lia
    ·exact f x h
   lia
  subst e;rw[LH (List.Perm.cons_inv h) g d]
def E4(c:List T)(C:ab):Option (List T):=match c with
 | [t]=>(du C t).bind λb=>(gg b).bind λa=>if a.length<64 then some ((zp a).map T.int)else none
 |_=>none
abbrev BZ(a:FN):FN:=rQ a E4
theorem K1{K:aL}{M:Hp}{b:cx}:∀{a:List Int},aw K M b (a.map T.int) (a.map V.int)
 | []=>.nil
 |n::a=>.cons .int K1
theorem Of{K:aL}{g:St}{H:Hp}{Q:VK}{xs:List V}(h:∃d,vz K g d xs (E4 d) H Q):∃p b,xs=[.ref p]/\di K H p (b.map V.int)/\b.length<64/\∀c:List Int,c.Perm b->c.Pairwise (· <= ·)->∀l,H l=none->Q (.ref l) (upd H l (.lst (c.map V.int))):=by
 obtain⟨d,f,Z,i,z,C,j,R,r,e,k⟩:=h;unfold E4 at e;split at e
 ·obtain⟨v,_,rfl,n,r⟩:=r.cons_inv;rw[r.nil_inv];obtain⟨j,y,e⟩:=eV e;obtain⟨b,x,e⟩:=eV e;split at e
  ·rename_i s;cases e;obtain⟨a,vs,w,o,m⟩:=R.li n y;have:=v5 m x;subst this
   refine⟨a,b,by rw[w],o,s,λc u t l q=>?_⟩
   rw[LH (u.trans yK.symm) t Gj]
   exact k l H i _ R q K1 .refl
  ·cases e
 ·cases e
end TL
namespace TL
open PySem PySem.Spec PyProof.Rows L2
section
variable {X:Cx}{e:Expr}{a:List Expr}{c:FN}{p pos:Pos}
theorem qA:∀{vs:List Value}{b:List Int},IntsAre vs b->aq (b.map V.int) vs
 |_,_,.nil=>.nil
 |_,_,.cons n t h=>.cons ⟨t,rfl⟩ (qA h)
theorem Wi:oT X (.builtin "sorted") (λxs H Q=>∃p f,xs=[.ref p]/\di X.K H p (f.map V.int)/\f.length<64/\∀d:List Int,d.Perm f->d.Pairwise (· <= ·)->∀l,H l=none->Q (.ref l) (upd H l (.lst (d.map V.int)))):=by
 intro F s B H xs C Q I r h;obtain⟨p,f,rfl,t,D,q⟩:=h;obtain⟨u,rfl,k⟩:=vals1 r;cases k;obtain⟨g,i,m,o⟩:=I.list t;have w:=oV i;have A:=i.length;simp only[aN]at A
 refine sorted_ints m.isList w (by lia) λout d y j x=>?_
 obtain⟨n,v⟩:=sortedAll_at s.heap g out;have z:d.length=f.length:=j.length_eq
 refine⟨.ref (s.heap.objs.size+1),_,I.laid (t':=s.toks) (λb u e=>sortedAll_old e) (aSw _) (show kW X.prog X.w _ _ _ (.lst (d.map V.int))from⟨by rw[aN,z];have:=o;simp only[aN]at this;exact this,out.toList,n,qA y,?_⟩),rfl,q d j x _ (I.bz.fresh (aSw _))⟩
 rw[Array.toArray_toList]
 exact v
theorem S8(b:X.mg "sorted"=none)(g:QA X (e::a) c)(d:Gl X "sorted":=by rfl)(f:starEach (e::a) X.env=(false,eval e X.env)::starEach a X.env:=by rfl)(h:(backTo pos (starEach a X.env)).any (·.1)=false:=by rfl):
 QN X (.Call (.Name "sorted" p) (e::a) [] pos) (BZ c):=(GV Wi d b boot_sorted g (by decide) (by decide) f h).imp λ_ _ _=>HR λ_ _ _ _=>Of
end
end TL
namespace TL
open PySem L2
end TL
namespace TL
open PySem PySem.Spec PyProof.Rows L2
section
variable {X:Cx}{a b:Expr}{c d:FE}{p pos:Pos}
end
end TL
namespace TL
open PySem L2
end TL
namespace TL
open PySem PySem.Spec PyProof.Rows L2
section
variable {K:aL}{a:L2.St}{H:Hp}
end
section
variable {X:Cx}{a b e:Expr}{c:List Expr}{d f:FE}{g:FN}{p pos:Pos}
end
section
variable {X:Cx}{a c:List Str}{is:List Nat}{d:Scope}{f:List (Str×Addr)}{x:Str}
end
section
variable {X:Cx}{p a pos:Pos}{c bx:List Str}{is:List Nat}{d:Scope}{f:List (Str×Addr)}{h iter i:Expr}{j:List Expr}{l m:FE}{g:FG}{n:FB}{o:Str}
end
end TL
namespace TL
open PySem L2
mutual
def sh(k:Nat):T->T
 | .lst a=>.lst (ml k a)
 | .tup a=>.tup (ml k a)
 | .cell c=>.cell (k+c)
 | .aH=>.aH
 | .bl b=>.bl b
 | .int i=>.int i
 | .str x=>.str x
 | .exc c=>.exc c
def ml(k:Nat):List T->List T
 | []=>[]
 |t::a=>sh k t::ml k a
end
def xj(k:Nat)(x:Cl):Cl:=(x.1,ml k x.2)
section
variable {K:aL}{M:Hp}{d f:cx}{k:Nat}
mutual
theorem RT.sh(p:∀(c:Nat)(a:Addr),d[c]?=some a->f[k+c]?=some a):∀{t:T}{v:V},RT K M d t v->RT K M f (TL.sh k t) v
 | .aH,_,h=>by unfold TL.sh;unfold RT at*;exact h
 | .bl _,_,h=>by unfold TL.sh;unfold RT at*;exact h
 | .int _,_,h=>by unfold TL.sh;unfold RT at*;exact h
 | .str _,_,h=>by unfold TL.sh;unfold RT at*;exact h
 | .lst b,v,h=>by
   unfold TL.sh;unfold RT at*;obtain⟨a,vs,e,q,r⟩:=h
   exact⟨a,vs,e,q,aw.sh p r⟩
 | .tup b,v,h=>by
   unfold TL.sh;unfold RT at*;obtain⟨a,vs,e,q,r⟩:=h
   exact⟨a,vs,e,q,aw.sh p r⟩
 | .cell c,v,h=>by
   unfold TL.sh;unfold RT at*;obtain⟨a,e,q⟩:=h
   exact⟨a,e,p c a q⟩
 | .exc c,v,h=>by
   unfold TL.sh;unfold RT at*
   exact h
theorem aw.sh(p:∀(c:Nat)(a:Addr),d[c]?=some a->f[k+c]?=some a):∀{b:List T}{vs:List V},aw K M d b vs->aw K M f (ml k b) vs
 | [],_,h=>by unfold ml;unfold aw at*;exact h
 |t::b,vs,h=>by
  unfold ml;unfold aw at*;obtain⟨v,r,e,i,g⟩:=h
  exact⟨v,r,e,RT.sh p i,aw.sh p g⟩
end
end
def yo(K:aL)(n:Nat)(G:List T->Option (T×ab)):Sp:=λvs H Q _=>∃Z b r f,b.length=n/\(∀a,Z a->NT (H a))/\aw K (mask H Z []) [] b vs/\G b=some (r,f)/\
 ∀v d c g h,Rel K H Z c h f g d->RT K (mask d Z c) c r v->Q v d
theorem Le{K:aL}{n:Nat}{G:List T->Option (T×ab)}:∀vs H Q E,yo K n G vs H Q E->vs.length=n:=λvs H Q E a=>by obtain⟨Z,b,r,c,h,_,rr,_⟩:=a;rw[rr.length,h]
def yx(p:T×ab):Fl×aD×ab->Prop
 | (.rt r,_,C)=>p=(r,C)
 |_=>False
def Bc(B:FS)(m:Nat)(a:List T):Option (T×ab):=match B (gp m a) []with
 |some (.rt r,_,C)=>some (r,C)
 |_=>none
theorem K8{B:FS}{m n:Nat}:∀a p,a.length=n->Bc B m a=some p->∃r,B (gp m a) []=some r/\yx p r:=λa p _ e=>by
 unfold Bc at e;split at e
 ·rename_i h;cases e;exact⟨_,h,rfl⟩
 ·cases e
section
variable {K:aL}{W:XW}{d:St}{H:Hp}{Q:VK}{D:Ends}
variable{G:List T->Option (T×ab)}
theorem JK{n m:Nat}{F:FS}{vs:List V}{E:XK}(q:∀a p,a.length=n->G a=some p->∃r,F (gp m a) []=some r/\yx p r)(h:yo K n G vs H Q E):
 eH K W F {nx:=λ_ f=>Q .aH f,rt:=Q} (vs.map some++aP (m - vs.length) none) H:=by
 obtain⟨Z,a,r,z,o,j,rr,e,k⟩:=h;obtain⟨⟨g,i,y⟩,s,b⟩:=q a _ o e
 refine⟨H,Z,[],gp m a,[],g,i,y,Rel.start j rr,s,λt f w x _=>?_⟩
 cases g with
 |nx=>exact False.elim b
 |bk=>exact False.elim b
 |ct=>exact False.elim b
 |ex c=>exact False.elim b
 |rt u=>
  cases b
  exact λv l=>k v f w t i x l
def tX(n:Nat)(G:List T->Option (T×ab))(a:List T)(C:ab):Option (T×ab):=if a.length=n/\ei a=true then(G a).map λp=>(sh C.length p.1,C++p.2.map (xj C.length))else none
abbrev Gd(n:Nat)(G:List T->Option (T×ab))(a:FN):FE:=o4 a (tX n G)
theorem Qt{n:Nat}{vs:List V}{E:XK}(h:∃q,h9 K d q vs (tX n G q) H Q):yo K n G vs H Q E:=by
 obtain⟨q,o,Z,f,J,C,t,P,R,r,e,k⟩:=h;unfold tX at e;split at e
 ·rename_i F;obtain⟨⟨u,Cn⟩,M,e⟩:=eZ e;cases e
  refine⟨λa=>Z a\/a∈f,q,u,Cn,F.1,λa z=>?_,by rw[vC];exact r.cf F.2,M,λv p ae N O g B=>?_⟩
  ·rcases z with z|z
   ·exact R.zd a z
   ·exact R.gv z
  ·have em:mask p (fun a=>Z a\/a∈f) ae=mask p Z (f++ae):=by
    funext a;unfold mask;by_cases h:(Z a\/a∈f)\/a∈ae
    ·rw[if_pos h,if_pos (by rcases h with(h|h)|h
                            ·exact .inl h
                            ·exact .inr (jQ (.inl h))
                            ·exact .inr (jQ (.inr h)))]
    ·rw[if_neg h,if_neg (by
      rintro(z|z)
      ·exact h (.inl (.inl z))
      ·rcases fY z with z|z
       ·exact h (.inl (.inr z))
       ·exact h (.inr z))]
   have A:∀(c:Nat)(a:Addr),ae[c]?=some a->(f++ae)[C.length+c]?=some a:=λc a z=>by
    rw[<-R.len,bD (by lia)];rw[show f.length+c - f.length=c by lia];exact z
   have st:Step H p f (f++ae):=.of g.old λa j=>(g.bx a j).1
   have L:Rel K o Z (f++ae) J (C++Cn.map (xj C.length)) d p:=by
    refine⟨R.old.trans g.old,λa j=>?_,?_,λa z=>g.zd a (.inl z),λi t e=>?_,λc a e=>?_,?_,R.ro⟩
    ·rcases fY j with j|j
     ·exact R.bx a j
     ·exact⟨R.old.free (g.bx a j).1,λz=>(g.bx a j).2 (.inl z)⟩
    ·exact i9 ⟨R.nd,g.nd,λa m b l z=>by subst z;exact(g.bx a l).2 (.inr m)⟩
    ·obtain⟨v,m,l⟩:=R.loc i t e
     exact⟨v,m,l.step st⟩
    ·by_cases I:c<f.length
     ·rw[aW I]at e;obtain⟨x,w,ob,m,l,y,s⟩:=R.jg c a e
      exact⟨x,w,ob,by rw[aW (by rw[<-R.len];exact I)];exact m,g.old _ _ l,y,s.step st⟩
     ·rw[bD (by lia)]at e;obtain⟨x,w,ob,m,l,y,s⟩:=g.jg _ a e
      refine⟨xj C.length x,w,ob,?_,l,y,?_⟩
      ·rw[bD (by rw[<-R.len];lia),<-R.len,bA,m];rfl
      ·rw[em]at s;exact s.sh A
    ·rw[bF,bF,aN,R.len,g.len]
   rw[em]at B
   exact k v p (f++ae) L (B.sh A) st
 ·cases e
theorem Ri{a:FN}{n:Nat}{E:XK}(h:bu K (o4 a (tX n G)) d H Q):Cy (yo K n G) [] E (ia K a) d H Q:=
 pV (Cu h) λvs _ q=>by rw[aQ];exact Qt q
theorem Rel.locals{a:Hp}{Z:Addr->Prop}{f:cx}{g:aD}{C:ab}{b:List T}{vs:List V}{m:Nat}(R:Rel K a Z f g C d H)(h:aw K (mask H Z f) f b vs):
 Rel K a Z f (gp m b) C (vs.map some++aP (m - vs.length) none) H:=by
 refine⟨R.old,R.bx,R.nd,R.zd,λi t e=>?_,R.jg,R.len,by simp[gp,h.length]⟩
 unfold gp at e;have c:i<b.length:=by
  by_cases c:i<b.length
  ·exact c
  ·rw[bD (by simpa using c),cN]at e;split at e<;>cases e
 rw[aW (by simpa using c),bA]at e;cases q:b[i]?with
 |none=>rw[q]at e;cases e
 |some u=>
  rw[q]at e;cases e;obtain⟨v,k,j⟩:=h.get q
  refine⟨v,?_,j⟩
  rw[aW (by simpa[h.length]using c),bA,k];rfl
end
end TL
namespace TL
open PySem PySem.Spec PyProof.Rows L2
section
variable {X:Cx}{e:Expr}{c:List Expr}{d:FN}{p pos j:Pos}
structure DD(P:Program)(w:World)(K:aL)(mg:Str->Option Value)(base:Heap)(k:Nat)(x:Str)(n:Nat)(G:List T->Option (T×ab)):Prop where
 ex:∃f fd ps,oW P w K mg base kb k f fd ps (yo K n G)/\mg x=some (.ref f)/\cI K (.ref f)=true/\Binds K fd ps []
theorem Kl{k n:Nat}{x:Str}{G:List T->Option (T×ab)}(D:DD X.prog X.w X.K X.mg X.base k x n G)(a:cm k X.A)(o:QA X (e::c) d)(i:Gl X x:=by rfl)(q:(x==("__debug__":Str))=false:=by decide)
 (l:starEach (e::c) X.env=(false,eval e X.env)::starEach c X.env:=by rfl)(r:(backTo pos (starEach c X.env)).any (·.1)=false:=by rfl):QE X (.Call (.Name x p) (e::c) [] pos) (Gd n G d):=by
 obtain⟨f,t,s,F,b,g,m⟩:=D.ex
 exact(yD (E:=λ_ _ _=>False) F a i b g m .nil (λ_ _ _ _ _ _ _ h=>h.elim) o q l r).imp λ_ _ _=>Ri
section
variable {f bx:List Str}{is:List Nat}{h:Scope}{l:List (Str×Addr)}{m a b:Expr}{n o:List Expr}{tk}{q r bq:Pos}{s u v:FE}{g:FG}{w:FB}{x:Str}
theorem Lh(O:X.N.Nodup)(i:Nat)(J:X.mg "zip"=none)(N:X.calm=true)(k:nB X f bx is h l)(Q:QE X a s)(P:QE X b u)(I:kv f.length g)(L:∀C t z y,QG (iE X (f++bx) h l C t z y) (.Tuple n tk q) g)(G:∀C t z y,tf (iE X (f++bx) h l C t z y) o w)
 (M:∀C t z y,QE (iE X (f++bx) h l C t z y) m v)(R:Gl X "zip":=by rfl)(F:X.N[i]?=some x:=by rfl)(K:X.env.scope.names.lookup x=some .local:=by rfl)
 (D:swapsWith (.ListComp m [⟨.Tuple n tk q,.Call (.Name "zip" p) [a,b] [] r,o,0⟩] h pos) (some (.Name x j)) bq.line X.env=pure true:=by rfl)(H:∀x,foldedSetIterable (.Call (.Name "zip" p) [a,b] [] r) X.env x=pure x:=by intro _;rfl)
 (B:starEach [a,b] X.env=[(false,eval a X.env),(false,eval b X.env)]:=by rfl)(A:starEach [b] X.env=[(false,eval b X.env)]:=by rfl):
 QS X (.Assign [.Name x j] (.ListComp m [⟨.Tuple n tk q,.Call (.Name "zip" p) [a,b] [] r,o,0⟩] h pos) bq) (gR (gT (oY s u f.length is g w v)) (gN i)):=
 (qF O F K N k (IR R J (eY Q (eY P fG (by rw[A];rfl)) (by rw[B,A])) B A) L G M D H).imp λ_ _ _=>EH λ_ _ _=>Ke I
end
end
end TL
namespace TL
open PySem L2
noncomputable def dj{a:Type}(f:Str):List Str->List a->Option a
 |n::b,t::ts=>if f=n then some t else dj f b ts
 |_,_=>none
noncomputable def pn(f:Str):List Str->List Str
 | []=>[f]
 |n::a=>if n=f then n::a else n::pn f a
noncomputable def pv{a:Type}(f:Str)(t:a):List Str->List a->List a
 | [],_=>[t]
 |n::b,x::ts=>if n=f then t::ts else x::pv f t b ts
 |_::_,[]=>[]
theorem x6{f:Str}:∀{a:List Str}{vs:List V},(a.zip vs).lookup f=dj f a vs
 | [],_=>rfl
 |_::_,[]=>rfl
 |n::a,v::vs=>by
  rw[b6,bT];unfold dj;by_cases h:f=n
  ·rw[if_pos h,beq_iff_eq.mpr h]
  ·rw[if_neg h,(beq_eq_false_iff_ne).mpr h];exact x6
theorem Gn{f:Str}{v:V}:∀{a:List Str}{vs:List V},a.length=vs.length->qK f v (a.zip vs)=(pn f a).zip (pv f v a vs)
 | [],_,_=>rfl
 |_::_,[],h=>by cases h
 |n::a,x::vs,h=>by
  rw[b6];unfold qK pn pv;split
  ·rfl
  ·rw[Gn (by simpa using h),b6]
theorem Ge{b:Type}{f:Str}{t:b}:∀{a:List Str}{ts:List b},a.length=ts.length->(pn f a).length=(pv f t a ts).length
 | [],_,_=>rfl
 |_::_,[],h=>by cases h
 |n::a,x::ts,h=>by
  have c:a.length=ts.length:=by simpa using h
  unfold pn pv;split
  ·simpa using c
  ·simpa using Ge c
section
variable {K:aL}{M:Hp}{a:cx}
theorem aw.dj{f:Str}:∀{b:List Str}{ts:List T}{vs:List V}{t:T},aw K M a ts vs->TL.dj f b ts=some t->∃v,TL.dj f b vs=some v/\RT K M a t v
 | [],ts,vs,t,_,e=>by unfold TL.dj at e;cases e
 |_::_,[],vs,t,_,e=>by unfold TL.dj at e;cases e
 |n::b,x::ts,vs,t,h,e=>by
  obtain⟨v,r,rfl,g,d⟩:=h.cons_inv;unfold TL.dj at e|-;split at e
  ·rename_i c;cases e;exact⟨v,if_pos c,g⟩
  ·rename_i c;rw[if_neg c];exact aw.dj d e
theorem aw.pv{f:Str}{t:T}{v:V}(c:RT K M a t v):∀{b:List Str}{ts:List T}{vs:List V},aw K M a ts vs->aw K M a (TL.pv f t b ts) (TL.pv f v b vs)
 | [],_,_,_=>.cons c .nil
 |n::b,[],vs,h=>by rw[h.nil_inv];exact .nil
 |n::b,x::ts,vs,h=>by
  obtain⟨u,r,rfl,g,d⟩:=h.cons_inv;unfold TL.pv;split
  ·exact .cons c d
  ·exact .cons g (aw.pv c d)
end
noncomputable def oc(a:String)(C:ab):T->Option (Nat×List Str×List T)
 | .cell c=>(C[c]?).bind λx=>match x.1 with
   | .o k b=>if k=a then some (c,b,x.2)else none
   |_=>none
 |_=>none
theorem Qo{a:String}{C:ab}{t:T}{c:Nat}{d:List Str}{b:List T}(h:oc a C t=some (c,d,b)):t=.cell c/\C[c]?=some (.o a d,b):=by
 unfold oc at h;split at h
 ·obtain⟨⟨k,g⟩,e,h⟩:=eV h;dsimp only at h;split at h
  ·split at h
   ·rename_i f;cases h;cases f;exact⟨rfl,e⟩
   ·cases h
  ·cases h
 ·cases h
def j5(K:aL)(a:String)(f:Str):Prop:=∀C,bQ K mainGlobals (Str.ofString a)=some (some (.ref C))->oe K C/\qP K C f
def AW(a:String)(f:Str)(t:T)(C:ab):Option (T×ab):=(oc a C t).bind λx=>(dj f x.2.1 x.2.2).map λu=>(u,C)
abbrev mU(b:String)(f:Str)(a:FE):FE:=yh a (AW b f)
def pC(a:String)(f:Str)(c d:FE):FS:=λb C=>(d b C).bind λp=>(c b p.2).bind λq=>(oc a q.2 q.1).bind λx=>if x.2.1.length<900 then some (.nx,b,q.2.set x.1 (.o a (pn f x.2.1),pv f p.1 x.2.1 x.2.2))else none
def wL(a:String)(f:Str)(g:Int->Int->Int)(d h:FE):FS:=λb C=>(d b C).bind λq=>(oc a q.2 q.1).bind λx=>(dj f x.2.1 x.2.2).bind λc=>match c with
 | .int i=>(h b q.2).bind λp=>match p.1 with
   | .int j=>(oc a p.2 q.1).bind λy=>if y.2.1.length<900 then some (.nx,b,p.2.set y.1 (.o a (pn f y.2.1),pv f (.int (g i j)) y.2.1 y.2.2))else none
   |_=>none
 |_=>none
section
variable {K:aL}{W:XW}{l:St}{H:Hp}{Q:VK}{D:Ends}{d:String}{f:Str}
theorem Rel.oc{g:Hp}{Z:Addr->Prop}{b:cx}{k:aD}{C:ab}{t:T}{v:V}{c:Nat}{i:List Str}{ts:List T}(R:Rel K g Z b k C l H)(h:RT K (mask H Z b) b t v)(e:TL.oc d C t=some (c,i,ts)):
 ∃a Cl dx vs,v=.ref a/\b[c]?=some a/\i.length=vs.length/\bQ K mainGlobals (Str.ofString d)=some (some (.ref Cl))/\H a=some (.ins Cl dx (i.zip vs))/\aw K (mask H Z b) b ts vs:=by
 obtain⟨rfl,w⟩:=Qo e;unfold RT at h;obtain⟨a,u,q⟩:=h;obtain⟨x,vs,ob,j,s,r,p⟩:=R.jg c a q;rw[w]at j;cases j;obtain⟨o,Cl,dx,n,m⟩:=r;subst m
 exact⟨a,Cl,dx,vs,u,q,o,n,s,p⟩
theorem Os{b:FE}(p:j5 K d f)(h:bu K (mU d f b) l H Q):Bw K (bu K b) f l H Q:=by
 refine jT (EK h) λx I q=>?_
 obtain⟨M,g,Z,i,J,C,t,P,R,r,e,k⟩:=q;obtain⟨_,_,z,m,r⟩:=r.cons_inv;cases z;unfold AW at e;obtain⟨⟨c,N,L⟩,G,e⟩:=eV e;obtain⟨u,F,e⟩:=eZ e;cases e;obtain⟨a,Cl,dx,vs,A,q,O,o,s,n⟩:=R.oc m G;obtain⟨v,B,j⟩:=n.dj F;obtain⟨y,w⟩:=p Cl o
 exact⟨a,Cl,dx,_,v,A,s,y,w,by rw[x6];exact B,k v I i R j .refl⟩
theorem Ow{p r:FE}(J:j5 K d f)(h:eH K W (pC d f p r) D l H):BA K (bu K p) (bu K r) f D l H:=by
 obtain⟨b,Z,t,i,C,fl,ah,C',R,e,k⟩:=h;unfold pC at e;obtain⟨⟨z,s⟩,S,e⟩:=eV e;obtain⟨⟨w,E⟩,P,e⟩:=eV e;obtain⟨⟨c,g,ts⟩,O,e⟩:=eV e;dsimp only at e;split at e
 ·rename_i I;cases e
  refine⟨b,Z,t,i,C,z,s,R,S,λy H1 X Y M A=>?_⟩
  refine⟨b,Z,X,i,s,w,E,Y,P,λx H2 U R2 L j=>?_⟩
  obtain⟨a,Cl,dx,vs,N,q,n,m,o,G⟩:=R2.oc L O;obtain⟨F,B⟩:=J Cl m;obtain⟨v,u⟩:=R2.put (kd:=.o d (pn f g)) (ob:=.ins Cl dx ((pn f g).zip (pv f y g vs))) q (by rw[o];trivial) ⟨Ge n,Cl,dx,m,rfl⟩ (G.pv (M.step j))
  exact⟨a,Cl,dx,_,N,o,F,B,by rw[b7];lia,by rw[Gn n];exact k l _ U v ((A.trans j).ss.trans u)⟩
 ·cases e
theorem Lr{B F:FE}{g:Int->Int->Int}{rd:V->V->Hp->VK->Prop}(S:∀i j H Q,Q (.int (g i j)) H->rd (.int i) (.int j) H Q)(hc:j5 K d f)(h:eH K W (wL d f g B F) D l H):nR K (bu K B) (bu K F) rd f D l H:=by
 obtain⟨b,Z,M,s,C,fl,ah,C',R,e,k⟩:=h;unfold wL at e;obtain⟨⟨U,L⟩,e1,e⟩:=eV e;obtain⟨⟨c,ns,ts⟩,e3,e⟩:=eV e;obtain⟨old,e4,e⟩:=eV e;dsimp only at e;split at e
 ·rename_i i;obtain⟨⟨t2,C2⟩,e2,e⟩:=eV e;dsimp only at e;split at e
  ·rename_i j;obtain⟨⟨c2,m,o⟩,e5,e⟩:=eV e;dsimp only at e;split at e
   ·rename_i hl9;cases e
    refine⟨b,Z,M,s,C,U,L,R,e1,λx H1 af J z X=>?_⟩
    obtain⟨a,Cl,dx,vs,G,q,hl,r,hH,hr⟩:=J.oc z e3;obtain⟨v,e6,Y⟩:=hr.dj e4;obtain⟨p1,p2⟩:=hc Cl r
    refine⟨a,Cl,dx,_,v,G,hH,p1,p2,by rw[x6];exact e6,?_⟩
    refine⟨b,Z,af,s,L,_,C2,J,e2,λy H2 au R2 h2 u=>?_⟩
    rw[Y.int_inv,h2.int_inv]
    refine S i j H2 _ ?_
    obtain⟨a',Cl',p,n,A,E,I,w,t,N⟩:=R2.oc (z.step u) e5;rw[G]at A;cases A;rw[r]at w;cases w;obtain⟨P,O⟩:=R2.put (kd:=.o d (pn f m)) (ob:=.ins Cl p ((pn f m).zip (pv f (.int (g i j)) m n))) (ts:=pv f (.int (g i j)) m o) E (by rw[t];trivial) ⟨Ge I,Cl,p,r,rfl⟩ (N.pv .int)
    exact⟨p,_,t,by rw[b7];lia,by rw[Gn I];exact k l _ au P ((X.trans u).ss.trans O)⟩
   ·cases e
  ·cases e
 ·cases e
end
end TL
namespace TL
open PySem PySem.Spec PyProof.Rows L2
section
variable {X:Cx}{e o value:Expr}{g c d:FE}{a:String}{f:Str}{pos h l:Pos}
theorem lN(i:j5 X.K a f)(b:QE X e g)(j:attributeBase e f X.env (eval e X.env)=eval e X.env:=by rfl):QE X (.Attribute e f pos) (mU a f g):=(NU b j).imp λ_ _ _=>Os i
theorem qI(k:j5 X.K a f)(j:QE X o c)(b:QE X value d)(i:swapsWith value (some (.Attribute o f h)) pos.line X.env=pure false:=by rfl):QS X (.Assign [.Attribute o f h] value pos) (pC a f c d):=(PX j b i).imp λ_ _ _=>Ow k
theorem UW(m:j5 X.K a f)(k:QE X o c)(b:QE X value d):QS X (.AugAssign (.Attribute o f l) .Add value pos) (wL a f (λi j=>i+j) c d):=(Mn k b NJ).imp λ_ _ _=>Lr (λi j H Q q=>⟨i,j,rfl,rfl,q⟩) m
theorem UO(m:j5 X.K a f)(k:QE X o c)(b:QE X value d):QS X (.AugAssign (.Attribute o f l) .Sub value pos) (wL a f (λi j=>i - j) c d):=(Mn k b Jq).imp λ_ _ _=>Lr (λi j H Q q=>⟨i,j,rfl,rfl,q⟩) m
end
end TL
namespace TL
open PySem L2
def spS(K:aL)(n:Nat)(G:List T->ab->Option (T×ab)):Sp:=λvs H Q _=>∃a Z b f C σ ts r g,Rel K a Z b f C σ H/\aw K (mask H Z b) b ts vs/\ts.length=n/\G ts C=some (r,g)/\
 ∀v d c,Rel K a Z c f g σ d->RT K (mask d Z c) c r v->Step H d b c->Q v d
def o3(B:FS)(m:Nat)(b:List T)(C:ab):Option (T×ab):=match B (gp m b) C with
 |some (.nx,_,a)=>some (.aH,a)
 |some (.rt r,_,a)=>some (r,a)
 |_=>none
section
variable {K:aL}{W:XW}{σ:St}{H:Hp}{Q:VK}{D:Ends}
variable{G:List T->ab->Option (T×ab)}{d:FN}{g:String}{j:Addr}
theorem kU{n:Nat}:∀vs H Q E,spS K n G vs H Q E->vs.length=n:=λvs H Q E b=>by obtain⟨a,Z,f,c,C,σ,i,r,k,R,rr,h,_⟩:=b;rw[rr.length,h]
theorem Rel.back{a:Hp}{Z:Addr->Prop}{k c:cx}{h p:aD}{C l:ab}{o:St}{f:Hp}(R:Rel K a Z k h C σ H)(b:Rel K a Z c p l o f)(s:Step H f k c):Rel K a Z c h l σ f:=
 ⟨b.old,b.bx,b.nd,b.zd,λi t e=>let ⟨v,n,m⟩:=R.loc i t e;⟨v,n,m.step s⟩,b.jg,b.len,R.ro⟩
theorem lU{n m:Nat}{F:FS}{vs:List V}{E:XK}(h:spS K n (o3 F m) vs H Q E):
 eH K W F {nx:=λ_ c=>Q .aH c,rt:=Q} (vs.map some++aP (m - vs.length) none) H:=by
 obtain⟨a,Z,p,z,C,t,q,r,s,R,rr,A,e,k⟩:=h;unfold o3 at e;split at e
 ·rename_i i y f;cases e
  refine⟨a,Z,p,gp m q,C,.nx,i,s,R.locals rr,f,λx c l o b=>?_⟩
  exact k .aH c l (R.back o b) .aH b
 ·rename_i u i y f;cases e
  refine⟨a,Z,p,gp m q,C,.rt r,i,s,R.locals rr,f,λx c l o b=>?_⟩
  exact λv w=>k v c l (R.back o b) w b
 ·cases e
noncomputable def rX(n:Nat)(G:List T->ab->Option (T×ab))(a:List T)(C:ab):Option (T×ab):=if a.length=n then G a C else none
abbrev mD(n:Nat)(G:List T->ab->Option (T×ab))(d:FN):FE:=o4 d (rX n G)
theorem GL{n:Nat}{vs:List V}{E:XK}(h:∃ts,h9 K σ ts vs (rX n G ts) H Q):spS K n G vs H Q E:=by
 obtain⟨ts,a,Z,c,b,C,t,p,R,r,e,k⟩:=h;unfold rX at e;split at e
 ·rename_i i
  exact⟨a,Z,c,b,C,σ,ts,t,p,R,r,i,e,λv o l m f s=>k v o l m f s⟩
 ·cases e
theorem RN{n:Nat}{E:XK}(h:bu K (mD n G d) σ H Q):Cy (spS K n G) [] E (ia K d) σ H Q:=
 pV (Cu h) λvs _ q=>by rw[aQ];exact GL q
def mR(g:String)(m:Str)(n:Nat)(G:List T->ab->Option (T×ab))(b:FE)(d:FN):FE:=λa C=>(b a C).bind λp=>(oc g p.2 p.1).bind λx=>match dj m x.2.1 x.2.2 with
 |some _=>none
 |none=>(d a p.2).bind λq=>rX n G (p.1::q.1) q.2
theorem Md{i c:Type}{f:Str}:∀{b:List Str}{a:List i}{vs:List c},a.length=vs.length->dj f b a=none->dj f b vs=none
 | [],_,_,_,_=>by unfold dj;rfl
 |_::_,[],[],_,_=>by unfold dj;rfl
 |_::_,[],_::_,h,_=>by cases h
 |_::_,_::_,[],h,_=>by cases h
 |n::b,t::a,v::vs,h,e=>by
  unfold dj at e|-;split at e
  ·cases e
  ·rename_i k;rw[if_neg k];exact Md (by simpa using h) e
theorem IX{m:Str}{n:Nat}{s:FE}{E:XK}(M:bQ K mainGlobals (Str.ofString g)=some (some (.ref j)))(h:bu K (mR g m n G s d) σ H Q):E7 j m (spS K n G) [] E (bu K s) (ia K d) σ H Q:=by
 obtain⟨b,Z,B,f,C,t,C',R,e,k⟩:=h;unfold mR at e;obtain⟨⟨l,A⟩,U,e⟩:=eV e;obtain⟨⟨c,ns,ts⟩,w,e⟩:=eV e;dsimp only at w e;split at e
 ·cases e
 ·rename_i L;obtain⟨⟨i,z⟩,u,e⟩:=eV e;dsimp only at u e
  refine⟨b,Z,B,f,C,l,A,R,U,λx H1 af y r I=>?_⟩
  obtain⟨a,Cl,dx,vs,S,q,hl,p,N,J⟩:=y.oc r w;rw[M]at p;cases p
  refine⟨a,dx,_,S,N,by rw[x6];exact Md (by rw[J.length]) L,?_⟩
  refine⟨b,Z,af,f,A,i,z,y,u,λws H2 Y R2 P o=>?_⟩
  dsimp only;rw[aQ]
  exact GL ⟨l::i,b,Z,Y,f,z,t,C',R2,.cons (r.step o) P,e,λv H3 X R3 O F=>k v H3 X R3 O ((I.trans o).trans F)⟩
def wY(g:String)(n:Nat)(G:List T->ab->Option (T×ab))(gy:List T)(d:FN):FE:=λa C=>(d a C).bind λp=>(rX n G (.cell p.2.length::(p.1++gy)) (p.2++[(.o g [],[])])).bind λq=>match q.1 with
 | .aH=>some (.cell p.2.length,q.2)
 |_=>none
theorem NM{n:Nat}{gy:List T}{s:List V}{E:XK}(B:bQ K mainGlobals (Str.ofString g)=some (some (.ref j)))(A:∀M b,aw K M b gy s)
 (h:bu K (wY g n G gy d) σ H Q):wg j (spS K n G) s E (ia K d) σ H Q:=by
 obtain⟨a,Z,b,i,C,t,C',R,e,k⟩:=h;unfold wY at e;obtain⟨⟨ts,f⟩,J,e⟩:=eV e;obtain⟨⟨r,Y⟩,q,e⟩:=eV e;dsimp only at q e;split at e
 ·cases e
  refine⟨a,Z,b,i,C,ts,f,R,J,λvs X N S I w x dx z c L=>?_⟩
  obtain⟨R2,o⟩:=S.alloc (o:=.own x) c;have u:upd X dx (.own x) x=none:=by rw[gH (Ne.symm L)];exact z
  obtain⟨P,m,p⟩:=R2.fq (kd:=.o g []) (ts:=[]) (vs:=[]) (ob:=.ins j dx []) u ⟨rfl,j,dx,B,rfl⟩ .nil
  refine GL (σ:=σ) ⟨.cell f.length::(ts++gy),a,Z,N++[x],i,f++[(.o g [],[])],.aH,_,P,.cons p (((I.step o).step m).append (A _ _)),q,λv U y O F l=>⟨F.jv,?_⟩⟩
  exact k _ U y O (p.step l) (((w.trans o).trans m).trans l)
 ·cases e
end
end TL
namespace L2
open PySem PySem.Spec PyProof.Rows
section
variable {a:Type}[DecidableEq a]
variable{p:a×V}{r kvs:List (a×V)}{o:Option V}{u:Option Value}
noncomputable def vK(kvs:List (a×V))(k:a):Option V:=(kvs.find? λb=>decide (b.1=k)).map (·.2)
noncomputable def putK(kvs:List (a×V))(k:a)(v:V):List (a×V):=
 if(kvs.any λb=>decide (b.1=k))=true then kvs.map (λb=>if b.1=k then(b.1,v)else b)else kvs++[(k,v)]
theorem u7{k:a}(e:p.1=k):vK (p::r) k=some p.2:=by simp[vK,cZ,e]
theorem sA{k:a}(e:¬p.1=k):vK (p::r) k=vK r k:=by simp[vK,cZ,e]
theorem K4(k:a):∀kvs:List (a×V),(kvs.any λb=>decide (b.1=k))=(vK kvs k).isSome
 | []=>rfl
 |p::r=>by
  rw[aRO];by_cases e:p.1=k
  ·simp only[u7 e,decide_eq_true e,Bool.true_or,Option.isSome_some]
  ·rw[sA e,decide_eq_false e,aTl];exact K4 k r
theorem rV(kvs:List (a×V))(k:a)(v:V):(putK kvs k v).length<=kvs.length+1:=by
 unfold putK;split
 ·rw[aN];lia
 ·rw[bF,aM,aU];lia
theorem rA.eo(r:rA o u):o.isSome=u.isSome:=by
 cases o with
 |none=>cases u with
  |none=>rfl
  |some _=>exact(show False from r).elim
 |some _=>cases u with
  |none=>exact(show False from r).elim
  |some _=>rfl
theorem rA.getD{d:V}{b:Value}(r:rA o u)(rd:RelV d b):RelV (o.getD d) (u.getD b):=by
 cases o with
 |none=>cases u with
  |none=>exact rd
  |some _=>exact(show False from r).elim
 |some _=>cases u with
  |none=>exact(show False from r).elim
  |some _=>exact r
theorem KV.val{vs:List (a×Value)}(r:KV kvs vs)(k:a):rA (vK kvs k) (valueAt vs k):=by
 unfold KV at r;induction r with
 |nil=>exact True.intro
 | @cons p q i c h t ih=>
   obtain⟨f,g⟩:=h;by_cases e:p.1=k
   ·have d:q.1=k:=f.symm.trans e;have b:valueAt (q::c) k=some q.2:=by simp[valueAt,cZ,d]
    rw[u7 e,b];exact g
   ·have d:¬q.1=k:=λz=>e (f.trans z)
    have b:valueAt (q::c) k=valueAt c k:=by simp[valueAt,cZ,d]
    rw[sA e,b];exact ih
theorem KV.any{vs:List (a×Value)}(r:KV kvs vs)(k:a):(kvs.any λb=>decide (b.1=k))=vs.any λb=>decide (b.1=k):=by
 unfold KV at r;induction r with
 |nil=>rfl
 |cons h t ih=>rw[aRO,aRO,ih,h.1]
theorem KV.zt{vs:List (a×Value)}(r:KV kvs vs)(k:a){y:V}{u:Value}(d:RelV y u):
 KV (kvs.map λb=>if b.1=k then(b.1,y)else b) (vs.map λb=>if b.1=k then(b.1,u)else b):=by
 unfold KV at r|-;induction r with
 |nil=>exact .nil
 | @cons p q i g h t ih=>
   rw[aK,aK]
   refine .cons ?_ ih
   obtain⟨c,f⟩:=h;by_cases e:p.1=k
   ·rw[if_pos e,if_pos (c.symm.trans e)];exact⟨c,d⟩
   ·rw[if_neg e,if_neg (λz=>e (c.trans z))];exact⟨c,f⟩
theorem KV.put{vs:List (a×Value)}(r:KV kvs vs)(k:a){y:V}{u:Value}(b:RelV y u):KV (putK kvs k y) (stored vs k u):=by
 unfold putK stored;rw[r.any k];by_cases e:(vs.any λc=>decide (c.1=k))=true
 ·rw[if_pos e,if_pos e];exact r.zt k b
 ·rw[if_neg e,if_neg e];exact Paired.snoc r ⟨rfl,b⟩
theorem KV.length{vs:List (a×Value)}(r:KV kvs vs):kvs.length=vs.length:=Paired.length r
end
variable{u:Value}{kvs:List (List Key×V)}{xs:List (List Key×Addr×Value)}
theorem Av{P:Program}{w:World}{k:Key}(r:RelV (kV k) u):(j6 P w).is k u=true:=by
 cases k with
 |inl i=>obtain⟨t,e⟩:=(show∃t,u=Value.int i t from r);subst e;exact Wd P w i t
 |inr x=>obtain⟨t,e⟩:=(show∃t,u=Value.str x t from r);subst e;exact VW P w x t
theorem L6{P:Program}{w:World}:∀{a:List Key}{b:List Value},aq (a.map kV) b->ItemsAre (j6 P w) a b
 | [],_,r=>by rw[aY]at r;cases r;exact .nil
 |k::a,_,r=>by
  rw[aK]at r;cases r with
  |cons h t=>exact .cons (Av h) (L6 t)
abbrev KT(H:Hp):List (List Key×V)->List (List Key×Addr×Value)->Prop:=Paired λp q=>p.1=q.1/\H q.2.1=some (.tup (p.1.map kV))/\RelV p.2 q.2.2
theorem KT.val{H:Hp}(r:KT H kvs xs)(k:List Key):rA (vK kvs k) ((atKey xs k).map (·.2)):=by
 induction r with
 |nil=>exact True.intro
 | @cons p q g a h t ih=>
   obtain⟨d,_,f⟩:=h;by_cases e:p.1=k
   ·have c:q.1=k:=d.symm.trans e;have b:atKey (q::a) k=some q.2:=by simp[atKey,cZ,c]
    rw[u7 e,b];exact f
   ·have c:¬q.1=k:=λz=>e (d.trans z)
    have b:atKey (q::a) k=atKey a k:=by simp[atKey,cZ,c]
    rw[sA e,b];exact ih
theorem KT.zt{H:Hp}(r:KT H kvs xs)(k:List Key){y:V}(d:RelV y u):
 KT H (kvs.map λb=>if b.1=k then(b.1,y)else b) (xs.map (putAt k u)):=by
 induction r with
 |nil=>exact .nil
 | @cons p q i g h t ih=>
   rw[aK,aK]
   refine .cons ?_ ih
   obtain⟨a,c,f⟩:=h;unfold putAt;by_cases e:p.1=k
   ·rw[if_pos e,if_pos (a.symm.trans e)];exact⟨a,c,d⟩
   ·rw[if_neg e,if_neg (λz=>e (a.trans z))];exact⟨a,c,f⟩
theorem KT.put{H:Hp}(r:KT H kvs xs)(k:List Key){b:Addr}{y:V}(d:H b=some (.tup (k.map kV)))(a:RelV y u):
 KT H (putK kvs k y) (storedH xs k b u):=by
 have e:(kvs.any λc=>decide (c.1=k))=(atKey xs k).isSome:=by
  rw[K4,(r.val k).eo,aR9]
 unfold putK storedH;rw[e];by_cases q:(atKey xs k).isSome=true
 ·rw[if_pos q,if_pos q];exact r.zt k a
 ·rw[if_neg q,if_neg q];exact Paired.snoc r ⟨rfl,d,a⟩
theorem KT.keeps{H c:Hp}(r:KT H kvs xs)(d:∀b a,H b=some (.tup a)->c b=some (.tup a)):KT c kvs xs:=
 Paired.z4 r λ_ _ z=>⟨z.1,d _ _ z.2.1,z.2.2⟩
section
variable {P:Program}{w:World}{H:Hp}{h:Heap}{a:Addr}
theorem Ib{u:HO}(ok:gh P w H h)(e:Rd H a u):kW P w H h a u:=e.ok ok
theorem yZ{kvs:List (Key×V)}(ok:gh P w H h)(e:Rd H a (.dK kvs)):kvs.length<=sizeLine/\(a==sysModules)=false/\∃vs,KV kvs vs/\h.DictOf (j6 P w) a vs:=
 show kW P w H h a (.dK kvs)from Ib ok e
theorem DC{kvs:List (Key×V)}(ok:gh P w H h)(e:H a=some (.dK kvs)):kvs.length<=sizeLine/\(a==sysModules)=false/\∃vs,KV kvs vs/\h.DictOf (j6 P w) a vs:=yZ ok (.inl e)
theorem vJ{b:List Key}(ok:gh P w H h)(e:H a=some (.tup (b.map kV))):(tupleKind (j6 P w)).is h b a:=by
 obtain⟨_,c,r,o,g,f,n,d⟩:=(show kW P w H h a (.tup (b.map kV))from ok a _ e)
 exact⟨o,c.toArray,n,g,f,d,by simpa using L6 r⟩
theorem Ay{kvs:List (List Key×V)}(ok:gh P w H h)(e:Rd H a (.dT kvs)):kvs.length<=sizeLine/\(a==sysModules)=false/\
 ∃xs,KT H kvs xs/\h.DictOfH (tupleKind (j6 P w)) a xs:=by
 obtain⟨z,y,xs,r,o,k,n,j,i,g,f,d⟩:=(show kW P w H h a (.dT kvs)from Ib ok e)
 refine⟨z,y,xs,r,o,k,n,j,i,g,f,λx b=>?_,d⟩
 have all:∀{l:List (List Key×V)}{m:List (List Key×Addr×Value)},KT H l m->∀x∈m,(tupleKind (j6 P w)).is h x.1 x.2.1:=by
  intro l m q;induction q with
  |nil=>intro x b;exact nomatch b
  | @cons p q v s c t ih=>
    intro x b;rcases fR b with e|b
    ·subst e
     exact vJ ok (by rw[<-c.1];exact c.2.1)
    ·exact ih x b
 exact all r x b
theorem Nx{kvs:List (List Key×V)}(ok:gh P w H h)(e:H a=some (.dT kvs)):kvs.length<=sizeLine/\(a==sysModules)=false/\
 ∃xs,KT H kvs xs/\h.DictOfH (tupleKind (j6 P w)) a xs:=Ay ok (.inl e)
end
def tY(H:Hp)(a:Addr)(y:V)(r:Option V):Prop:=
 (∃kvs k,Rd H a (.dK kvs)/\y=kV k/\r=vK kvs k)\/∃kvs k b,Rd H a (.dT kvs)/\y=.ref b/\H b=some (.tup (k.map kV))/\r=vK kvs k
def tz(H:Hp)(a:Addr)(y v:V)(c:Hp):Prop:=
 (∃kvs k,H a=some (.dK kvs)/\y=kV k/\kvs.length<sizeLine/\c=upd H a (.dK (putK kvs k v)))\/
 ∃kvs k b,H a=some (.dT kvs)/\y=.ref b/\H b=some (.tup (k.map kV))/\kvs.length<sizeLine/\c=upd H a (.dT (putK kvs k v))
theorem tY.k{H:Hp}{a:Addr}{kvs:List (Key×V)}{k:Key}(e:H a=some (.dK kvs)):tY H a (kV k) (vK kvs k):=.inl ⟨kvs,k,.inl e,rfl,rfl⟩
theorem tz.k{H:Hp}{a:Addr}{kvs:List (Key×V)}{k:Key}{v:V}(e:H a=some (.dK kvs))(b:kvs.length<sizeLine):tz H a (kV k) v (upd H a (.dK (putK kvs k v))):=.inl ⟨kvs,k,e,rfl,b,rfl⟩
theorem tz.t{H:Hp}{a b:Addr}{kvs:List (List Key×V)}{k:List Key}{v:V}(e:H a=some (.dT kvs))(d:H b=some (.tup (k.map kV)))(c:kvs.length<sizeLine):
 tz H a (.ref b) v (upd H a (.dT (putK kvs k v))):=.inr ⟨kvs,k,b,e,rfl,d,c,rfl⟩
section
variable {X:Cx}{d:List (Addr×Obj)}{f:St}{H:Hp}{s:Shared}{a:Addr}{y v:V}{u r:Value}{o:Option V}{A:Around}{E:Value->Shared->Prop}
variable{Q:Value->Shared->Prop}{h':Heap}
theorem Inv.AN(I:Inv X d f H s):sysModules<s.heap.objs.size:=by
 have h:mainGlobals<s.heap.objs.size:=(I.mod.glob.keeps I.bk).lt
 exact aSP (by decide) h
theorem LK(B:A.units+1<cLine)(I:Inv X d f H s)(g:tY H a y (some v))(w:RelV y u)(h:∀i t,Inv X d f H t->RelV v i->Q i t):
 wpAny (model X.prog X.w) A (getItem (.ref a) u) Q E s:=by
 rcases g with⟨kvs,k,e,n,l⟩| ⟨kvs,k,b,e,n,F,l⟩
 ·subst n;obtain⟨z,D,vs,c,q⟩:=yZ I.bz e;obtain⟨i,j,m⟩:=rA.some_of (v:=v) (o:=valueAt vs k) (by rw[l];exact c.val k)
  exact wpAny_getItem_of (Av w) q.mapOf j (h i _ (I.tok _) m)
 ·subst n;cases (show u=Value.ref b from w);obtain⟨z,D,xs,c,q⟩:=Ay I.bz e;obtain⟨i,j,m⟩:=rA.some_of (v:=v) (o:=(atKey xs k).map (·.2)) (by rw[l];exact c.val k);obtain⟨p,C,x⟩:=eZ j
  refine wpAny_getItem_heap (tupleKind_room_in1 B) (vJ I.bz F) q C ?_
  rw[x]
  exact h i _ (I.tok _) m
theorem Ng(t:A.units+1<cLine)(I:Inv X d f H s)(g:tY H a y o)(p:RelV y u)(h:∀n,Inv X d f H n->Q (.bool o.isSome) n):
 wpAny (model X.prog X.w) A (compareOp .In u (.ref a)) Q E s:=by
 rcases g with⟨kvs,k,e,j,l⟩| ⟨kvs,k,b,e,j,w,l⟩
 ·subst j;obtain⟨z,i,vs,c,m⟩:=yZ I.bz e
  refine wpAny_in_of (Av p) i m.mapOf ?_
  rw[<-(c.val k).eo,<-l]
  exact h _ (I.tok _)
 ·subst j;cases (show u=Value.ref b from p);obtain⟨z,i,xs,c,m⟩:=Ay I.bz e
  refine wpAny_in_heap (tupleKind_room_in1 t) (vJ I.bz w) i m ?_
  have q:=(c.val k).eo;rw[aR9]at q;rw[<-q,<-l]
  exact h _ (I.tok _)
theorem RF(t:A.units+1<cLine)(I:Inv X d f H s)(g:tY H a y o)(p:RelV y u)(h:∀n,Inv X d f H n->Q (.bool (!o.isSome)) n):
 wpAny (model X.prog X.w) A (compareOp .NotIn u (.ref a)) Q E s:=by
 rcases g with⟨kvs,k,e,j,l⟩| ⟨kvs,k,b,e,j,w,l⟩
 ·subst j;obtain⟨z,i,vs,c,m⟩:=yZ I.bz e
  refine wpAny_notIn_of (Av p) i m.mapOf ?_
  rw[<-(c.val k).eo,<-l]
  exact h _ (I.tok _)
 ·subst j;cases (show u=Value.ref b from p);obtain⟨z,i,xs,c,m⟩:=Ay I.bz e
  refine wpAny_notIn_heap (tupleKind_room_in1 t) (vJ I.bz w) i m ?_
  have q:=(c.val k).eo;rw[aR9]at q;rw[<-q,<-l]
  exact h _ (I.tok _)
theorem xZ{t':Nat}{ob:HO}(I:Inv X d f H s)(g:CJ (H a))(h:Heap.SameBut a s.heap h')(i:∃q,h'.get? a=some q)(c:kW X.prog X.w (upd H a ob) h' a ob):
 Inv X d f (upd H a ob) {s with heap:=h',toks:=t'}:=
 I.write (x:=a) (e:=a) g (.inl rfl) (λb q j z=>(h.2 b j).trans z) i c
theorem FY{P:Program}{w:World}{h:Hp}{kvs:List (Key×V)}{vs:List (Key×Value)}(z:kvs.length<=sizeLine)(c:(a==sysModules)=false)(b:KV kvs vs)(g:h'.DictOf (j6 P w) a vs):
 kW P w h h' a (.dK kvs):=⟨z,c,vs,b,g⟩
theorem LP{L:Hp}{Q:Unit->Shared->Prop}(M:A.units+1<cLine)(I:Inv X d f H s)(g:tz H a y v L)(F:RelV y u)(G:RelV v r)(h:∀D,Inv X d f L D->Q () D):
 wpAny (model X.prog X.w) A (setItem (.ref a) u r) Q E s:=by
 rcases g with⟨kvs,k,e,x,l,B⟩| ⟨kvs,k,b,e,x,K,l,B⟩
 ·subst x B;obtain⟨z,w,vs,i,C⟩:=DC I.bz e;have n:vs.length<=sizeLine:=by rw[<-i.length];exact z
  have t:(putK kvs k v).length<=sizeLine:=by have:=rV kvs k v;lia
  refine wpAny_setItem_pairs (hsz:=n) (Av F) C λh' j p=>h _ ?_
  have N:∃q,h'.get? a=some q:=let ⟨q,_,_,m,_⟩:=j;⟨q,m⟩
  exact xZ I (by rw[e];exact True.intro) p N (FY t w (i.put k G) j)
 ·subst x B;cases (show u=Value.ref b from F);obtain⟨z,w,xs,i,C⟩:=Nx I.bz e;have n:xs.length<=sizeLine:=by rw[<-Paired.length i];exact z
  have t:(putK kvs k v).length<=sizeLine:=by have:=rV kvs k v;lia
  refine wpAny_setItem_heap (hsz:=n) (tupleKind_room_in1 M) (vJ I.bz K) C λh' j p=>h _ ?_
  obtain⟨q,U,Y,m,S,R,P,_,O⟩:=j
  refine xZ I (by rw[e];exact True.intro) p ⟨q,m⟩ ⟨t,w,_,(i.put k K G).keeps λc Z J=>?_,q,U,Y,m,S,R,P,O⟩
  rw[gH (o8 J e (λz=>nomatch z))]
  exact J
end
section
variable {X:Cx}{c:List (Addr×Obj)}{d:St}{H:Hp}{s:Shared}{a:Addr}{kvs:List (Key×V)}{k:Key}{u:Value}{A:Around}{E:Value->Shared->Prop}
end
variable{s:Shared}
def EY(i:Expr):Prop:=∀a b,subscripted i false a b=operate [a,b] (getItem a b)
theorem QF{a:Program}{w:World}{A:Around}{E:Value->Shared->Prop}{env:Env}{value slice:Expr}{pos:Pos}{T id:String}{Q:Value->Shared->Prop}
 (l:typeLookup (.type T) "__getitem__"=pure (some (.builtin id)))(k:EY slice)
 (h:wpAny (model a w) A (eval value env) (λo g=>wpAny (model a w) A (eval slice env) (λi b=>b.TypeIs o T/\wpAny (model a w) A (getItem o i) Q E b) E g) E s):
 wpAny (model a w) A (eval (.Subscript value slice pos) env) Q E s:=by
 refine Subscript_ (wpAny_mono h (λo g m=>wpAny_mono m (λi b c=>?_) λ_ _ x=>x) λ_ _ x=>x)
 obtain⟨d,c⟩:=c;unfold subscriptTail
 refine wpAny_bind ?_
 rw[getitemInPython_of_ne d.not_modules]
 refine wpAny_bind (wpAny_specialOf d l ?_)
 have fin:wpAny (model a w) A (subscripted slice false o i) (λr f=>wpAny (model a w) A (letTemporaryGo value o r>>=λ_=>pure r) Q E f) E b:=by
  rw[k o i]
  exact wpAny_operating (wpAny_mono c (λr f j=>wpAny_bind (wpAny_letTemporaryGo (wpAny_pure j))) λ_ _ x=>x)
 first
  |exact wpAny_pure (wpAny_bind fin)
  |exact wpAny_bind (wpAny_pure (wpAny_bind fin))
  |exact wpAny_bind fin
theorem Wq{X:Cx}{f:List (Addr×Obj)}{d:St}{H:Hp}{a:Addr}{y:V}{o:Option V}(I:Inv X f d H s)(g:tY H a y o):s.TypeIs (.ref a) "dict":=by
 rcases g with⟨kvs,k,e,_,_⟩| ⟨kvs,k,b,e,_,_,_⟩
 ·obtain⟨_,_,vs,_,c⟩:=yZ I.bz e
  exact c.typeIs
 ·obtain⟨_,_,xs,_,c⟩:=Ay I.bz e
  exact c.typeIs
noncomputable def wz(f d:TE):TE:=λb H Q=>f b H λx g=>d b g λy c=>∃a v,x=.ref a/\tY c a y (some v)/\Q v c
noncomputable def Bx(d f:TE):TE:=λb H Q=>d b H λy g=>f b g λx c=>∃a o,x=.ref a/\tY c a y o/\Q (.bl o.isSome) c
noncomputable def nu(d f:TE):TE:=λb H Q=>d b H λy g=>f b g λx c=>∃a o,x=.ref a/\tY c a y o/\Q (.bl (!o.isSome)) c
noncomputable def xn(g d f:TE):TS:=λD b H=>f b H λv j=>g b j λx i=>d b i λy h=>∃a c,x=.ref a/\tz h a y v c/\D.nx b c
def xo(i g h:TE)(rd:V->V->Hp->VK->Prop):TS:=λD b H=>i b H λx l=>g b l λy d=>∃a v,x=.ref a/\tY d a y (some v)/\
 h b d λf k=>rd v f k λz j=>∃c,tz j a y z c/\D.nx b c
section
variable {X:Cx}{o i e value:Expr}{pos j l:Pos}{c d f:TE}
theorem Sk(z:X.A.units+1<cLine)(B:PE X o c)(C:PE X i d)(A:EY i):PE X (.Subscript o i pos) (wz c d):=by
 intro k s b H Q I h
 refine QF PySem.F.slot_dict_getitem.lookup A (aG (B k s b H _ I h) λu p ⟨x,K,G,r,w⟩=>aG (C k p b K _ G w) λO N n=>?_)
 obtain⟨y,J,m,q,a,v,ex,g,t⟩:=n;subst ex;obtain rfl:u=Value.ref a:=r
 exact⟨Wq m g,LK z m g q λL M F D=>⟨v,J,F,D,t⟩⟩
theorem OG(w:X.A.units+1<cLine)(A:PE X i d)(z:PE X o c):PC X .In i o (Bx d c):=by
 intro k s b H Q I h
 refine aG (A k s b H _ I h) λL n ⟨y,G,D,p,t⟩=>aG (z k n b G _ D t) λu K m=>?_
 obtain⟨x,F,C,q,a,v,ex,g,r⟩:=m;subst ex;obtain rfl:u=Value.ref a:=q
 exact Ng w C g p λJ B=>⟨.bl v.isSome,F,B,rfl,r⟩
theorem US(w:X.A.units+1<cLine)(A:PE X i d)(z:PE X o c):PC X .NotIn i o (nu d c):=by
 intro k s b H Q I h
 refine aG (A k s b H _ I h) λL n ⟨y,G,D,p,t⟩=>aG (z k n b G _ D t) λu K m=>?_
 obtain⟨x,F,C,q,a,v,ex,g,r⟩:=m;subst ex;obtain rfl:u=Value.ref a:=q
 exact RF w C g p λJ B=>⟨.bl (!v.isSome),F,B,rfl,r⟩
theorem SA(C:X.A.units+1<cLine)(G:PE X o c)(J:PE X i d)(B:PE X value f)(F:swapsWith value (some (.Subscript o i j)) pos.line X.env=pure false):
 PS X (.Assign [.Subscript o i j] value pos) (xn c d f):=by
 intro k s b H D I h
 refine wpAny_Assign_Subscript (aG (B k s b H _ I h) λr n ⟨v,Q,N,t,A⟩=>aG (G k n b Q _ N A) λu m ⟨x,P,M,q,z⟩=>aG (J k m b P _ M z) λU S ⟨y,Y,L,p,a,O,ex,g,w⟩=>?_) F
 subst ex;obtain rfl:u=Value.ref a:=q
 exact LP C L g p t λR K=>⟨b,O,K,w⟩
theorem QH{t:Operator}{rd:V->V->Hp->VK->Prop}(w:X.A.units+1<cLine)(U:PE X o c)(Y:PE X i d)(S:PE X value f)(B:Dj X t rd)
 (Z:∀n m b,augStore i n m b=(do holding [b,n,m] (setItem n m b);release [b,n,m] [];pure .next)):PS X (.AugAssign (.Subscript o i l) t value pos) (xo c d f rd):=by
 intro p s k H D I h
 refine wpAny_AugAssign_SubscriptAny (aG (U p s k H _ I h) λu L ⟨x,H1,I1,N,R⟩=>aG (Y p L k H1 _ I1 R) λm s2 ⟨y,H2,I2,r,a,v,ex,g,Q⟩=>?_) Z
 subst ex;obtain rfl:u=Value.ref a:=N
 refine LK w I2 g r λG K I3 E=>aG (S p K k H2 _ I3 Q) λF J ⟨C,H3,I4,q,P⟩=>aG (B p J k H3 v C G F _ I4 E q P) λw3 s5 A=>?_
 obtain⟨z,H4,I5,M,H5,g5,O⟩:=A
 exact LP w I5 g5 r M λs6 I6=>⟨k,H5,I6,O⟩
end
variable{P:Program}{w:World}
theorem Ld{H:Hp}(h:Heap)(a:sysModules<h.objs.size):kW P w H (h.push {cls:=.type "dict",data:=.dict #[]}) h.objs.size (.dK []):=
 ⟨dM _,beq_eq_false_iff_ne.mpr (Ne.symm (bS a)),[],.nil,Heap.DictOf.new h⟩
theorem Se{H:Hp}(h:Heap)(a:sysModules<h.objs.size):kW P w H (h.push {cls:=.type "dict",data:=.dict #[]}) h.objs.size (.dT []):=
 ⟨dM _,beq_eq_false_iff_ne.mpr (Ne.symm (bS a)),[],.nil,_,#[],0,Heap.get?_push_size _ rfl,⟨rfl,rfl,rfl⟩,rfl,rfl,aTe⟩
def qp:TE:=λ_ H Q=>∀p,H p=none->Q (.ref p) (upd H p (.dK []))
def qo:TE:=λ_ H Q=>∀p,H p=none->Q (.ref p) (upd H p (.dT []))
section
variable {X:Cx}{pos:Pos}
theorem Uz:PE X (.Dict [] [] pos) qp:=λb s a H Q I h=>
 wpAny_Dict_empty ⟨.ref s.heap.objs.size,_,I.laid (a:=s.heap.objs.size) (o:=.dK []) (t':=s.toks) (λ_ _ q=>Heap.get?_push_of_some _ q) (bE _) (Ld s.heap I.AN),rfl,h _ (I.bz.fresh (bE _))⟩
theorem SX:PE X (.Dict [] [] pos) qo:=λb s a H Q I h=>
 wpAny_Dict_empty ⟨.ref s.heap.objs.size,_,I.laid (a:=s.heap.objs.size) (o:=.dT []) (t':=s.toks) (λ_ _ q=>Heap.get?_push_of_some _ q) (bE _) (Se s.heap I.AN),rfl,h _ (I.bz.fresh (bE _))⟩
end
variable{X:Cx}{pos:Pos}{i:List (TE×TE)}
def FZ:List (TE×TE)->St->Hp->(List (V×V)->Hp->Prop)->Prop
 | [],_,H,Q=>Q [] H
 | (tk,b)::r,a,H,Q=>tk a H λx g=>b a g λy f=>FZ r a f λc d=>Q ((x,y)::c) d
abbrev VV:List (V×V)->List (Value×Value)->Prop:=Paired λp q=>RelV p.1 q.1/\RelV p.2 q.2
def D3(X:Cx)(pos:Pos)(a:List (Option Expr))(values:List Expr)(i:List (TE×TE)):Prop:=
 ∀(d:List (Addr×Obj))(s:Shared)(b:St)(H:Hp)(Q:List (V×V)->Hp->Prop),Inv X d b H s->FZ i b H Q->
  wpAny (model X.prog X.w) X.A (evalPairs (pairTrees a values X.env pos)) (λvs g=>∃c f,Inv X d b f g/\VV c vs/\Q c f) X.xe s
theorem QY:D3 X pos [] [] []:=λb s a H Q I h=>pairTrees_nil_walk ⟨[],H,I,.nil,h⟩
theorem S1{k v:Expr}{f:List (Option Expr)}{vs:List Expr}{tk d:TE}(z:PE X k tk)(r:PE X v d)(t:D3 X pos f vs i):
 D3 X pos (some k::f) (v::vs) ((tk,d)::i):=λc s a H Q I h=>
 pairTrees_cons_walk (aG (z c s a H _ I h) λu j ⟨x,F,B,m,p⟩=>aG (r c j a F _ B p) λJ g ⟨y,D,A,l,o⟩=>
  aG (t c g a D _ A o) λG K ⟨q,C,e,b,n⟩=>⟨(x,y)::q,C,e,.cons ⟨m,l⟩ b,n⟩)
def r9(kvs more:List (Key×V)):List (Key×V):=more.foldl (λa b=>putK a b.1 b.2) kvs
theorem KV.merge:∀{more:List (Key×V)}{rs:List (Key×Value)}{kvs:List (Key×V)}{vs:List (Key×Value)},KV more rs->KV kvs vs->KV (r9 kvs more) (merged vs rs):=by
 intro more rs kvs vs r;unfold KV at r;induction r generalizing kvs vs with
 |nil=>intro q;exact q
 | @cons p q c b h t ih=>
   intro a;have e:KV (putK kvs p.1 p.2) (stored vs q.1 q.2):=by
    have:=a.put p.1 h.2;rw[<-h.1];exact this
   exact ih e
theorem pL:∀(more kvs:List (Key×V)),(r9 kvs more).length<=kvs.length+more.length
 | [],kvs=>by show kvs.length<=kvs.length+0;lia
 |p::r,kvs=>by
  have b:=pL r (putK kvs p.1 p.2);have a:=rV kvs p.1 p.2;show(r9 (putK kvs p.1 p.2) r).length<=_;rw[aM];lia
theorem Mz{P:Program}{w:World}:∀{kvs:List (Key×V)}{d:List (Value×Value)},VV (kvs.map λf=>(kV f.1,f.2)) d->∃rs,Carries (j6 P w) d rs/\KV kvs rs
 | [],_,r=>by rw[aY]at r;cases r;exact⟨[],True.intro,.nil⟩
 |p::kvs,_,r=>by
  rw[aK]at r;cases r with
  | @cons a b k bs h t=>
    obtain⟨rs,c,q⟩:=Mz (P:=P) (w:=w) t;obtain⟨j,g⟩:=b
    exact⟨(p.1,g)::rs,⟨Av h.1,rfl,c⟩,.cons ⟨rfl,h.2⟩ q⟩
def wo(i:List (TE×TE)):TE:=λc H Q=>∀p,H p=none->FZ i c (upd H p (.dK [])) λd b=>b p=some (.dK [])/\∃kvs:List (Key×V),d=kvs.map (λa=>(kV a.1,a.2))/\kvs.length<=15/\Q (.ref p) (upd b p (.dK (r9 [] kvs)))
theorem QD{a:List (Option Expr)}{values:List Expr}(h:D3 X pos a values i)(o:a.all (·.isSome)=true)(x:a.length=values.length)(C:a≠[])
 (d:a.length<=15):PE X (.Dict a values pos) (wo i):=by
 intro G s j H Q I q;have v:=I.bz.fresh (bE s.heap.objs.size);have J:=I.laid (a:=s.heap.objs.size) (o:=.dK []) (h':=s.heap.push {cls:=.type "dict",data:=.dict #[]}) (t':=s.toks) (λ_ _ q=>Heap.get?_push_of_some _ q) (bE _) (Ld s.heap I.AN)
 refine wpAny_Dict_walk (knd:=j6 X.prog X.w) o x C d (aG (h G _ j _ _ J (q _ v)) λK L k=>?_)
 obtain⟨M,N,g,b,e,kvs,D,lk,n⟩:=k;subst D;obtain⟨rs,c,rk⟩:=Mz (P:=X.prog) (w:=X.w) b;obtain⟨z,A,l,m,F⟩:=DC g.bz e;cases m
 refine⟨rs,c,F,λh' f r=>⟨.ref s.heap.objs.size,_,?_,rfl,n⟩⟩
 have p:(r9 [] kvs).length<=sizeLine:=by
  have B:=pL kvs [];rw[aU]at B;rw[sizeLine_eq];lia
 have y:∃q,h'.get? s.heap.objs.size=some q:=let ⟨q,_,_,t,_⟩:=f;⟨q,t⟩
 exact xZ g (by rw[e];exact True.intro) r y (FY p A (rk.merge .nil) f)
structure M1(X:Cx)(o:Expr)(m:Str)(ao:Pos)(e:Expr)(ak:Pos):Prop where
 base:attributeBase o m X.env (eval o X.env)=eval o X.env
 sd:((backTo ak (starEach [e] X.env)).all (λx=> !x.1)&&(backToKw ak (keywordEach [] X.env)).all (λx=>x.1.isSome)
  &&decide (([e]:List Expr).length+([]:List Keyword).length+(if([]:List Keyword).isEmpty then 0 else 1)<30))=true
 line:(ao.endLine==ak.line)=true
 trees:backTo ak (starEach [e] X.env)=[(false,eval e X.env)]
structure M2(X:Cx)(o:Expr)(m:Str)(ao:Pos)(e f:Expr)(ak:Pos):Prop where
 base:attributeBase o m X.env (eval o X.env)=eval o X.env
 sd:((backTo ak (starEach [e,f] X.env)).all (λx=> !x.1)&&(backToKw ak (keywordEach [] X.env)).all (λx=>x.1.isSome)
  &&decide (([e,f]:List Expr).length+([]:List Keyword).length+(if([]:List Keyword).isEmpty then 0 else 1)<30))=true
 line:(ao.endLine==ak.line)=true
 trees:backTo ak (starEach [e,f] X.env)=[(false,eval e X.env),(false,eval f X.env)]
def CN(H:Hp)(a:Addr):Prop:=(∃kvs,Rd H a (.dK kvs))\/∃kvs,Rd H a (.dT kvs)
theorem IP{k:List (Addr×Obj)}{j:St}{H:Hp}{s:Shared}{a:Addr}(I:Inv X k j H s)(d:CN H a):
 s.TypeIs (.ref a) "dict"/\(∀b,Value.ref a=.ref b->∃ob,s.heap.get? b=some ob/\ob.dict=none)/\(a==sysModules)=false:=by
 rcases d with⟨kvs,e⟩| ⟨kvs,e⟩
 ·obtain⟨_,f,vs,_,c⟩:=yZ I.bz e
  refine⟨c.typeIs,λb q=>?_,f⟩
  cases q;obtain⟨ob,_,_,h,g,_⟩:=c
  exact⟨ob,h,g.2.1⟩
 ·obtain⟨_,f,xs,_,c⟩:=Ay I.bz e
  refine⟨c.typeIs,λb q=>?_,f⟩
  cases q;obtain⟨ob,_,_,h,g,_⟩:=c
  exact⟨ob,h,g.2.1⟩
section
variable {X:Cx}{c:List (Addr×Obj)}{f:St}{H:Hp}{s:Shared}{a:Addr}{y d:V}{u r:Value}{o:Option V}{A:Around}{E:Value->Shared->Prop}
theorem OH{Q:Value->Shared->Prop}(x:A.units+1<cLine)(I:Inv X c f H s)(g:tY H a y o)(v:RelV y u)(rd:RelV d r)(h:∀q t,Inv X c f H t->RelV (o.getD d) q->Q q t):
 wpAny (model X.prog X.w) A (call (.builtin "dict.get") [.ref a,u,r]) Q E s:=by
 rcases g with⟨kvs,k,e,p,l⟩| ⟨kvs,k,b,e,p,B,l⟩
 ·subst p;obtain⟨z,n,vs,j,m⟩:=yZ I.bz e
  refine call_meetsIn PySem.F.slot_dict_get m.typeIs PySem.F.entry_dict_get (PySem.F.args_dict_get_3 _ _ _) (meets_dict_get_default (j6 X.prog X.w) a (Av v) n r) ⟨_,m.mapOf,h _ _ (I.tok _) ?_⟩
  rw[l]
  exact(j.val k).getD rd
 ·subst p;cases (show u=Value.ref b from v);obtain⟨z,n,xs,j,m⟩:=Ay I.bz e
  refine call_meetsIn PySem.F.slot_dict_get m.typeIs PySem.F.entry_dict_get (PySem.F.args_dict_get_3 _ _ _) (meetsH_dict_get_default (tupleKind (j6 X.prog X.w)) a b n r) ⟨tupleKind_room_in1 x,k,xs,vJ I.bz B,m,h _ _ (I.tok _) ?_⟩
  rw[l]
  exact(j.val k).getD rd
end
noncomputable def qs(h f g:TE):TE:=λb H Q=>h b H λx d=>∃a,x=.ref a/\CN d a/\f b d λy j=>g b j λz c=>∃o,tY c a y o/\Q (o.getD z) c
section
variable {X:Cx}{o e f:Expr}{c j:Pos}{l n p:TE}
theorem Si(L:X.A.units+1<cLine)(M:PE X o l)(O:PE X e n)(N:PE X f p)(m:M2 X o "get" c e f j):PE X (.Call (.Attribute o "get" c) [e,f] [] j) (qs l n p):=by
 intro k s b H Q I h
 refine wpAny_Call_method m.base m.sd m.line PySem.F.plainAttrs_dict PySem.F.slot_dict_get PySem.F.type_dict_get (aG (M k s b H _ I h) λu B r=>?_)
 obtain⟨x,H1,q,F,a,ex,d,K⟩:=r;subst ex;obtain rfl:u=Value.ref a:=F;obtain⟨v,t,_⟩:=IP q d
 refine⟨v,t,?_⟩
 rw[m.trees]
 refine Calls.callWith_builtin rfl (Calls.evalArgs_plain (Calls.spliced_cons (aG (O k B b H1 _ q K) λiv A ⟨y,E,Y,D,J⟩=>
  Calls.spliced_cons (aG (N k A b E _ Y J) λfv s3 ⟨z,Z,U,C,ov,g,G⟩=>Calls.spliced_nil ?_))))
 exact OH L U g D C λw' s4 S R=>⟨_,Z,S,R,G⟩
end
section
variable {X:Cx}{c:List (Addr×Obj)}{d:St}{H:Hp}{s:Shared}{a:Addr}{kvs:List (Key×V)}{A:Around}{E:Value->Shared->Prop}
end
section
variable {X:Cx}{c:List (Addr×Obj)}{d:St}{H:Hp}{s:Shared}{a:Addr}{y:V}{u:Value}{A:Around}{E:Value->Shared->Prop}
end
end L2
namespace TL
open PySem L2
section
variable {a:Type}[DecidableEq a]{c:Type}
variable{ks:List a}
noncomputable def vl(l:List (a×c))(k:a):Option c:=(l.find? λb=>decide (b.1=k)).map (·.2)
noncomputable def mq(k:a)(ks:List a):List a:=if k∈ks then ks else ks++[k]
noncomputable def jj(k:a)(v:c)(ks:List a)(vs:List c):List c:=if k∈ks then(ks.zip vs).map λb=>if b.1=k then v else b.2 else vs++[v]
theorem Kf{k:a}:∀{ks:List a}{vs:List c},ks.length=vs.length->((ks.zip vs).any λb=>decide (b.1=k))=decide (k∈ks)
 | [],_,_=>rfl
 |_::_,[],h=>by cases h
 |x::ks,v::vs,h=>by
  rw[b6,aRO,Kf (by simpa using h)];by_cases e:x=k
  ·simp[e]
  ·simp[e,Ne.symm e]
theorem wJ{k:a}{v:c}:∀{ks:List a}{vs:List c},ks.length=vs.length->(ks.zip vs).map (λb=>if b.1=k then(b.1,v)else b)=ks.zip ((ks.zip vs).map λb=>if b.1=k then v else b.2)
 | [],_,_=>rfl
 |_::_,[],h=>by cases h
 |x::ks,w::vs,h=>by
  rw[b6,aK,aK,b6,wJ (by simpa using h)];dsimp only;split<;>rfl
theorem GS{k:a}{v:V}{vs:List V}(h:ks.length=vs.length):putK (ks.zip vs) k v=(mq k ks).zip (jj k v ks vs):=by
 unfold putK mq jj;rw[Kf h];by_cases e:k∈ks
 ·rw[if_pos (decide_eq_true e),if_pos e,if_pos e,wJ h]
 ·rw[if_neg (by simpa using e),if_neg e,if_neg e,List.zip_append h];rfl
theorem FR{k:a}{v:c}{vs:List c}(h:ks.length=vs.length):(mq k ks).length=(jj k v ks vs).length:=by
 unfold mq jj;split
 ·rw[aN,b7,<-h,aSQ]
 ·simp[h]
end
section
variable {K:aL}{M:Hp}{a:cx}{c:Type}[DecidableEq c]
theorem aw.vl{k:c}:∀{d:List c}{b:List T}{vs:List V},aw K M a b vs->∀{t:T},TL.vl (d.zip b) k=some t->∃v,vK (d.zip vs) k=some v/\RT K M a t v
 | [],_,_,_,_,e=>by cases e
 |_::_,[],_,_,_,e=>by cases e
 |x::d,u::b,vs,h,t,e=>by
  obtain⟨v,r,rfl,g,f⟩:=h.cons_inv;rw[b6];rw[b6]at e;unfold TL.vl at e;rw[cZ]at e;by_cases q:x=k
  ·rw[show decide ((x,u).1=k)=true from decide_eq_true q]at e;cases e
   exact⟨v,u7 q,g⟩
  ·rw[show decide ((x,u).1=k)=false from decide_eq_false q]at e;rw[sA (p:=(x,v)) q]
   exact aw.vl f e
theorem aw.D8{k:c}:∀{d:List c}{b:List T}{vs:List V},aw K M a b vs->TL.vl (d.zip b) k=none->vK (d.zip vs) k=none
 | [],_,_,_,_=>rfl
 |_::_,[],vs,h,_=>by rw[h.nil_inv];rfl
 |x::d,u::b,vs,h,e=>by
  obtain⟨v,r,rfl,g,f⟩:=h.cons_inv;rw[b6]at e|-;unfold TL.vl at e;rw[cZ]at e;by_cases q:x=k
  ·rw[show decide ((x,u).1=k)=true from decide_eq_true q]at e;cases e
  ·rw[show decide ((x,u).1=k)=false from decide_eq_false q]at e;rw[sA (p:=(x,v)) q]
   exact aw.D8 f e
theorem aw.jj{k:c}{t:T}{v:V}(f:RT K M a t v){ks:List c}{b:List T}{vs:List V}(h:aw K M a b vs):aw K M a (TL.jj k t ks b) (TL.jj k v ks vs):=by
 unfold TL.jj;split
 ·have:∀{ks:List c}{b:List T}{vs:List V},aw K M a b vs->aw K M a ((ks.zip b).map λd=>if d.1=k then t else d.2) ((ks.zip vs).map λd=>if d.1=k then v else d.2):=by
   intro ks;induction ks with
   |nil=>intro b vs _;exact .nil
   |cons x ks ih=>
    intro b vs h;cases b with
    |nil=>rw[h.nil_inv];exact .nil
    |cons u b=>
     obtain⟨w,r,rfl,i,g⟩:=h.cons_inv;rw[b6,b6,aK,aK]
     refine .cons ?_ (ih g)
     dsimp only;split
     ·exact f
     ·exact i
  exact this h
 ·exact h.append (.cons f .nil)
end
variable{c:Nat}{ks:List (List Key)}
noncomputable def Ac:T->Option Key
 | .int i=>some (.inl i)
 |_=>none
def De:List T->Option (List Key)
 | []=>some []
 |t::a=>(Ac t).bind λk=>(De a).map λks=>k::ks
def C7:T->Option (List Key)
 | .tup a=>De a
 |_=>none
noncomputable def sx(C:ab):T->Option (Nat×List Key×List T)
 | .cell c=>(C[c]?).bind λx=>match x.1 with
   | .dk ks=>some (c,ks,x.2)
   |_=>none
 |_=>none
noncomputable def AM(C:ab):T->Option (Nat×List (List Key)×List T)
 | .cell c=>(C[c]?).bind λx=>match x.1 with
   | .dt ks=>some (c,ks,x.2)
   |_=>none
 |_=>none
noncomputable def AL(C:ab):T->Option (Nat×List (List Key)×List T)
 | .cell c=>(C[c]?).bind λx=>match x.1 with
   | .dt ks=>some (c,ks,x.2)
   | .dz ks=>some (c,ks,x.2)
   |_=>none
 |_=>none
theorem LF{C:ab}{t:T}{ks:List Key}{ts:List T}(h:sx C t=some (c,ks,ts)):t=.cell c/\C[c]?=some (.dk ks,ts):=by
 unfold sx at h;split at h
 ·obtain⟨⟨k,a⟩,e,h⟩:=eV h;dsimp only at h;split at h
  ·cases h;exact⟨rfl,e⟩
  ·cases h
 ·cases h
theorem T1{C:ab}{t:T}{a:List T}(h:AM C t=some (c,ks,a)):t=.cell c/\C[c]?=some (.dt ks,a):=by
 unfold AM at h;split at h
 ·obtain⟨⟨k,b⟩,e,h⟩:=eV h;dsimp only at h;split at h
  ·cases h;exact⟨rfl,e⟩
  ·cases h
 ·cases h
theorem S5{C:ab}{t:T}{a:List T}(h:AL C t=some (c,ks,a)):t=.cell c/\(C[c]?=some (.dt ks,a)\/C[c]?=some (.dz ks,a)):=by
 unfold AL at h;split at h
 ·obtain⟨⟨k,b⟩,e,h⟩:=eV h;dsimp only at h;split at h
  ·cases h;exact⟨rfl,.inl e⟩
  ·cases h;exact⟨rfl,.inr e⟩
  ·cases h
 ·cases h
section
variable {K:aL}{W:XW}{f:St}{H:Hp}{Q:VK}{D:Ends}{M:Hp}{d:cx}
variable{l s m:FE}{n tk:T}
theorem DW{t:T}{v:V}{k:Key}(h:RT K M d t v)(e:Ac t=some k):v=kV k:=by
 unfold Ac at e;split at e
 ·cases e;exact h.int_inv
 ·cases e
theorem JH:∀{a:List T}{vs:List V}{ks:List Key},aw K M d a vs->De a=some ks->vs=ks.map kV
 | [],_,_,h,e=>by cases e;exact h.nil_inv
 |t::a,vs,ks,h,e=>by
  obtain⟨v,r,rfl,i,g⟩:=h.cons_inv;unfold De at e;obtain⟨k,o,e⟩:=eV e;obtain⟨b,j,e⟩:=eZ e;cases e;rw[DW i o,JH g j];rfl
theorem IQ{Z:Addr->Prop}{t:T}{v:V}{k:List Key}(h:RT K (mask H Z d) d t v)(e:C7 t=some k):∃b,v=.ref b/\H b=some (.tup (k.map kV)):=by
 unfold C7 at e;split at e
 ·unfold RT at h;obtain⟨a,vs,g,q,r⟩:=h
  exact⟨a,g,by rw[(jX q).2.2,JH r e]⟩
 ·cases e
theorem Rel.dk{b:Hp}{Z:Addr->Prop}{i:aD}{C:ab}{t:T}{v:V}{c:Nat}{ks:List Key}{ts:List T}(R:Rel K b Z d i C f H)(h:RT K (mask H Z d) d t v)(e:sx C t=some (c,ks,ts)):
 ∃a vs,v=.ref a/\d[c]?=some a/\ks.length=vs.length/\H a=some (.dK (ks.zip vs))/\aw K (mask H Z d) d ts vs:=by
 obtain⟨rfl,u⟩:=LF e;unfold RT at h;obtain⟨a,r,q⟩:=h;obtain⟨x,vs,ob,g,p,o,k⟩:=R.jg c a q;rw[u]at g;cases g;obtain⟨j,rfl⟩:=o
 exact⟨a,vs,r,q,j,p,k⟩
theorem Rel.dt{b:Hp}{Z:Addr->Prop}{i:aD}{C:ab}{t:T}{v:V}{c:Nat}{ks:List (List Key)}{ts:List T}(R:Rel K b Z d i C f H)(h:RT K (mask H Z d) d t v)(e:AM C t=some (c,ks,ts)):
 ∃a vs,v=.ref a/\d[c]?=some a/\ks.length=vs.length/\H a=some (.dT (ks.zip vs))/\aw K (mask H Z d) d ts vs:=by
 obtain⟨rfl,u⟩:=T1 e;unfold RT at h;obtain⟨a,r,q⟩:=h;obtain⟨x,vs,ob,g,p,o,k⟩:=R.jg c a q;rw[u]at g;cases g;obtain⟨j,rfl⟩:=o
 exact⟨a,vs,r,q,j,p,k⟩
theorem Rel.dz{g:Hp}{Z:Addr->Prop}{y:aD}{C:ab}{t:T}{v:V}{c:Nat}{ks:List (List Key)}{k:List T}(R:Rel K g Z d y C f H)(h:RT K (mask H Z d) d t v)(e:AL C t=some (c,ks,k)):
 ∃a vs,v=.ref a/\d[c]?=some a/\ks.length=vs.length/\Rd H a (.dT (ks.zip vs))/\aw K (mask H Z d) d k vs:=by
 obtain⟨rfl,b⟩:=S5 e;unfold RT at h;obtain⟨a,w,q⟩:=h;obtain⟨x,vs,ob,i,u,r,p⟩:=R.jg c a q;rcases b with b|b
 ·rw[b]at i;cases i;obtain⟨j,rfl⟩:=r
  exact⟨a,vs,w,q,j,.inl u,p⟩
 ·rw[b]at i;cases i;obtain⟨j,o,rfl⟩:=r
  exact⟨a,vs,w,q,j,.inr ⟨o,u⟩,p⟩
noncomputable def wZ(kd:Kd):FE:=λ_ C=>some (.cell C.length,C++[(kd,[])])
theorem RZ(h:bu K (wZ (.dk [])) f H Q):qp f H Q:=by
 obtain⟨a,Z,d,o,C,t,q,R,e,k⟩:=h;cases e;intro p i;obtain⟨j,b,g⟩:=R.fq (kd:=.dk []) (ts:=[]) (vs:=[]) (ob:=.dK []) i ⟨rfl,rfl⟩ .nil
 exact k _ _ _ j g b
theorem SJ(h:bu K (wZ (.dt [])) f H Q):qo f H Q:=by
 obtain⟨a,Z,d,o,C,t,q,R,e,k⟩:=h;cases e;intro p i;obtain⟨j,b,g⟩:=R.fq (kd:=.dt []) (ts:=[]) (vs:=[]) (ob:=.dT []) i ⟨rfl,rfl⟩ .nil
 exact k _ _ _ j g b
def vW(l s:FE):FE:=λa C=>(l a (C++[(.dk [],[])])).bind λp=>(s a p.2).bind λq=>(Ac p.1).bind λk=>match sx q.2 (.cell C.length)with
 |some (_,[],[])=>some (.cell C.length,q.2.set C.length (.dk [k],[q.1]))
 |_=>none
theorem RP(h:bu K (vW l s) f H Q):wo [(bu K l,bu K s)] f H Q:=by
 obtain⟨b,Z,d,j,C,t,C',R,e,k⟩:=h;intro p O;unfold vW at e;obtain⟨⟨I,B⟩,E,e⟩:=eV e;obtain⟨⟨r,C2⟩,A,e⟩:=eV e;obtain⟨g,Y,e⟩:=eV e;dsimp only at A e;split at e
 ·rename_i z;cases e;obtain⟨R1,J,L⟩:=R.fq (kd:=.dk []) (ts:=[]) (vs:=[]) (ob:=.dK []) O ⟨rfl,rfl⟩ .nil
  refine⟨b,Z,_,j,_,I,B,R1,E,λx H1 af G S v=>?_⟩
  refine⟨b,Z,af,j,B,r,C2,G,A,λy H2 au R2 P u=>?_⟩
  have w:=(L.step v).step u;obtain⟨a,vs,U,q,hl,i,N⟩:=R2.dk w z;have X:=(LF z).1;cases X;cases U;rw[N.nil_inv]at i
  refine⟨i,[(g,y)],by rw[DW S Y];rfl,by simp,?_⟩
  obtain⟨F,o⟩:=R2.put (kd:=.dk [g]) (ts:=[r]) (vs:=[y]) (ob:=.dK [(g,y)]) q (by rw[i];trivial) ⟨rfl,rfl⟩ (.cons P .nil)
  exact k _ _ au F (w.step o) (((J.trans v).trans u).trans o)
 ·cases e
def eM(C:ab)(n tk:T):Option (Option T):=match sx C n with
 |some x=>(Ac tk).map λk=>vl (x.2.1.zip x.2.2) k
 |none=>(AL C n).bind λx=>(C7 tk).map λk=>vl (x.2.1.zip x.2.2) k
theorem Rel.eM{i:Hp}{Z:Addr->Prop}{B:aD}{C:ab}{x y:V}{o:Option T}(R:Rel K i Z d B C f H)(A:RT K (mask H Z d) d n x)(u:RT K (mask H Z d) d tk y)(e:TL.eM C n tk=some o):
 ∃a w,x=.ref a/\CN H a/\tY H a y w/\match o with
  |some t=>∃v,w=some v/\RT K (mask H Z d) d t v
  |none=>w=none:=by
 unfold TL.eM at e;split at e
 ·rename_i z j;obtain⟨c,ks,F⟩:=z;obtain⟨k,r,e⟩:=eZ e;obtain⟨a,vs,p,q,G,h,g⟩:=R.dk A j
  refine⟨a,_,p,.inl ⟨_,.inl h⟩,by rw[DW u r];exact tY.k h,?_⟩
  cases o with
  |some t=>exact g.vl e
  |none=>exact g.D8 e
 ·obtain⟨⟨c,ks,F⟩,j,e⟩:=eV e;obtain⟨k,r,e⟩:=eZ e;obtain⟨a,vs,p,q,G,h,g⟩:=R.dz A j;obtain⟨b,J,I⟩:=IQ u r
  refine⟨a,_,p,.inr ⟨_,h⟩,.inr ⟨_,k,b,h,J,I,rfl⟩,?_⟩
  cases o with
  |some t=>exact g.vl e
  |none=>exact g.D8 e
def Dr(n tk:T)(C:ab):Option (T×ab):=match eM C n tk with
 |some (some t)=>some (t,C)
 |_=>none
abbrev A7(m l:FE):FE:=j3 m l Dr
theorem Qg(h:bu K (A7 m l) f H Q):wz (bu K m) (bu K l) f H Q:=by
 refine jT (Dv h) λx J q=>jT q λy B q=>?_
 obtain⟨I,G,b,Z,d,F,C,t,L,R,r,e,k⟩:=q;obtain⟨_,_,z,o,r⟩:=r.cons_inv;cases z;obtain⟨_,_,z,j,r⟩:=r.cons_inv;cases z;unfold Dr at e;split at e
 ·rename_i u p;cases e;obtain⟨a,w,ex,_,g,v,A,i⟩:=R.eM o j p;subst A
  exact⟨a,v,ex,g,k v B d R i .refl⟩
 ·cases e
def zM(b:Bool)(tk n:T)(C:ab):Option (T×ab):=(eM C n tk).map λo=>(.bl (o.isSome==b),C)
theorem HQ{x y:V}{h:Hp}(b:Bool)(q:∃j i,h9 K f [j,i] [y,x] (zM b j i) h Q):∃a o,x=.ref a/\tY h a y o/\Q (.bl (o.isSome==b)) h:=by
 obtain⟨j,i,u,Z,d,I,C,t,L,R,r,e,k⟩:=q;obtain⟨_,_,z,B,r⟩:=r.cons_inv;cases z;obtain⟨_,_,z,A,r⟩:=r.cons_inv;cases z;unfold zM at e;obtain⟨o,G,e⟩:=eZ e;cases e;obtain⟨a,w,ex,_,g,p⟩:=R.eM A B G
 refine⟨a,w,ex,g,?_⟩
 cases o with
 |some t=>obtain⟨v,F,J⟩:=p;subst F;exact k _ h d R .bl .refl
 |none=>subst p;exact k _ h d R .bl .refl
theorem NB(h:bu K (j3 l m (zM true)) f H Q):Bx (bu K l) (bu K m) f H Q:=by
 refine jT (Dv h) λx i q=>jT q λy b q=>?_
 obtain⟨a,o,ex,g,q⟩:=HQ true q
 exact⟨a,o,ex,g,by cases o<;>exact q⟩
theorem PJ(h:bu K (j3 l m (zM false)) f H Q):nu (bu K l) (bu K m) f H Q:=by
 refine jT (Dv h) λx i q=>jT q λy b q=>?_
 obtain⟨a,o,ex,g,q⟩:=HQ false q
 exact⟨a,o,ex,g,by cases o<;>exact q⟩
def ic(C:ab)(t:T):Bool:=(sx C t).isSome||(AL C t).isSome
theorem Rel.ic{b:Hp}{Z:Addr->Prop}{j:aD}{C:ab}{t:T}{v:V}(R:Rel K b Z d j C f H)(h:RT K (mask H Z d) d t v)(e:TL.ic C t=true):∃a,v=.ref a/\CN H a:=by
 unfold TL.ic at e;rcases Bool.or_eq_true_iff.mp e with e|e
 ·obtain⟨⟨c,ks,k⟩,e⟩:=iR e;obtain⟨a,vs,i,q,p,g,o⟩:=R.dk h e
  exact⟨a,i,.inl ⟨_,.inl g⟩⟩
 ·obtain⟨⟨c,ks,k⟩,e⟩:=iR e;obtain⟨a,vs,i,q,p,g,o⟩:=R.dz h e
  exact⟨a,i,.inr ⟨_,g⟩⟩
def vF(m l b:FE):FE:=λa C=>(m a C).bind λp=>if ic p.2 p.1=true then(l a p.2).bind λq=>(b a q.2).bind λr=>(eM r.2 p.1 q.1).map λo=>(o.getD r.1,r.2)else none
theorem Ss{F:FE}(h:bu K (vF m l F) f H Q):qs (bu K m) (bu K l) (bu K F) f H Q:=by
 obtain⟨b,Z,d,j,C,t,C',R,e,k⟩:=h;unfold vF at e;obtain⟨⟨Y,S⟩,e1,e⟩:=eV e;dsimp only at e;split at e
 ·rename_i hd;obtain⟨⟨X,P⟩,e2,e⟩:=eV e;obtain⟨⟨U,C3⟩,J,e⟩:=eV e;obtain⟨o,I,e⟩:=eZ e;cases e;dsimp only at J I
  refine⟨b,Z,d,j,C,Y,S,R,e1,λx H1 af N B r=>?_⟩
  obtain⟨a,G,hD⟩:=N.ic B hd
  refine⟨a,G,hD,?_⟩
  refine⟨b,Z,af,j,S,X,P,N,e2,λy H2 au R2 h2 p=>?_⟩
  refine⟨b,Z,au,j,P,U,C3,R2,J,λz O L q h3 i=>?_⟩
  obtain⟨a',w,ex,_,g,A⟩:=q.eM ((B.step p).step i) (h2.step i) I;rw[G]at ex;cases ex
  refine⟨w,g,?_⟩
  cases o with
  |some u=>obtain⟨v,ew,E⟩:=A;subst ew;exact k _ O L q E ((r.trans p).trans i)
  |none=>subst A;exact k _ O L q h3 ((r.trans p).trans i)
 ·cases e
def dput(C:ab)(n tk a:T):Option ab:=match sx C n with
 |some x=>(Ac tk).bind λk=>if x.2.1.length<lim then some (C.set x.1 (.dk (mq k x.2.1),jj k a x.2.1 x.2.2))else none
 |none=>(AM C n).bind λx=>(C7 tk).bind λk=>if x.2.1.length<lim then some (C.set x.1 (.dt (mq k x.2.1),jj k a x.2.1 x.2.2))else none
theorem Rel.dput(S:lim<=sizeLine){g:Hp}{Z:Addr->Prop}{A:aD}{C J:ab}{B:T}{x y v:V}(R:Rel K g Z d A C f H)(I:RT K (mask H Z d) d n x)(G:RT K (mask H Z d) d tk y)(F:RT K (mask H Z d) d B v)(e:TL.dput C n tk B=some J):
 ∃a w,x=.ref a/\tz H a y v w/\Rel K g Z d A J f w/\Step H w d d:=by
 unfold TL.dput at e;split at e
 ·rename_i z j;obtain⟨c,ks,L⟩:=z;obtain⟨k,u,e⟩:=eV e;dsimp only at e;split at e
  ·rename_i O;cases e;obtain⟨a,vs,t,q,h,i,r⟩:=R.dk I j;obtain⟨p,o⟩:=R.put (kd:=.dk (mq k ks)) (ob:=.dK ((mq k ks).zip (jj k v ks vs))) q (by rw[i];trivial) ⟨FR h,rfl⟩ (r.jj (k:=k) (ks:=ks) F)
   refine⟨a,_,t,?_,p,o⟩
   rw[DW G u,<-GS h]
   exact tz.k i (by rw[b7];lia)
  ·cases e
 ·obtain⟨⟨c,ks,L⟩,j,e⟩:=eV e;obtain⟨k,u,e⟩:=eV e;dsimp only at e;split at e
  ·rename_i O;cases e;obtain⟨a,vs,t,q,h,i,r⟩:=R.dt I j;obtain⟨p,o⟩:=R.put (kd:=.dt (mq k ks)) (ob:=.dT ((mq k ks).zip (jj k v ks vs))) q (by rw[i];trivial) ⟨FR h,rfl⟩ (r.jj (k:=k) (ks:=ks) F);obtain⟨b,P,N⟩:=IQ G u
   refine⟨a,_,t,?_,p,o⟩
   rw[P,<-GS h]
   exact tz.t i N (by rw[b7];lia)
  ·cases e
def yY(m l s:FE):FS:=λa C=>(s a C).bind λp=>(m a p.2).bind λq=>(l a q.2).bind λr=>(dput r.2 q.1 r.1 p.1).map λb=>(.nx,a,b)
theorem Qi(I:lim<=sizeLine)(h:eH K W (yY m l s) D f H):xn (bu K m) (bu K l) (bu K s) D f H:=by
 obtain⟨b,Z,d,i,C,fl,ah,C',R,e,k⟩:=h;unfold yY at e;obtain⟨⟨B,w⟩,O,e⟩:=eV e;obtain⟨⟨A,u⟩,r,e⟩:=eV e;obtain⟨⟨z,C3⟩,q,e⟩:=eV e;obtain⟨C4,p,e⟩:=eZ e;cases e;dsimp only at r q p
 refine⟨b,Z,d,i,C,B,w,R,O,λv H1 U E N G=>?_⟩
 refine⟨b,Z,U,i,w,A,u,E,r,λx H2 S R2 L o=>?_⟩
 refine⟨b,Z,S,i,u,z,C3,R2,q,λy H3 P Y J j=>?_⟩
 obtain⟨a,t,ex,g,X,F⟩:=Y.dput I (L.step j) J ((N.step o).step j) p
 exact⟨a,t,ex,g,k f t P X (((G.trans o).trans j).trans F)⟩
def A8(g:Int->Int->Int)(m l s:FE):FS:=λa C=>(m a C).bind λp=>(l a p.2).bind λq=>match eM q.2 p.1 q.1 with
 |some (some (.int i))=>(s a q.2).bind λr=>match r.1 with
  | .int j=>(dput r.2 p.1 q.1 (.int (g i j))).map λb=>(.nx,a,b)
  |_=>none
 |_=>none
theorem PL(S:lim<=sizeLine){g:Int->Int->Int}{rd:V->V->Hp->VK->Prop}(I:∀i j H Q,Q (.int (g i j)) H->rd (.int i) (.int j) H Q)(h:eH K W (A8 g m l s) D f H):xo (bu K m) (bu K l) (bu K s) rd D f H:=by
 obtain⟨b,Z,d,p,C,fl,ah,C',R,e,k⟩:=h;unfold A8 at e;obtain⟨⟨L,G⟩,e1,e⟩:=eV e;obtain⟨⟨J,F⟩,A,e⟩:=eV e;dsimp only at A e;split at e
 ·rename_i i U;obtain⟨⟨t3,C3⟩,e3,e⟩:=eV e;dsimp only at e;split at e
  ·rename_i j;obtain⟨C4,e4,e⟩:=eZ e;cases e
   refine⟨b,Z,d,p,C,L,G,R,e1,λx H1 af R1 u O=>?_⟩
   refine⟨b,Z,af,p,G,J,F,R1,A,λy H2 au R2 t r=>?_⟩
   obtain⟨a,w,ex,_,Y,v,ew,P⟩:=R2.eM (u.step r) t U;subst ew
   refine⟨a,v,ex,Y,?_⟩
   refine⟨b,Z,au,p,F,_,C3,R2,e3,λz H3 ba R3 X q=>?_⟩
   rw[P.int_inv,X.int_inv]
   refine I i j H3 _ ?_
   obtain⟨a',B,o,E,R4,N⟩:=R3.dput S ((u.step r).step q) (t.step q) (v:=.int (g i j)) (.int) e4;rw[ex]at o;cases o
   exact⟨B,E,k f B ba R4 (((O.trans r).trans q).trans N)⟩
  ·cases e
 ·cases e
end
noncomputable def od{a:Type}:List a->List a
 |_::y::r=>y::od r
 |_=>[]
def A1(f:FE):FN:=λa C=>(f a C).bind λp=>(du p.2 p.1).map λb=>(od b,p.2)
section
variable {K:aL}{W:XW}{d:St}{H:Hp}{Q:VK}{D:Ends}{M:Hp}{j:cx}
variable{m:Hp}{s:cx}
theorem aw.od:∀{a:List T}{vs:List V},aw K M j a vs->aw K M j (TL.od a) (TL.od vs)
 | [],_,h=>by rw[h.nil_inv];exact .nil
 | [t],vs,h=>by
   obtain⟨v,r,rfl,_,b⟩:=h.cons_inv;rw[b.nil_inv];exact .nil
 |t::u::a,vs,h=>by
  obtain⟨v,r,rfl,_,b⟩:=h.cons_inv;obtain⟨w,r,rfl,g,f⟩:=b.cons_inv;unfold TL.od
  exact .cons g (aw.od f)
theorem Ov{f:FE}(h:ke K (A1 f) d H Q):bu K f d H λx m=>∃a xs,x=.ref a/\di K m a xs/\∀p,m p=none->Q (.ref p) (upd m p (.lst (od xs))):=by
 obtain⟨b,Z,j,i,C,z,F,R,e,q⟩:=h;unfold A1 at e;obtain⟨⟨t,B⟩,y,e⟩:=eV e;obtain⟨A,w,e⟩:=eZ e;cases e
 refine⟨b,Z,j,i,C,t,_,R,y,λv m s g o k=>?_⟩
 obtain⟨a,vs,u,l,r⟩:=g.li o w
 exact⟨a,vs,u,l,λp n=>q p m s _ g n r.od k⟩
def G9(K:aL)(l:Addr):It:=
 ⟨λi H=>∃xs x,di K H l xs/\xs[i]?=some x,λi H v a=>∃p x,H p=none/\v=.ref p/\a=upd H p (.tup [.int i,x])/\∀xs,di K H l xs->xs[i]?=some x,λi H=>∃xs,di K H l xs/\xs.length<=i⟩
def E6(K:aL)(t:TA):TI:=λd H R=>t d H λvs m=>∃l,vs=[.ref l]/\(∃xs,di K m l xs)/\R (G9 K l) m
noncomputable def vU(a:List T):List T:=a.zipIdx.map λp=>.tup [.int p.2,p.1]
theorem TF{a:List T}{i:Nat}:(vU a)[i]?=(a[i]?).map λt=>.tup [.int i,t]:=by
 unfold vU;rw[bA,dW];cases a[i]?<;>simp
theorem LD{a:List T}:(vU a).length=a.length:=by simp[vU]
theorem LI{Z:Addr->Prop}{f:Hp}{I:aD}{C:ab}{d:L2.St}{t:T}{n:List T}{a:Addr}(G:Rel K f Z s I C d m)(B:RT K (mask m Z s) s t (.ref a))(F:du C t=some n):
 AE K (G9 K a) Z m s (vU n) (stays t n):=by
 refine⟨λi Y f U S R X d H e l sm q r _=>?_,λf U S R X d H l sm q r _=>?_⟩
 ·obtain⟨g,k,o⟩:=nJ G B F l sm q r;rw[TF]at e;obtain⟨u,J,rfl⟩:=eZ e;obtain⟨N,w,L⟩:=o.get J
  refine⟨⟨g,N,k,w⟩,λx E P=>?_⟩
  obtain⟨p,y,A,rfl,rfl,O⟩:=P;have v:=O g k;rw[w]at v;cases v
  exact⟨λb u h=>by rw[gH (λz=>by rw[z,A]at h;cases h)];exact h,l.hL A (.cons .int (.cons L .nil))⟩
 ·obtain⟨g,k,o⟩:=nJ G B F l sm q r
  exact⟨g,k,by rw[o.length,LD];exact bE _⟩
def zS(f:FE)(g:FG)(F:FS):FS:=λa C=>(f a C).bind λp=>(du p.2 p.1).bind λb=>lH (stays p.1 b) g F (vU b) a p.2
theorem PM{f:FE}{g:FG}{F:FS}(h:eH K W (zS f g F) D d H):Ce (E6 K (ia K (fB f fP))) (ly K g) (eH K W F) D d H:=by
 obtain⟨b,Z,j,o,C,O,P,S,R,e,k⟩:=h;unfold zS at e;obtain⟨⟨t,J⟩,z,e⟩:=eV e;obtain⟨L,i,e⟩:=eV e
 refine⟨b,Z,j,o,C,[t],J,R,by simp[fB,fP,z],λvs m s l x p=>?_⟩
 obtain⟨v,r,rfl,n,w⟩:=x.cons_inv;rw[w.nil_inv];obtain⟨a,vs,y,u,N⟩:=l.li n i;subst y
 exact⟨a,rfl,⟨vs,u⟩,yG l (pU i) e (LI l n i) λA I B G q=>k A I B G (p.trans q)⟩
def vE(f:FE)(k:Nat)(is:List Nat)(g:FG)(h:FB)(i:FE):FN:=λa C=>(f a C).bind λp=>(du p.2 p.1).bind λb=>if(vU b).length<lim then kD g h i (fw k is a) (vU b) p.2 else none
theorem RI{f:FE}{k:Nat}{is:List Nat}{g:FG}{n:FB}{u:FE}(I:kv k g)(h:ke K (vE f k is g n u) d H Q):zP (E6 K (ia K (fB f fP))) (mn k is) (ly K g) (jf K n) (bu K u) d H Q:=by
 obtain⟨b,Z,j,w,C,Y,C',R,e,q⟩:=h;unfold vE at e;obtain⟨⟨t,X⟩,O,e⟩:=eV e;obtain⟨E,i,e⟩:=eV e;split at e
 ·rename_i G
  refine⟨b,Z,j,w,C,[t],X,R,by simp[fB,fP,O],λvs m s l L x=>?_⟩
  obtain⟨v,r,rfl,o,B⟩:=L.cons_inv;rw[B.nil_inv];obtain⟨a,vs,N,A,ra⟩:=l.li o i;subst N
  exact⟨a,rfl,⟨vs,A⟩,λD J=>sD l I (LI l o i) (pU i) sT G e J λp U P vs S F z y=>q p U P vs S F z (x.trans y)⟩
 ·cases e
def dd{a:Type}:List Key->List a->List Key×List a->List Key×List a
 |k::ks,v::vs,x=>dd ks vs (mq k x.1,jj k v x.1 x.2)
 |_,_,x=>x
theorem Ku:∀{ks':List Key}{vs':List V}{ks:List Key}{vs:List V},ks.length=vs.length->ks'.length=vs'.length->
 r9 (ks.zip vs) (ks'.zip vs')=(dd ks' vs' (ks,vs)).1.zip (dd ks' vs' (ks,vs)).2/\(dd ks' vs' (ks,vs)).1.length=(dd ks' vs' (ks,vs)).2.length
 | [],_,ks,vs,h,_=>by unfold dd;exact⟨rfl,h⟩
 |_::_,[],ks,vs,h,a=>by cases a
 |k::ks',v::vs',ks,vs,h,a=>by
  rw[b6];show r9 (putK (ks.zip vs) k v) (ks'.zip vs')=_/\_;rw[GS h];unfold dd
  exact Ku (FR h) (by simpa using a)
theorem aw.dd:∀{ks':List Key}{b:List T}{vs':List V}{ks:List Key}{a:List T}{vs:List V},aw K M j b vs'->aw K M j a vs->(TL.dd ks' b (ks,a)).1=(TL.dd ks' vs' (ks,vs)).1/\aw K M j (TL.dd ks' b (ks,a)).2 (TL.dd ks' vs' (ks,vs)).2
 | [],_,_,ks,a,vs,_,h=>by unfold TL.dd;exact⟨rfl,h⟩
 |_::_,[],vs',ks,a,vs,f,h=>by rw[f.nil_inv];unfold TL.dd;exact⟨rfl,h⟩
 |k::ks',t::b,vs',ks,a,vs,f,h=>by
  obtain⟨v,r,rfl,i,g⟩:=f.cons_inv;unfold TL.dd
  exact aw.dd g (h.jj (k:=k) (ks:=ks) i)
def wq(i h:TE):TE:=λd H Q=>i d H λx m=>∃a,x=.ref a/\CN m a/\h d m λy g=>∃b f more,y=.ref b/\a≠b/\g a=some (.dK f)/\g b=some (.dK more)/\f.length+more.length<=sizeLine/\Q .aH (upd g a (.dK (r9 f more)))
def zQ(f b:FE):FE:=λa C=>(f a C).bind λp=>if ic p.2 p.1=true then(b a p.2).bind λq=>(sx q.2 p.1).bind λx=>(sx q.2 q.1).bind λy=>if x.1≠y.1/\x.2.1.length+y.2.1.length<=lim then
 some (.aH,q.2.set x.1 (.dk (dd y.2.1 y.2.2 (x.2.1,x.2.2)).1,(dd y.2.1 y.2.2 (x.2.1,x.2.2)).2))else none else none
theorem O2(hz:lim<=sizeLine){r p:FE}(h:bu K (zQ r p) d H Q):wq (bu K r) (bu K p) d H Q:=by
 obtain⟨f,Z,j,g,C,t,C',R,e,k⟩:=h;unfold zQ at e;obtain⟨⟨X,F⟩,e1,e⟩:=eV e;dsimp only at e;split at e
 ·rename_i hd;obtain⟨⟨U,C2⟩,e2,e⟩:=eV e;obtain⟨⟨c,ks,S⟩,A,e⟩:=eV e;obtain⟨⟨c',ks',cn⟩,w,e⟩:=eV e;dsimp only at A w e;split at e
  ·rename_i hl;cases e
   refine⟨f,Z,j,g,C,X,F,R,e1,λx m s B o Y=>?_⟩
   obtain⟨a,v,hD⟩:=B.ic o hd
   refine⟨a,v,hD,?_⟩
   refine⟨f,Z,s,g,F,U,C2,B,e2,λy H2 au R2 h2 l=>?_⟩
   obtain⟨a',vs,u,q,mh,n,hr⟩:=R2.dk (o.step l) A;rw[v]at u;cases u;obtain⟨b,vs',gx,E,nl,N,L⟩:=R2.dk h2 w;have mm:a≠b:=λz=>by
    subst z;obtain⟨i1,j1⟩:=fA q;obtain⟨i2,j2⟩:=fA E
    exact hl.1 ((aSd R2.nd).mp (j1.trans j2.symm))
   refine⟨b,_,_,gx,mm,n,N,by rw[b7,b7];lia,?_⟩
   obtain⟨J,I⟩:=Ku (ks':=ks') (vs':=vs') mh nl;obtain⟨i,G⟩:=aw.dd (ks':=ks') (ks:=ks) L hr;rw[J];obtain⟨P,O⟩:=R2.put (kd:=.dk (dd ks' cn (ks,S)).1) (ob:=.dK ((dd ks' vs' (ks,vs)).1.zip (dd ks' vs' (ks,vs)).2)) q (by rw[n];trivial) ⟨by rw[i];exact I,by rw[i]⟩ G
   exact k _ _ au P .aH ((Y.trans l).trans O)
  ·cases e
 ·cases e
def Ha(a:Addr)(ob:Obj)(f:List (List Key×V)):It:=
 ⟨λi H=>H a=some (.fo ob (.dT f))/\i<f.length,λi H x g=>g=H/\∃b k v,x=.ref b/\f[i]?=some (k,v)/\H b=some (.tup (k.map kV)),λi H=>H a=some (.fo ob (.dT f))/\f.length<=i⟩
def x5(B:Addr->Prop)(t:TE):TI:=λd H R=>t d H λx m=>∃a kvs,x=.ref a/\m a=some (.dT kvs)/\(B a->∀ob,R (Ha a ob kvs) (upd m a (.fo ob (.dT kvs))))
def Ed(B:Addr->Prop)(t:(VK->Prop))(Q:VK):Prop:=t λv H=>∃a ob u,B a/\H a=some (.fo ob u)/\Q v (upd H a u)
def kT:Key->T
 | .inl i=>.int i
 | .inr x=>.str x
def Cc(k:List Key):T:=.tup (k.map kT)
theorem Oj{k:Key}:RT K M j (kT k) (kV k):=by cases k<;>(unfold kT RT;rfl)
theorem I0:∀{k:List Key},aw K M j (k.map kT) (k.map kV)
 | []=>.nil
 |k::ks=>.cons Oj I0
theorem Ta{Z:Addr->Prop}{a:Addr}{ob:Obj}{ks:List (List Key)}{vs:List V}(G:ks.length=vs.length)(r:m a=some (.fo ob (.dT (ks.zip vs)))):AE K (Ha a ob (ks.zip vs)) Z m s (ks.map Cc) (λ_=>True):=by
 have o:(ks.zip vs).length=ks.length:=by rw[b7];lia
 refine⟨λi C f A e y B d H p l sm t w fz=>?_,λf A e y B d H l sm t w fz=>?_⟩
 ·rw[bA]at p;obtain⟨k,q,rfl⟩:=eZ p
  refine⟨⟨fz _ _ _ r,by rw[o];exact(fA q).1⟩,λx I u=>?_⟩
  obtain⟨rfl,b,F,v,rfl,g,h⟩:=u;obtain⟨n,_⟩:=dS.mp g;rw[q]at n;cases n
  refine⟨.refl _,?_⟩
  unfold Cc RT
  refine⟨b,_,rfl,nQ (λz=>?_) (λz=>?_) h,I0⟩
  ·have:=l.zd b z;rw[h]at this;exact this
  ·have:=l.gv z;rw[h]at this;exact this
 ·exact⟨fz _ _ _ r,by rw[aN,o];exact bE _⟩
def v6(f:FE)(k:Nat)(is:List Nat)(g:FG)(h:FB)(i:FE):FN:=λa C=>(f a C).bind λp=>(AM p.2 p.1).bind λx=>if x.2.1.length<lim/\x.2.1.length=x.2.2.length then
 (kD g h i (fw k is a) (x.2.1.map Cc) (p.2.set x.1 (.dz x.2.1,x.2.2))).bind λr=>match r.2[x.1]?with
  |some (.dz ks,b)=>some (r.1,r.2.set x.1 (.dt ks,b))
  |_=>none else none
theorem Sy{f:FE}{k:Nat}{is:List Nat}{g:FG}{S:FB}{X:FE}{B:Addr->Prop}(hg:kv k g)(h:ke K (v6 f k is g S X) d H Q):Ed B (zP (x5 B (bu K f)) (mn k is) (ly K g) (jf K S) (bu K X) d H) Q:=by
 obtain⟨F,Z,j,τ,C,ys,C',R,e,q⟩:=h;unfold v6 at e;obtain⟨⟨t,C1⟩,e1,e⟩:=eV e;obtain⟨⟨c,ks,ts⟩,Y,e⟩:=eV e;dsimp only at Y e;split at e
 ·rename_i hl;obtain⟨⟨zs,C2⟩,e3,e⟩:=eV e;dsimp only at e;split at e
  ·rename_i w cn e4;cases e
   refine⟨F,Z,j,τ,C,t,C1,R,e1,λv m s R1 i s1=>?_⟩
   obtain⟨a,vs,ev,O,A,P,hr⟩:=R1.dt i Y;subst ev
   refine⟨a,_,rfl,P,λhB ob D hD=>?_⟩
   obtain⟨Rf,sf⟩:=R1.put (kd:=.dz ks) (ob:=.fo ob (.dT (ks.zip vs))) O (by rw[P];trivial) ⟨A,ob,rfl⟩ hr
   refine sD (Q:=λv H=>∃a ob u,B a/\H a=some (.fo ob u)/\Q v (upd H a u)) (P:=λ_=>True) Rf hg (Ta A j8) trivial (λ_ _ _ _=>trivial) (by simpa using hl.1) e3 hD λp H' E L R' U rv l=>?_
   have N:=l.idx _ _ O;have G:=l.fz a ob _ j8;obtain⟨x,us,o2,c1,c2,c4,c3⟩:=R'.jg c a N;rw[e4]at c1;cases c1;rw[G]at c2;cases c2;obtain⟨nl,ob2,z⟩:=c4;have z2:ks.zip vs=w.zip us:=by
    injection z with _ z
    injection z
   have J:a≠p:=λz=>by rw[z,U]at G;cases G
   refine⟨a,ob,.dT (ks.zip vs),hB,by rw[gH J];exact G,?_⟩
   obtain⟨Rt,em⟩:=R'.BH (kd:=.dt w) (ob:=.dT (ks.zip vs)) N ⟨nl,by rw[z2]⟩ c3;have uu:upd (upd H' p (.lst L)) a (.dT (ks.zip vs))=upd (upd H' a (.dT (ks.zip vs))) p (.lst L):=by
    funext b;unfold upd;by_cases i:b=a
    ·subst i;rw[if_pos rfl,if_neg J,if_pos rfl]
    ·by_cases I:b=p
     ·rw[if_neg i,if_pos I,if_pos I]
     ·rw[if_neg i,if_neg I,if_neg I,if_neg i]
   rw[uu];have am:a∈s:=aZ O;have am':a∈E:=aZ N
   refine q p _ E L Rt (by rw[gH (Ne.symm J)];exact U) (by rw[em];exact rv) (s1.trans ⟨λb o z n=>?_,l.pre,λb o u z=>?_⟩)
   ·have r:b≠a:=λz=>n (by rw[z];exact am)
    have:=l.kept b o (by rw[gH r];exact z) n
    exact⟨this.1,by rw[gH r];exact this.2⟩
   ·have r:b≠a:=λy=>by rw[y,P]at z;cases z
    rw[gH r]
    exact l.fz b o u (by rw[gH r];exact z)
  ·cases e
 ·cases e
end
end TL
namespace TL
open PySem PySem.Spec PyProof.Rows L2
structure vZ(P:Program)(w:World)(K:aL)(mg:Str->Option Value)(base:Heap)(k:Nat)(x:Str)(n:Nat)(G:List T->ab->Option (T×ab)):Prop where
 ex:∃f fd ps,oW P w K mg base kb k f fd ps (spS K n G)/\mg x=some (.ref f)/\cI K (.ref f)=true/\Binds K fd ps []
structure tN(P:Program)(w:World)(K:aL)(mg:Str->Option Value)(base:Heap)(k:Nat)(cls:String)(m:Str)(n:Nat)(G:List T->ab->Option (T×ab)):Prop where
 ex:∃C f fd ps,bQ K mainGlobals (Str.ofString cls)=some (some (.ref C))/\oe K C/\ve K C m f/\oW P w K mg base kb k f fd ps (spS K n G)/\Binds K fd ps []
structure Cf(P:Program)(w:World)(K:aL)(mg:Str->Option Value)(base:Heap)(k:Nat)(cls:String)(n:Nat)(G:List T->ab->Option (T×ab))(gy:List T)(bi:List V):Prop where
 ex:∃C f fd ps ds,bQ K mainGlobals (Str.ofString cls)=some (some (.ref C))/\mg (Str.ofString cls)=some (.ref C)/\Mk K C f/\oW P w K mg base kb k f fd ps (spS K n G)/\Binds K fd ps ds/\aq bi ds
 rt:∀M ρ,aw K M ρ gy bi
section
variable {X:Cx}{e o:Expr}{d:List Expr}{j l:FE}{g:FN}{p pos q i:Pos}
variable{G:List T->ab->Option (T×ab)}{r:String}{pl:Sem Bool}
theorem l7{k n:Nat}{x:Str}(D:vZ X.prog X.w X.K X.mg X.base k x n G)(a:cm k X.A)(u:QA X (e::d) g)(m:Gl X x:=by rfl)(v:(x==("__debug__":Str))=false:=by decide)
 (s:starEach (e::d) X.env=(false,eval e X.env)::starEach d X.env:=by rfl)(w:(backTo pos (starEach d X.env)).any (·.1)=false:=by rfl):QE X (.Call (.Name x p) (e::d) [] pos) (mD n G g):=by
 obtain⟨f,z,y,F,b,c,t⟩:=D.ex
 exact(yD (E:=λ_ _ _=>False) F a m b c t .nil (λ_ _ _ _ _ _ _ h=>h.elim) u v s w).imp λ_ _ _=>RN
theorem uy{k n:Nat}{m:Str}(D:tN X.prog X.w X.K X.mg X.base k r m n G)(s:cm k X.A)(t:QE X o j)(x:QA X (e::d) g)
 (y:starEach (e::d) X.env=(false,eval e X.env)::starEach d X.env:=by rfl)(z:(backTo pos (starEach d X.env)).any (·.1)=false:=by rfl)
 (b:eval (.Call (.Attribute o m i) (e::d) [] pos) X.env=(do
  let a<-eval o X.env
  standAt i.atName
  let (f,first)<-holding [a] (getMethod a m pl)
  callWith pos f first (backTo pos (starEach (e::d) X.env)) (backToKw pos (keywordEach [] X.env))):=by rfl):QE X (.Call (.Attribute o m i) (e::d) [] pos) (mR r m n G j g):=by
 obtain⟨C,f,B,A,v,c,u,F,w⟩:=D.ex
 exact(Qz (E:=λ_ _ _=>False) (pl:=pl) t c u F s w .nil (λ_ _ _ _ _ _ _ h=>h.elim) x y z b).imp λ_ _ _=>IX v
theorem Fh{k n:Nat}{m:Str}(D:tN X.prog X.w X.K X.mg X.base k r m n G)(y:cm k X.A)(z:QE X o j)
 (w:eval (.Call (.Attribute o m i) [] [] pos) X.env=(do
  let b<-eval o X.env
  standAt i.atName
  let (f,first)<-holding [b] (getMethod b m pl)
  callWith pos f first (backTo pos (starEach [] X.env)) (backToKw pos (keywordEach [] X.env))):=by rfl):QE X (.Call (.Attribute o m i) [] [] pos) (mR r m n G j fP):=by
 obtain⟨C,f,J,I,B,c,A,F,H⟩:=D.ex
 refine(UK (E:=λ_ _ _=>False) (pl:=pl) z c A F y H .nil (λ_ _ _ _ _ _ _ h=>h.elim) w).imp λ_ _ _ h=>?_
 exact jT (IX B h) λx K ⟨a,dx,fs,v,u,t,s⟩=>⟨a,dx,fs,v,u,t,H0 s⟩
theorem F3{k n:Nat}{a:List T}{y:List V}(D:Cf X.prog X.w X.K X.mg X.base k r n G a y)(b:cm (k+1) X.A)(w:QA X (e::d) g)(m:Gl X (Str.ofString r):=by rfl)
 (x:(Str.ofString r==("__debug__":Str))=false:=by decide)(s:starEach (e::d) X.env=(false,eval e X.env)::starEach d X.env:=by rfl)(z:(backTo pos (starEach d X.env)).any (·.1)=false:=by rfl):
 QE X (.Call (.Name (Str.ofString r) p) (e::d) [] pos) (wY r n G a g):=by
 obtain⟨C,f,B,A,H,u,c,M,F,v,t⟩:=D.ex
 exact(QM (E:=λ_ _ _=>False) M F b m c v t (λ_ _ _ _ _ _ _ h=>h.elim) w x s z).imp λ_ _ _=>NM u D.rt
end
section
variable {X:Cx}{o i e f value k v:Expr}{a c d g:FE}{p pos h r l n:Pos}
theorem Rl:QE X (.Dict [] [] pos) (wZ (.dk [])):=Uz.imp λ_ _ _=>RZ
theorem Rb:QE X (.Dict [] [] pos) (wZ (.dt [])):=SX.imp λ_ _ _=>SJ
theorem QZ(j:QE X k c)(b:QE X v d):QE X (.Dict [some k] [v] pos) (vW c d):=(QD (S1 j b QY) rfl rfl (by simp) (by simp)).imp λ_ _ _=>RP
theorem DL(q:X.A.units+20<cLine)(j:QE X o a)(m:QE X i c)(b:EY i:=by exact λ_ _=>rfl):QE X (.Subscript o i pos) (A7 a c):=(Sk (by lia) j m b).imp λ_ _ _=>Qg
theorem Sl(s:X.A.units+20<cLine)(b:QE X o a)(q:QE X e d)(j:QE X f g)(m:M2 X o "get" l e f n:=by exact⟨rfl,rfl,rfl,rfl⟩):QE X (.Call (.Attribute o "get" l) [e,f] [] n) (vF a d g):=
 (Si (by lia) b q j m).imp λ_ _ _=>Ss
theorem JN(s:X.A.units+20<cLine)(m:QE X o a)(q:QE X i c)(b:QE X value d)(j:swapsWith value (some (.Subscript o i h)) pos.line X.env=pure false:=by rfl):QS X (.Assign [.Subscript o i h] value pos) (yY a c d):=(SA (by lia) m q b j).imp λ_ _ _=>Qi m5
theorem Vs(y:X.A.units+20<cLine)(u:QE X o a)(w:QE X i c)(t:QE X value d)(x:∀m s b,augStore i m s b=(do holding [b,m,s] (setItem m s b);release [b,m,s] [];pure .next):=by intro _ _ _;rfl):
 QS X (.AugAssign (.Subscript o i r) .Sub value pos) (A8 (λi j=>i - j) a c d):=(QH (by lia) u w t Jq x).imp λ_ _ _=>PL m5 λi j H Q q=>⟨i,j,rfl,rfl,q⟩
theorem N7(q:X.A.units+20<cLine)(m:QE X i c)(b:QE X o a)(j:behindInMarks .In o=false:=by rfl):QT X (.Compare i [.In] [o] pos) (jD (j3 c a (zM true))):=(Jv (OG (by lia) m b) j).imp λ_ _ _=>FD λ_ _ _=>NB
theorem Jn(q:X.A.units+20<cLine)(m:QE X i c)(b:QE X o a)(j:behindInMarks .NotIn o=false:=by rfl):QT X (.Compare i [.NotIn] [o] pos) (jD (j3 c a (zM false))):=(Jv (US (by lia) m b) j).imp λ_ _ _=>FD λ_ _ _=>PJ
end
theorem Va{P:Program}{w:World}{K:aL}{Z:List Expr}{k:Nat}{pos:Pos}(e f l:Addr)(D:e≠f):
 Turn P w K (.Tuple Z k pos) (G9 K l) [e,f] e (λi h=>(∃c,IsEnum h e f i c)/\h.IsListIter f l i) where
 mem:=by simp
 obj:=λi h st b a=>by
  obtain⟨⟨c,d⟩,⟨O,L,c1,d1⟩⟩:=st;simp only[bU,b4,or_false]at a;rcases a with rfl|rfl
  ·exact⟨_,d,λv z=>by simp at z⟩
  ·exact⟨O,L,λv z=>by rw[d1]at z;cases z⟩
 keep:=λi h J st n=>by
  obtain⟨⟨c,d⟩,g⟩:=st
  exact⟨⟨c,n e (by simp) _ d⟩,g.at λo e'=>n f (by simp) o e'⟩
 item:=by
  intro X F A G Q i R s N H E I p st C;subst F A G;obtain⟨⟨c,d⟩,g⟩:=st;obtain⟨xs,x,j,g1⟩:=C;obtain⟨y,r,t,U⟩:=I.list j;obtain⟨u,hu,ru⟩:=r.get g1
  refine wpAny_pyNext_enum_item d g t.isList (x:=u) (by simpa using hu) D λJ a1 a2 a3 a4 B=>?_
  refine⟨_,rfl,wpAny_letOwnedTupleGo_enum (s:={s with heap:=J,toks:=s.toks+1}) a1 λm S M=>?_⟩
  have bc:e≠s.heap.objs.size:=bS (Heap.lt_size d);have n:∀b ob,b∉[e,f]->s.heap.get? b=some ob->m.get? b=some ob:=λb ob a q=>by
   simp only[bU,b4,or_false,not_or]at a
   exact(M.2 b a.1).trans (B b ob a.1 a.2 q)
  have hT:m.get? s.heap.objs.size=some {cls:=.type "tuple",data:=.seq #[.int i s.toks,u]}:=(M.2 _ (Ne.symm bc)).trans a3;have I1:Inv X R N (upd H s.heap.objs.size (.tup [.int i,x])) {s with heap:=m,toks:=s.toks+1}:=Lg I p n (bE _)
   (show kW X.prog X.w _ m _ (.tup [.int i,x])from⟨by show 2<=sizeLine;decide,[.int i s.toks,u],.cons ⟨_,rfl⟩ (.cons ru .nil),⟨_,hT,rfl,_,rfl⟩⟩)
  refine⟨.ref s.heap.objs.size,_,I1,rfl,⟨_,x,I.fresh,rfl,rfl,λzs hz=>by rw[I.fm hz j];exact g1⟩,?_,λb a=>?_⟩
  ·exact⟨⟨u,by exact_mod_cast S⟩,a2.at λo q=>(M.2 _ (Ne.symm D)).trans q⟩
  ·have Y:=(p b a).1;rw[gH]
   ·exact Y
   ·rintro rfl;have:∃o,s.heap.get? s.heap.objs.size=some o:=by
     simp only[bU,b4,or_false]at a;obtain⟨O,L,_⟩:=g;rcases a with h|h
     ·rw[h];exact⟨_,d⟩
     ·rw[h];exact⟨_,L⟩
    obtain⟨o,q⟩:=this
    exact absurd (Heap.lt_size q) (cR _)
 done:=by
  intro X F A G Q i R s N H E I p st C;subst F A G;obtain⟨⟨c,d⟩,g⟩:=st;obtain⟨xs,j,ur⟩:=C;obtain⟨y,r,t,U⟩:=I.list j;have l1:=r.length
  refine wpAny_pyNext_enum_end (I.ok.hd Q) d g t.isList (by simp;lia) λJ B=>⟨rfl,LM (t':=s.toks) I p λb ob a q=>?_⟩
  simp only[bU,b4,or_false,not_or]at a
  exact B b ob a.2 q
 self:=λ_ _ _ _ _ st h=>wpAny_pyIter_enum st.1.choose_spec h
section
variable {X:Cx}{a b e:Expr}{f:List Expr}{c i:FE}{j:FN}{pos p d:Pos}
variable{ar:Pos}
theorem Kv{z:List Expr}{k:Nat}{t:TA}(N:Gl X "enumerate")(L:X.mg "enumerate"=none)(O:PA X [a] t)(K:starEach [a] X.env=[(false,eval a X.env)]:=by rfl):
 PI X (.Tuple z k ar) (.Call (.Name "enumerate" p) [a] [] pos) (E6 X.K t):=by
 intro x s r H R I h
 refine Call_ (rN I N L boot_enumerate (dB (aG (O pos x s r H _ I h) λY g ⟨vs,y,n,B,D⟩=>?_) (by rw[K];rfl) rfl))
 obtain⟨l,Q,⟨xs,C⟩,q⟩:=D;subst Q;obtain⟨u,rfl,A⟩:=B.one;cases A;obtain⟨G,Z,F,U⟩:=n.list C
 refine call_enumerate_list F.isList λP v o J M=>wpAny_pyIter_enum v ?_
 have S:Inv X x r y {g with heap:=P}:=n.kept (t':=g.toks) M
 refine⟨g.heap.objs.size+1,[g.heap.objs.size+1,g.heap.objs.size],_,_,y,rfl,S,Va _ _ l (Nat.succ_ne_self _),⟨⟨_,v⟩,o⟩,λb w=>?_,q⟩
 have m:g.heap.objs.size<=b:=by
  simp only[bU,b4,or_false]at w;rcases w with rfl|rfl
  ·exact eS _ _
  ·exact bE _
 exact n.rz m (n.bz.fresh m)
theorem Kk{h:List Expr}{k:Nat}{l:List Stmt}{g:FG}{F:FS}(q:X.mg "enumerate"=none)(t:X.calm=true)(r:QE X a c)(s:QG X (.Tuple h k ar) g)(u:th X l F)(v:Gl X "enumerate":=by rfl)
 (m:starEach [a] X.env=[(false,eval a X.env)]:=by rfl)(o:PassesOwn (model X.prog X.w) X.A X.env X.xe:=by first|exact PassesOwn.never|exact PassesOwn.leaving|exact PassesOwn.looking)
 (n:∀x,foldedSetIterable (.Call (.Name "enumerate" p) [a] [] d) X.env x=pure x:=by intro _;rfl):QS X (.For (.Tuple h k ar) (.Call (.Name "enumerate" p) [a] [] d) l [] pos) (zS c g F):=
 (DJ o t (Kv v q (eY r fG (by rw[m];rfl)) m) s u n).imp λ_ _ _=>PM
section
variable {h bx:List Str}{is:List Nat}{l:Scope}{m:List (Str×Addr)}{n:List Expr}{tk:Nat}{ar:Pos}{o:Expr}{q:List Expr}{r:FE}{g:FG}{s:FB}
theorem QP(B:X.mg "enumerate"=none)(G:X.calm=true)(k:nB X h bx is l m)(H:QE X a c)(A:kv h.length g)(D:∀C t v u,QG (iE X (h++bx) l m C t v u) (.Tuple n tk ar) g)(y:∀C t v u,tf (iE X (h++bx) l m C t v u) q s)
 (F:∀C t v u,QE (iE X (h++bx) l m C t v u) o r)(I:Gl X "enumerate":=by rfl)(z:∀x,foldedSetIterable (.Call (.Name "enumerate" p) [a] [] d) X.env x=pure x:=by intro _;rfl)
 (w:starEach [a] X.env=[(false,eval a X.env)]:=by rfl):
 QN X (.ListComp o [⟨.Tuple n tk ar,.Call (.Name "enumerate" p) [a] [] d,q,0⟩] l pos) (vE c h.length is g s r):=
 (uB G k (Kv I B (eY H fG (by rw[w];rfl)) w) D y F z).imp λ_ _ _=>RI A
end
end
section
variable {X:Cx}{o e:Expr}{c f:Pos}{g i:TE}{j l:FE}
theorem SV(ho:PE X o g)(he:PE X e i)(m:M1 X o "update" c e f):PE X (.Call (.Attribute o "update" c) [e] [] f) (wq g i):=by
 intro D s t H Q I h
 refine wpAny_Call_method m.base m.sd m.line PySem.F.plainAttrs_dict PySem.F.slot_dict_update PySem.F.type_dict_update (aG (ho D s t H _ I h) λu M G=>?_)
 obtain⟨x,H1,F,O,a,ex,d,R⟩:=G;subst ex;obtain rfl:u=Value.ref a:=O;obtain⟨K,J,_⟩:=IP F d
 refine⟨K,J,?_⟩
 rw[m.trees]
 refine Calls.callWith_builtin rfl (Calls.evalArgs_plain (Calls.spliced_cons (aG (he D M t H1 _ F R) λE L ⟨y,H2,r,N,b,U,more,ey,S,A,hb,w,P⟩=>Calls.spliced_nil ?_)))
 subst ey;obtain rfl:E=Value.ref b:=N;obtain⟨z,hd,vs,k,B⟩:=DC r.bz A;obtain⟨z',Z,n,v,Y⟩:=DC r.bz hb
 refine call_meetsIn PySem.F.slot_dict_update B.typeIs PySem.F.entry_dict_update (PySem.F.args_dict_update_2 _ _) (meets_dict_update (j6 X.prog X.w) a b S Z)
  ⟨vs,n,B,Y,by rw[<-k.length,<-v.length];exact w,λh' C d2 hs=>⟨.aH,_,?_,rfl,P⟩⟩
 have p:∃q,h'.get? a=some q:=let ⟨q,_,_,p,_⟩:=C;⟨q,p⟩
 exact xZ (t':=L.toks) r (by rw[A];exact True.intro) hs p (FY (bV (pL _ _) w) hd (v.merge k) C)
theorem P7(a:QE X o j)(b:QE X e l)(m:M1 X o "update" c e f:=by exact⟨rfl,rfl,rfl,rfl⟩):QE X (.Call (.Attribute o "update" c) [e] [] f) (zQ j l):=(SV a b m).imp λ_ _ _=>O2 m5
end
theorem IU{c:Type}:∀(l:List c),(bH (l.length/2)).filterMap (λk=>l[1+2*k]?)=od l
 | []=>by simp[od]
 | [_]=>by simp[od]
 |a::b::r=>by
  have ih:=IU r;have e:(a::b::r).length/2=r.length/2+1:=by simp only[aM];lia
  rw[e,d3,aRC];simp only[Nat.mul_zero,aSR,bO,bP];unfold od;rw[aSJ,<-ih];congr 1
theorem Jh{c:Type}:∀(l:List c),(od l).length<=l.length
 | []=>bE _
 | [_]=>dM _
 |a::b::r=>by
  have:=Jh r;unfold od;simp only[aM];lia
theorem Tw(items:Array Value):slicePick items (some 1) none (some 2)=(od items.toList).toArray:=by
 unfold slicePick;have c:sliceBounds (some 1) none (some 2) items.size=(max 0 (min 1 (items.size:Int)),(items.size:Int),2):=rfl;rw[c];show((sliceRange (max 0 (min 1 (items.size:Int))) (items.size:Int) 2).filterMap (items[·]?)).toArray=_;congr 1;have b:sliceRange (max 0 (min 1 (items.size:Int))) (items.size:Int) 2=(bH (items.size/2)).map λk=>1+2*k:=by
  unfold sliceRange;by_cases h:items.size<2
  ·have g:items.size/2=0:=by lia
   have a:¬(max 0 (min 1 (items.size:Int))<(items.size:Int)):=by lia
   simp only[show(2:Int)>0 by decide,if_true,a,if_false,g];rfl
  ·have a:max 0 (min 1 (items.size:Int))=1:=by lia
   rw[a];have f:(1:Int)<(items.size:Int):=by lia
   have d:(((items.size:Int) - 1+2 - 1)/2).toNat=items.size/2:=by lia
   simp only[show(2:Int)>0 by decide,if_true,f,d];apply cF;intro k _
   lia
 rw[b,aSJ];have:=IU items.toList;rw[bX]at this;rw[<-this];congr 1;funext k;simp[dN]
section
variable {X:Cx}{a e:Expr}{f:TE}{g:FE}{pos i c d:Pos}
def EZ(K:aL)(x:V)(H:Hp)(Q:VK):Prop:=∃a xs,x=.ref a/\di K H a xs/\∀p,H p=none->Q (.ref p) (upd H p (.lst (od xs)))
theorem aq.od:∀{xs:List V}{b:List Value},aq xs b->aq (TL.od xs) (TL.od b)
 | [],_,h=>by cases h;exact .nil
 | [x],_,h=>by cases h with|cons _ t=>cases t;exact .nil
 |x::y::r,_,h=>by
  cases h with
  |cons k t=>
   cases t with
   |cons j t=>unfold TL.od;exact .cons j (aq.od t)
theorem Ph{j k}(U:PE X e f):PE X (.Subscript e (.Slice (some (.Constant (.int 1) j c)) none (some (.Constant (.int 2) k d)) i) pos) (λn H Q=>f n H λx B=>EZ X.K x B Q):=by
 intro p s n H Q I h
 refine Subscript_ (aG (U p s n H _ I h) λv G t=>?_)
 obtain⟨x,B,I1,J,M⟩:=t;have Z:PE X (.Constant (.int 1) j c) (tC (.int 1)):=FT;have Y:PE X (.Constant (.int 2) k d) (tC (.int 2)):=FT
 refine wpAny_Slice ?_
 refine aG ((GI Z) p G n B (λo A=>o=some 1/\EZ X.K x A Q) I1 ⟨1,rfl,rfl,M⟩) λvl F t=>?_
 obtain⟨o,A,I2,N,w,L⟩:=t;subst w;rw[evalPart_none]
 refine wpAny_pure ?_
 refine aG ((GI Y) p F n A (λo z=>o=some 2/\EZ X.K x z Q) I2 ⟨2,rfl,rfl,L⟩) λC m t=>?_
 obtain⟨o,z,E,u,w,K⟩:=t;subst w;obtain⟨l,xs,rfl,R,q⟩:=K;cases J;have y:Inv X p n z {m with heap:=m.heap.push {cls:=.type "slice",data:=.fields #[vl,.none,C]}}:=E.kept (t':=m.toks) λb ob q=>Heap.get?_push_of_some _ q
 obtain⟨O,r,D,P⟩:=y.list R;have ag:=r.length;have S:wpAny (model X.prog X.w) X.A (getItem (.ref l) (.ref m.heap.objs.size)) (EP X p n Q) X.xe {m with heap:=m.heap.push {cls:=.type "slice",data:=.fields #[vl,.none,C]}}:=by
  refine wpAny_getItem_list_slice D.isList (Heap.IsSliceOf.new ..) N .none u (by decide) ?_ (by rw[bB]<;>lia)
  rw[Tw]
  refine⟨.ref _,_,y.laid (t':=m.toks) (o:=.lst (od xs)) (λb ob q=>Heap.get?_push_of_some _ q) (bE _) ?_,rfl,q _ (y.bz.fresh (bE _))⟩
  exact⟨bV (Jh _) P,_,0,aq.od r,Heap.get?_push_size _ rfl⟩
 show wpAny (model X.prog X.w) X.A (subscriptTail e _ (.ref l) (.ref m.heap.objs.size)) (EP X p n Q) X.xe _
 exact tail_any (ops:=[.ref l,.ref m.heap.objs.size]) D.isList.typeIs slot_list_getitem.lookup S (by with_unfolding_all rfl)
theorem Ox{j k}(b:QE X a g):QN X (.Subscript a (.Slice (some (.Constant (.int 1) j c)) none (some (.Constant (.int 2) k d)) i) pos) (A1 g):=(Ph b).imp λ_ _ _=>Ov
end
section
variable {X:Cx}{d:List (Addr×Obj)}{f:L2.St}{H:Hp}{s:Shared}{a:Addr}{ob:Obj}
theorem TV{kvs:List (List Key×V)}(I:L2.Inv X d f H s)(h:H a=some (.dT kvs))(y:s.heap.get? a=some ob):L2.Inv X d f (upd H a (.fo ob (.dT kvs))) s:=by
 have g:∀b,H b=none->b≠a:=λb n z=>by rw[z,h]at n;cases n
 refine⟨I.ok,I.os,I.bare,⟨I.base.keep,I.base.slot,λb o q n t=>by have e:=I.base.free b o q n t;rw[gH (g b e)];exact e,I.base.there,λb xs q=>?_,λb o u q=>?_,λb k q=>?_⟩,I.loc,I.cell,by rw[gH (g _ I.free)];exact I.free,λx c q=>by rw[gH (g _ (I.ej x c q))];exact I.ej x c q,λp w=>?_,λb o q=>?_,I.len⟩
 ·have e:=I.base.jt b xs q;rw[gH (o8 e h (λz=>nomatch z))];exact e
 ·have e:=I.base.ir b o u q;rw[gH (o8 e h (λz=>nomatch z))];exact e
 ·obtain⟨m,e⟩:=I.base.ju b k q
  exact⟨m,by rw[gH (o8 e h (λz=>nomatch z))];exact e⟩
 ·obtain⟨r,i,l⟩:=I.pin p w
  exact⟨r,by rw[gH (g _ i)];exact i,l⟩
 ·by_cases j:b=a
  ·subst j;rw[j8]at q;cases q
   exact⟨y,(I.bz b _ h).ib (λc v _ q=>q) (λc q=>by rw[gH (o8 q h (λz=>nomatch z))];exact q) λc xs q=>by rw[gH (o8 q h (λz=>nomatch z))];exact q⟩
  ·rw[gH j]at q
   exact(I.bz b o q).ib (λc v _ q=>q) (λc q=>by rw[gH (o8 q h (λz=>nomatch z))];exact q) λc xs q=>by rw[gH (o8 q h (λz=>nomatch z))];exact q
theorem UM{u:HO}(I:L2.Inv X d f H s)(h:H a=some (.fo ob u))(y:∀o v,X.aE a≠some (.fo o v)):L2.Inv X d f (upd H a u) s:=by
 have g:∀b,H b=none->b≠a:=λb n z=>by rw[z,h]at n;cases n
 refine⟨I.ok,I.os,I.bare,⟨I.base.keep,I.base.slot,λb o q n t=>by have e:=I.base.free b o q n t;rw[gH (g b e)];exact e,I.base.there,λb xs q=>?_,λb o u q=>?_,λb k q=>?_⟩,I.loc,I.cell,by rw[gH (g _ I.free)];exact I.free,λx c q=>by rw[gH (g _ (I.ej x c q))];exact I.ej x c q,λp w=>?_,λb o q=>?_,I.len⟩
 ·have e:=I.base.jt b xs q;rw[gH (o8 e h (λz=>nomatch z))];exact e
 ·have e:=I.base.ir b o u q;rw[gH (by rintro rfl;exact y _ _ q)];exact e
 ·obtain⟨m,e⟩:=I.base.ju b k q
  exact⟨m,by rw[gH (o8 e h (λz=>nomatch z))];exact e⟩
 ·obtain⟨r,i,l⟩:=I.pin p w
  exact⟨r,by rw[gH (g _ i)];exact i,l⟩
 ·by_cases j:b=a
  ·subst j;rw[j8]at q;cases q
   exact((I.bz b _ h).2).ib (λc v _ q=>q) (λc q=>by rw[gH (o8 q h (λz=>nomatch z))];exact q) λc xs q=>by rw[gH (o8 q h (λz=>nomatch z))];exact q
  ·rw[gH j]at q
   exact(I.bz b o q).ib (λc v _ q=>q) (λc q=>by rw[gH (o8 q h (λz=>nomatch z))];exact q) λc xs q=>by rw[gH (o8 q h (λz=>nomatch z))];exact q
end
section
variable {P:Program}{w:World}{A:Around}{E:Value->Shared->Prop}{s:Shared}{d a:Addr}{o:Obj}{c:Array DictEntry}{f i:Nat}
variable{Q:Option Value->Shared->Prop}
theorem Uy{Q:Value->Shared->Prop}(k:(d==sysModules)=false)(b:s.heap.get? d=some o)(j:o.ExactDict)(h:o.data=.dict c f)
 (l:Q (.ref s.heap.objs.size) {s with heap:=s.heap.push {cls:=.type "dict_keyiterator",data:=.fields #[.ref d,.int 0 0,.int c.size 0,.int f 0]}}):wpAny (model P w) A (pyIter (.ref d)) Q E s:=by
 have g:s.TypeIs (.ref d) "dict":=⟨o,b,j.1⟩
 refine wpAny_pyIter_slot g F.slot_dict_iter (wpAny_call_entry F.slot_dict_iter g F.entry_dict_iter ?_ (F.args_dict_iter_1 _));unfold Builtin.«dict.__iter__»;refine wpAny_bind ?_
 unfold Builtin.Dict.dictSlotNone;refine wpAny_bind (wpAny_notOrdered_dict g ?_);show wpAny _ _ (pure (Value.ref d)) _ _ s;refine wpAny_pure ?_;show wpAny _ _ (Builtin.Dict.showsAll d>>=_) _ _ s;unfold Builtin.Dict.showsAll;rw[if_neg (by rw[k];exact bJ)];refine wpAny_bind (wpAny_pure ?_)
 refine wpAny_bind (wpAny_dictEntries b h (wpAny_bind (wpAny_dictEpoch b h ?_)))
 refine wpAny_bind (wpAny_newObj_type (wpAny_pure ⟨_,rfl,"dict_keyiterator",_,⟨_,Heap.get?_push_size _ rfl,rfl⟩,F.slot_dict_keyiterator_next.lookup,?_⟩));simpa[rawInt]using l
theorem Te{e:DictEntry}(b:s.heap.IsKeyIter a d i c.size f)(l:s.heap.get? d=some o)(m:o.data=.dict c f)(n:c[i]?=some e)
 (q:∀j,j.IsKeyIter a d (i+1) c.size f->Heap.SameBut a s.heap j->Q (some e.key) {s with heap:=j}):wpAny (model P w) A (pyNext (.ref a)) Q E s:=by
 obtain⟨r,h,p,g⟩:=id b;unfold pyNext;refine wpAny_bind (wpAny_attempt (wpAny_callSpecial?_slot (name:=Str.ofString "__next__") b.typeIs F.slot_dict_keyiterator_next (wpAny_call_entry F.slot_dict_keyiterator_next b.typeIs F.entry_dict_keyiterator_next ?_ (F.args_dict_keyiterator_next_1 _))))
 refine wpAny_bind (wpAny_pure (wpAny_bind (wpAny_bind ?_)))
 first|refine wpAny_bind (wpAny_typeNameOfWhole_keyiter b.typeIs (wpAny_pure (wpAny_bind (wpAny_fieldsOf h g ?_))))|refine wpAny_bind (wpAny_typeNameOf_keyiter b.typeIs (wpAny_pure (wpAny_bind (wpAny_fieldsOf h g ?_))))
 simp only[show Builtin.Dict_items.ownsTuple "dict_keyiterator"=false by decide,bZ,if_false];show wpAny _ _ (if(Value.ref d==Value.none)=true then _ else _) _ _ s;rw[if_neg (show¬((Value.ref d==Value.none)=true)from bJ)]
 refine wpAny_bind (wpAny_pure (wpAny_bind (wpAny_dictEntries l m ?_)));rw[if_neg (by simp)];refine wpAny_bind (wpAny_pure (wpAny_bind (wpAny_dictEpoch l m ?_)));rw[if_neg (by simp)];refine wpAny_pure ?_
 simp only[show¬((i:Int)<0)from by lia,if_false,cB,n];refine wpAny_bind ?_;first|refine wpAny_bind (wpAny_typeNameOfWhole_keyiter b.typeIs (wpAny_pure (wpAny_bind (wpAny_isOneOf_keyiter b.typeIs ?_))))|refine wpAny_bind (wpAny_typeNameOf_keyiter b.typeIs (wpAny_pure (wpAny_bind (wpAny_isOneOf_keyiter b.typeIs ?_))))
 show wpAny _ _ (setField (.ref a) 1 (rawInt ((i:Int)+1))>>=_) _ _ s;refine wpAny_bind (wpAny_setField h g (by simp) ?_);have k:(s.heap.update a (Obj.mapFields (·.setIfInBounds 1 (rawInt ((i:Int)+1))))).IsKeyIter a d (i+1) c.size f:=⟨_,Heap.get?_update_self _ h (Obj.isFreed_of_fields (Obj.data_mapFields g _)),(Obj.cls_mapFields ..).trans p,by rw[Obj.data_mapFields g];simp[rawInt]⟩
 refine wpAny_bind (wpAny_holding (wpAny_bind (wpAny_isOneOf_keyiter (s:={s with heap:=s.heap.update a (Obj.mapFields (·.setIfInBounds 1 (rawInt ((i:Int)+1))))}) k.typeIs ?_)))
 show wpAny _ _ (pure e.key) _ _ _;exact wpAny_pure (wpAny_pure ⟨_,rfl,wpAny_pure (q _ k (Heap.SameBut.update ..))⟩)
theorem S3(m:A.handled=none)(b:s.heap.IsKeyIter a d i c.size f)(j:s.heap.get? d=some o)(l:o.data=.dict c f)(n:c[i]?=none)
 (p:∀k,Heap.ExtBut a s.heap k->Q none {s with heap:=k}):wpAny (model P w) A (pyNext (.ref a)) Q E s:=by
 obtain⟨q,g,r,h⟩:=id b;unfold pyNext;refine wpAny_bind (wpAny_attempt (wpAny_callSpecial?_slot (name:=Str.ofString "__next__") b.typeIs F.slot_dict_keyiterator_next (wpAny_call_entry F.slot_dict_keyiterator_next b.typeIs F.entry_dict_keyiterator_next ?_ (F.args_dict_keyiterator_next_1 _))))
 refine wpAny_bind (wpAny_pure (wpAny_bind (wpAny_bind ?_)))
 first|refine wpAny_bind (wpAny_typeNameOfWhole_keyiter b.typeIs (wpAny_pure (wpAny_bind (wpAny_fieldsOf g h ?_))))|refine wpAny_bind (wpAny_typeNameOf_keyiter b.typeIs (wpAny_pure (wpAny_bind (wpAny_fieldsOf g h ?_))))
 simp only[show Builtin.Dict_items.ownsTuple "dict_keyiterator"=false by decide,bZ,if_false];show wpAny _ _ (if(Value.ref d==Value.none)=true then _ else _) _ _ s;rw[if_neg (show¬((Value.ref d==Value.none)=true)from bJ)]
 refine wpAny_bind (wpAny_pure (wpAny_bind (wpAny_dictEntries j l ?_)));rw[if_neg (by simp)];refine wpAny_bind (wpAny_pure (wpAny_bind (wpAny_dictEpoch j l ?_)));rw[if_neg (by simp)];refine wpAny_pure ?_
 simp only[show¬((i:Int)<0)from by lia,if_false,cB,n];refine wpAny_bind ?_;first|refine wpAny_bind (wpAny_typeNameOfWhole_keyiter b.typeIs (wpAny_pure ?_))|refine wpAny_bind (wpAny_typeNameOf_keyiter b.typeIs (wpAny_pure ?_))
 show wpAny _ _ (setField (.ref a) 0 .none>>=_) _ _ s;refine wpAny_bind (wpAny_setField g h (by simp) ?_);show wpAny _ _ (newExc (.type "StopIteration") []>>=_) _ _ _;refine wpAny_bind ?_;simp only[newExc,newTuple]
 refine wpAny_bind (wpAny_newObj_type (wpAny_bind (m:=firstArgMember _ _) (wpAny_of_eq (a:=Value.none) (by first|rfl| (simp only[firstArgMember];rfl)) ?_)) (by size_fits))
 refine wpAny_newObj_type ?_ (by size_fits);simp only[raiseNew];refine wpAny_bind (wpAny_handled ?_)
 rw[show A.in1.handled=none from m];refine wpAny_bind (wpAny_pure (wpAny_throw ?_));refine wpAny_bind (wpAny_isInstance (T:="StopIteration") (b:=true) ⟨_,Heap.get?_push_size _ rfl,rfl⟩ isSubtype_stop ?_)
 exact wpAny_pure (p _ (((Heap.SameBut.update ..).extBut.push _).push _))
end
theorem MD{d c:Type}{F:d->c->Prop}:∀{a:List d}{b:List c},Paired F a b->∀(i:Nat)(g:i<a.length)(f:i<b.length),F a[i] b[i]
 |_,_,.cons h _,0,_,_=>h
 |_,_,.cons _ t,i+1,g,f=>MD t i (by simpa using g) (by simpa using f)
theorem U3{P:Program}{w:World}{K:aL}{U:Expr}{a f:Addr}{ob:Obj}{r:Array DictEntry}{N:Nat}{kvs:List (List Key×V)}(hx:ob.ExactDict)(J:ob.data=.dict r N)(hl:r.size=kvs.length):
 Turn P w K U (Ha a ob kvs) [f] f (λi h=>h.IsKeyIter f a i r.size N) where
 mem:=by simp
 obj:=λi h st b g=>by
  have e:b=f:=by simpa using g
  subst e;obtain⟨o,e,c,d⟩:=st
  exact⟨o,e,λv z=>by rw[d]at z;cases z⟩
 keep:=λi h q st k=>st.at λo e=>k f (by simp) o e
 item:=by
  intro X y t A M i S s L H E I p st x;subst y t A;obtain⟨B,n⟩:=x;obtain⟨m,_,_,xs,j,o2,es2,ep2,Q,e2,O,e4,e5⟩:=(show kW X.prog X.w H s.heap a (.fo ob (.dT kvs))from I.bz a _ B);rw[m]at Q;cases Q;rw[J]at O;cases O;obtain⟨G,f1,f2,F,D,C⟩:=p f (by simp);have u:xs.length=kvs.length:=(Paired.length j).symm;have l:i<xs.length:=by rw[u];exact n
  have oa:r[i]?=some (entryOfKey (tupleKind (j6 X.prog X.w)) xs[i]):=by
   rw[<-Array.getElem?_toList,e4,bA,aO l];rfl
  refine Te st m J oa λq R Y=>?_
  have I1:L2.Inv X S L H {s with heap:=q}:=I.turned (t':=s.toks) (λb o g e=>(Y.2 b g).trans e) G f1 F D C;obtain⟨o,e,c,d⟩:=id R;obtain⟨r1,Z,r3⟩:=MD j i n l
  refine⟨_,rfl,E9 (s:={s with heap:=q}) e c d (by decide) ⟨.ref xs[i].2.1,H,I1,rfl,⟨rfl,xs[i].2.1,kvs[i].1,kvs[i].2,rfl,aO n,Z⟩,R,λb g=>(p b g).1⟩⟩
 done:=by
  intro X y t A M i S s L H E I p st x;subst y t A;obtain⟨B,n⟩:=x;have m:=(show kW X.prog X.w H s.heap a (.fo ob (.dT kvs))from I.bz a _ B).1;obtain⟨G,f1,f2,F,D,C⟩:=p f (by simp)
  exact S3 (I.ok.hd M) st m J (by simp;lia) λq eb=>⟨rfl,I.turned (t':=s.toks) (λb o g e=>eb b o g e) G f1 F D C⟩
 self:=λ_ _ _ _ _ st h=>wpAny_pyIter_keyiter st h
section
variable {X:Cx}{iter:Expr}{c:FE}{p pos d:Pos}
abbrev AG(X:Cx)(a:Addr):Prop:=∀o v,X.aE a≠some (.fo o v)
theorem QU{C l:Expr}{r:TE}(G:PE X l r):PI X C l (x5 (AG X) r):=by
 intro y s n H R I h
 refine aG (G y s n H _ I h) λv f B=>?_
 obtain⟨x,A,g,D,F⟩:=B;obtain⟨a,kvs,e,k,q⟩:=F;subst e;cases D;obtain⟨_,J,xs,i,o,t,L,m,w,u,M,O⟩:=(show kW X.prog X.w A f.heap a (.dT kvs)from g.bz a _ k);have hB:AG X a:=λo v z=>by
  have:=g.base.ir a o v z;rw[k]at this;cases this
 have j:t.size=kvs.length:=by rw[<-bX,M,aN];exact(Paired.length i).symm
 have N:L2.Inv X y n A {f with heap:=f.heap.push {cls:=.type "dict_keyiterator",data:=.fields #[.ref a,.int 0 0,.int t.size 0,.int L 0]}}:=g.kept (t':=f.toks) λb o e=>Heap.get?_push_of_some _ e
 refine Uy J m w u ⟨f.heap.objs.size,[f.heap.objs.size],_,_,_,rfl,TV N k (Heap.get?_push_of_some _ m),U3 (a:=a) (kvs:=kvs) w u j,⟨_,Heap.get?_push_size _ rfl,rfl,rfl⟩,λb K=>?_,q hB o⟩
 have e:b=f.heap.objs.size:=by simpa using K
 subst e
 refine g.rz (bE _) ?_
 rw[gH (Ne.symm (bS (Heap.lt_size m)))]
 exact g.bz.fresh (bE _)
section
variable {f bx:List Str}{is:List Nat}{i:Scope}{j:List (Str×Addr)}{l m:Expr}{n:List Expr}{o:FE}{g:FG}{y:FB}
theorem RX(L:X.calm=true)(k:nB X f bx is i j)(M:QE X iter c)(F:kv f.length g)(G:∀C b z t,QG (iE X (f++bx) i j C b z t) l g)(B:∀C b z t,tf (iE X (f++bx) i j C b z t) n y)
 (K:∀C b z t,QE (iE X (f++bx) i j C b z t) m o)(D:∀x,foldedSetIterable iter X.env x=pure x:=by intro _;rfl):
 QN X (.ListComp m [⟨l,iter,n,0⟩] i pos) (v6 c f.length is g y o):=by
 intro N s e H Q I h
 refine aG (uB L k (QU M) G B K D N s e H _ I (Sy (B:=AG X) F h)) λu P A=>?_
 obtain⟨v,R,O,r,a,ob,w,hB,J,q⟩:=A
 exact⟨v,_,UM O J hB,r,q⟩
end
end
theorem UE:∀{c:List Int},c≠[]->vT c∈c/\∀a∈c,vT c<=a:=by
 have key:∀(c:List Int)(n:Int),(c.foldl (λa b=>if b<a then b else a) n=n\/c.foldl (λa b=>if b<a then b else a) n∈c)/\c.foldl (λa b=>if b<a then b else a) n<=n/\∀a∈c,c.foldl (λa b=>if b<a then b else a) n<=a:=by
  intro c;induction c with
  |nil=>intro n;exact⟨.inl rfl,bM _,λa h=>nomatch h⟩
  |cons m c ih=>
   intro n;rw[aRR];obtain⟨h1,g,f⟩:=ih (if m<n then m else n);by_cases i:m<n
   ·rw[if_pos i]at h1 g f|-
    refine⟨?_,by lia,λa d=>?_⟩
    ·rcases h1 with h1|h1
     ·rw[h1];simp
     ·exact .inr (aX _ h1)
    ·rcases fR d with rfl|d
     ·exact g
     ·exact f a d
   ·rw[if_neg i]at h1 g f|-
    refine⟨?_,g,λa d=>?_⟩
    ·rcases h1 with h1|h1
     ·exact .inl h1
     ·exact .inr (aX _ h1)
    ·rcases fR d with rfl|d
     ·lia
     ·exact f a d
 intro c j;cases c with
 |nil=>exact absurd rfl j
 |cons n c=>
  obtain⟨h1,g,f⟩:=key c n
  refine⟨?_,λa d=>?_⟩
  ·rcases h1 with h1|h1
   ·show aSI (λa b=>if b<a then b else a) n c∈n::c;rw[h1];simp
   ·exact aX _ h1
  ·rcases fR d with rfl|d
   ·exact g
   ·exact f a d
section
variable {X:Cx}{e:Expr}{a:List Expr}{c:FN}{p pos:Pos}
theorem U8(J:X.calm=true):oT X (.builtin "min") (Cw X.K (λd=> !d.isEmpty) vT):=by
 intro E s R H xs S Q I r h;obtain⟨p,d,rfl,D,P,q⟩:=h;obtain⟨u,rfl,A⟩:=vals1 r;cases A;obtain⟨f,z,B,U⟩:=I.list D;have x:=oV z;have o:d≠[]:=by rintro rfl;simp at P
 obtain⟨b,w⟩:=x.allInts.items;have O:s.heap.IsList p (intItems b):=w ▸ B.isList;have k:d=b.toList.map (·.1):=by
  rw[<-nums_intItems,<-w]
  exact(show numsOf f.toArray.toList=d from x.numsOf).symm
 have g:0<b.size:=by
  have y:0<d.length:=jG o;rw[k,aN,bX]at y;exact y
 refine min_intList (I.ok.hd J) O g λv Z tk C F=>?_
 obtain⟨t,rfl⟩:=intItems_at C;obtain⟨Y,L⟩:=argBest_lt (numAt b) (b.size - 1);obtain⟨n,m⟩:=UE o;obtain⟨M,K⟩:∃M,M=vT d:=⟨_,rfl⟩;rw[<-K]at n m q;have e:numAt b (argBest (λi j=>decide (numAt b i<numAt b j)) (b.size - 1))=M:=by
  apply aRG
  ·have l:=n;rw[k]at l;obtain⟨j,G,N⟩:=mem_getD l;rw[aN,bX]at G;rw[<-N,<-numAt_eq];exact L j (by lia)
  ·refine m _ ?_
   rw[k,numAt_eq];exact getD_mem (by rw[aN,bX];lia)
 exact⟨.int M,H,I.kept F,⟨_,by rw[e]⟩,q⟩
theorem Jo(b:X.mg "min"=none)(g:X.calm=true)(h:QA X (e::a) c)(d:Gl X "min":=by rfl)(f:starEach (e::a) X.env=(false,eval e X.env)::starEach a X.env:=by rfl)(i:(backTo pos (starEach a X.env)).any (·.1)=false:=by rfl):
 QE X (.Call (.Name "min" p) (e::a) [] pos) (Fn c):=Ai (U8 g) (λ_ _ _ _=>F2) boot_min b d h (by decide) (by decide) f i
end
theorem o7{X:Cx}{pos:Pos}{x:Str}{i:Int}(a:∃t,X.mg x=some (.int i t))(b:Gl X x:=by rfl)(c:(x==("__debug__":Str))=false:=by decide):QE X (.Name x pos) (fC (.int i)):=by
 obtain⟨t,a⟩:=a
 exact(RD b a (v:=.int i) ⟨t,rfl⟩ c).imp λ_ _ _=>C8 λ_ _=>.int
structure B7(K:aL)(x qual:Str)(st:Stmt)(f:Addr)(fd:FuncData)(dV:Value):Prop where
 ex:∃(oc:Value)(od:Option Addr)(kV doc pm:Value)(an:Option Addr)(az ct:Value)(gd:Array (Option Value)),
  fd=cK x qual (k9 st) (kE st) (iM st) dV kV doc pm an az ct/\K.lookup f=some ⟨oc,od,.func fd,gd⟩/\dI K az qual=true
section
variable {P:Program}{w:World}{K:aL}{a:Str->Option Value}{d:Heap}
variable{g:Str}{st:Stmt}{i:FuncData}{j oc:Value}{ps:List Str}{od:Option Addr}{o:Array (Option Value)}
theorem B7.ok{x:Str}{f:Addr}{N:List Str}{k:Nat}{l:Sp}(F:B7 K x g st f i j)(S:sJ N ps (iM st))(len:∀vs H Q E,l vs H Q E->vs.length=ps.length)
 (r:∀(c:Value)(A:Around)(b:List Env)(s:Shared)(H:Hp)(vs:List V)(Q:VK)(E:XK),cm k (A.deeper (envOfC g (iM st) s.heap.objs.size f c))->l vs H Q E->
  ∃t,jz (uz kb P w K a d N g (iM st) f c A b s H E).xS (kE st) t/\t {nx:=λ_ v=>Q .aH v,rt:=Q} (start N vs) H):oW P w K a d kb (k+1) f i ps l:=by
 obtain⟨oc,od,kV,u,y,B,c,z,o,e,lk,m⟩:=F.ex;subst e
 refine Ip lk m S len λA b s H vs Q E p n=>?_
 obtain⟨t,h,q⟩:=r c A b s H vs Q E p n
 exact⟨t,h.xS,q⟩
theorem QR{x:Str}{f:Addr}{n:Option Addr}{kV b k h m:Value}(l:K.lookup f=some ⟨oc,od,.func (cK x g (k9 st) (kE st) (iM st) j kV b k n h m),o⟩)
 (c:dI K h g=true):B7 K x g st f (cK x g (k9 st) (kE st) (iM st) j kV b k n h m) j:=⟨⟨oc,od,kV,b,k,n,h,m,o,rfl,l,c⟩⟩
theorem VR(m:Nat){T:Addr}{c:Array Value}{n:Nat}{ds:List Value}(p:i.defaults=.ref T)(lk:K.lookup T=some ⟨oc,od,.seq c n,o⟩)
 (t:m+ds.length=ps.length)(h:∀b:List Value,b.length=m->∃k:Option (Array Value)->Sem (List (Str×Value)),bindArgs i ⟨b,[]⟩=seqItems? i.defaults>>=k/\k (some c)=pure (ps.zip (b++ds))):Binds K i ps ds:=λs b l f=>by
 obtain⟨k,r,q⟩:=h b (by rw[bF]at f;lia)
 exact .of_defaults p (l T _ lk) rfl r q
end
theorem j5.of{K:aL}{a:String}{f:Str}{C:Addr}(e:bQ K mainGlobals (Str.ofString a)=some (some (.ref C)))(c:oe K C)(n:qP K C f):j5 K a f:=λb h=>by
 rw[e]at h;cases h;exact⟨c,n⟩
section
variable {P:Program}{w:World}{K:aL}{d:Str->Option Value}{g h:Heap}{f:Addr}{fd:FuncData}{x m:Str}{t:Stmt}{N ps:List Str}{k n:Nat}{p:Sp}{B:FS}{q:String}{C:Addr}
variable{oc kV I r u v:Value}{od D:Option Addr}{sl:Array (Option Value)}{Q:List Value->Prop}
abbrev hB(K:aL)(N:List Str)(p:Sp)(B:FS):Prop:=∀{W:XW}{vs:List V}{H:Hp}{Q:VK}{E:XK},p vs H Q E->eH K W B {nx:=λ_ a=>Q .aH a,rt:=Q} (vs.map some++aP (N.length - vs.length) none) H
abbrev hY(P:Program)(w:World)(K:aL)(d:Str->Option Value)(g:Heap)(N:List Str)(m:Str)(t:Stmt)(f:Addr)(k:Nat)(B:FS):Prop:=∀{b:Value}{A:Around}{a:List Env}{s:Shared}{H:Hp}{E:XK},N.Nodup->cm k (A.deeper (envOfC m (iM t) s.heap.objs.size f b))->
 jz (uz kb P w K d g N m (iM t) f b A a s H E).xS (kE t) (eH K (gk (Cx.xS (uz kb P w K d g N m (iM t) f b A a s H E))) B)
theorem da(F:vq K x m t f fd)(len:∀vs H Q E,p vs H Q E->vs.length=ps.length)(b:hB K N p B)(y:hY P w K d g N m t f k B)(S:sJ N ps (iM t):=by exact⟨rfl,rfl,rfl,by decide+kernel,rfl,by decide+kernel,by decide+kernel⟩):oW P w K d g kb (k+1) f fd ps p:=
 F.ok S len λi A a s H vs Q E c z=>⟨_,y S.nd c,b z⟩
theorem MS{i:Value}(F:B7 K x m t f fd i)(len:∀vs H Q E,p vs H Q E->vs.length=ps.length)(b:hB K N p B)(y:hY P w K d g N m t f k B)(S:sJ N ps (iM t):=by exact⟨rfl,rfl,rfl,by decide+kernel,rfl,by decide+kernel,by decide+kernel⟩):oW P w K d g kb (k+1) f fd ps p:=
 F.ok S len λj A a s H vs Q E c z=>⟨_,y S.nd c,b z⟩
theorem aF{A:Around}{j:Nat}(a:cm k A)(h:j<=k:=by decide):cm j A:=a.mono h
structure Nm(K:aL)(x:Str)(t:Stmt):Prop where
 ex:∃f fd,bQ K mainGlobals x=some (some (.ref f))/\vq K x x t f fd
theorem Nm.of(a:bQ K mainGlobals x=some (some (.ref f)))(l:K.lookup f=some ⟨oc,od,.func (cK x x (k9 t) (kE t) (iM t) .none kV I r D u v),sl⟩)
 (c:dI K u x=true)(k:cI K (.ref f)=true):Nm K x t:=⟨_,_,a,FX l c k⟩
structure Cm(K:aL)(q:String)(C:Addr):Prop where
 e:bQ K mainGlobals (Str.ofString q)=some (some (.ref C))
 c:oe K C
 mi:aSn K C=true
 kp:cI K (.ref C)=true
structure Mm(K:aL)(C:Addr)(x m:Str)(t:Stmt):Prop where
 ex:∃f fd,bW K (.ref C) x=some (some (.ref f))/\aRI K (.ref f)=true/\vq K x m t f fd
theorem Mm.of(a:bW K (.ref C) x=some (some (.ref f)))(l:K.lookup f=some ⟨oc,od,.func (cK x m (k9 t) (kE t) (iM t) .none kV I r D u v),sl⟩)
 (c:dI K u m=true)(k:cI K (.ref f)=true)(n:aRI K (.ref f)=true):Mm K C x m t:=⟨_,_,a,n,FX l c k⟩
theorem rp(h:∀a,Q [a]):∀b:List Value,b.length=1->Q b
 | [a],_=>h a
theorem t4{n:Nat}(h:∀a b,b.length=n->Q (a::b)):∀b:List Value,b.length=n+1->Q b
 |a::b,e=>h a b (Nat.succ.inj e)
abbrev Bd(x m:Str)(t:Stmt)(ps:List Str):Prop:=∀(kV b r:Value)(D:Option Addr)(c v:Value)(a:List Value),a.length=ps.length->bindArgs (cK x m (k9 t) (kE t) (iM t) .none kV b r D c v) ⟨a,[]⟩=pure (ps.zip a)
abbrev Ky(P:Program)(w:World)(K:aL)(d:Str->Option Value)(g:Heap)(x m:Str)(t:Stmt)(ps:List Str)(k:Nat)(p:Sp):Prop:=∀{f:Addr}{fd:FuncData},vq K x m t f fd->oW P w K d g kb k f fd ps p
section
variable (X:K.In h)(G:h.Ns mainGlobals d)
include X G
variable{R:List T->ab->Option (T×ab)}
theorem Nm.df(a:Nm K x t)(o:Ky P w K d g x x t ps k p)(b:Bd x x t ps):∃f fd ps,oW P w K d g kb k f fd ps p/\d x=some (.ref f)/\cI K (.ref f)=true/\Binds K fd ps []:=
 let ⟨f,fd,a,F⟩:=a.ex
 ⟨f,fd,ps,o F,aRE X G a,F.kp,F.binds b⟩
theorem MZ{R:List T->Option T}(a:Nm K x t)(o:Ky P w K d g x x t ps k (spT K n R))(b:Bd x x t ps:=by walk_at "bq"):jB P w K d g k x n R:=⟨a.df X G o b⟩
theorem M3{R:List T->Option (List T)}(a:Nm K x t)(o:Ky P w K d g x x t ps k (zr K n R))(b:Bd x x t ps:=by walk_at "bq"):ER P w K d g k x n R:=⟨a.df X G o b⟩
theorem Er{R:List T->Option (T×ab)}(a:Nm K x t)(o:Ky P w K d g x x t ps k (yo K n R))(b:Bd x x t ps:=by walk_at "bq"):DD P w K d g k x n R:=⟨a.df X G o b⟩
theorem M0(a:Nm K x t)(o:Ky P w K d g x x t ps k (spS K n R))(b:Bd x x t ps:=by walk_at "bq"):vZ P w K d g k x n R:=⟨a.df X G o b⟩
theorem M4(c:Cm K q C)(a:Mm K C "__init__" m t)(o:Ky P w K d g "__init__" m t ps k (spS K n R))(b:Bd "__init__" m t ps:=by walk_at "bq"):Cf P w K d g k q n R [] []:=
 let ⟨f,fd,a,i,F⟩:=a.ex
 ⟨⟨C,f,fd,ps,[],c.e,aRE X G c.e,⟨c.mi,a,i,c.kp⟩,o F,F.binds b,.nil⟩,λ_ _=>.nil⟩
end
theorem Es{R:List T->ab->Option (T×ab)}(c:Cm K q C)(a:Mm K C x m t)(o:Ky P w K d g x m t ps k (spS K n R))(b:Bd x m t ps:=by walk_at "bq"):tN P w K d g k q x n R:=
 let ⟨f,fd,a,i,F⟩:=a.ex
 ⟨C,f,fd,ps,c.e,c.c,⟨a,i,F.kp⟩,o F,F.binds b⟩
end
section
variable {X:Cx}{e:Expr}{a:FE}{pos:Pos}
end
end TL
namespace TL
open PySem L2
end TL
namespace TL
open PySem PySem.Spec PyProof.Rows L2
section
variable {X:Cx}{a b:Expr}{c:FN}{pos:Pos}
end
end TL
namespace TL
open PySem L2
section
variable {K:aL}{W:XW}{H:Hp}{a:L2.St}{D:Ends}
end
end TL
namespace TL
open PySem PySem.Spec PyProof.Rows L2
section
variable {X:Cx}{a b:Expr}{c d:FE}{pos p f:Pos}
end
end TL
namespace TL
open PySem L2
section
variable {K:aL}{M:Hp}{a:cx}{H:Hp}{c:L2.St}{Q:VK}
end
end TL
namespace TL
open PySem PySem.Spec PyProof.Rows L2
section
variable {X:Cx}{a e:Expr}{c:TE}{d f:TO}{g:FE}{h fh:FO}{lo i:Option Expr}{pos j l:Pos}
end
end TL
namespace TL
open PySem L2
def BD(K:aL):R2:=λx y H Q=>∃xs a b,RT K H [] (.tup xs) x/\RT K H [] (.tup a) y/\xs.length=a.length/\n3 (eqT 4) xs a=some b/\Q (.bl (!b)) H
def AO(g f:T)(C:ab):Option (T×ab):=(dr 3 C g).bind λd=>(dr 3 C f).bind λc=>match d,c with
 | .tup xs,.tup a=>if xs.length=a.length then(n3 (eqT 4) xs a).map λb=>(.bl (!b),C)else none
 |_,_=>none
theorem Oc{K:aL}{f:St}{H:Hp}{Q:VK}{x y:V}(h:∃c a,h9 K f [c,a] [x,y] (AO c a) H Q):BD K x y H Q:=by
 obtain⟨c,a,d,Z,g,p,C,t,v,R,r,e,k⟩:=h;obtain⟨_,_,z,j,r⟩:=r.cons_inv;cases z;obtain⟨_,_,z,i,r⟩:=r.cons_inv;cases z;unfold AO at e;obtain⟨u,o,e⟩:=eV e;obtain⟨s,n,e⟩:=eV e;split at e
 ·split at e
  ·rename_i xs q l;obtain⟨b,m,e⟩:=eZ e;cases e
   exact⟨_,_,b,(R.dr _ _ _ _ j o).mono nW (λ_ _ h=>h),(R.dr _ _ _ _ i n).mono nW (λ_ _ h=>h),l,m,k _ H g R .bl .refl⟩
  ·cases e
 ·cases e
end TL
namespace TL
open PySem PySem.Spec PyProof.Rows L2
section
variable {X:Cx}{a b:Expr}{d g:FE}{p pos:Pos}
theorem NR(hu:X.A.units+20<cLine):g7 X (compareOp .NotEq) (BD X.K):=by
 intro P s q H x y u v Q I z w h;obtain⟨xs,ys,b,k,i,O,e,C⟩:=h;have fin:EP X P q Q (.bool (!b)) s:=⟨.bl (!b),H,I,rfl,C⟩;unfold RT at k i;obtain⟨a,vs,N,B,o⟩:=k;obtain⟨c,ws,M,A,n⟩:=i;subst N M;cases z;cases w;obtain⟨is,m,F,z1⟩:=I.tuple (.of B);obtain⟨K,l,D,E⟩:=I.tuple (.of A);have J:=m.length;have G:=l.length;obtain⟨f,f1,f2⟩:=y7 (A:=X.A.in1) (λt r x y u v b Z Y U S R=>DP I _ X.A.in1 t r x y u v b (by show X.A.units+1+4<cLine;lia) Z Y U S R) o n m l e;have L:is.toArray.size=K.toArray.size:=by rw[bB,bB,<-J,<-G,o.length,n.length];exact O
 refine SeqAt.RcNeAt.tuples (e:=f) F D (by lia) (λj k i=>f1 j _ _ (by simp) (by simp)) _ _ _ _ ?_
 rw[<-L,aSQ,bB,f2,beq_self_eq_true,cG]
 exact fin
theorem N1(c:X.A.units+20<cLine)(h:QE X a d)(f:QE X b g):QT X (.Compare a [.NotEq] [b] pos) (jD (j3 d g AO)):=zO (NR c) (λ_ _ _ _ _=>Oc) h f (dy _)
end
end TL
namespace aI
open PySem L2 TL
def MG:FS:=
 (f9 (er (jD (pa Y1 (nE (fB Y0 fP)))) (iF (aA Y0 Y1)) jK)
  (iF (fI 0)))
def iW:List T->Option T:=jM MG 2
def ME:FS:=
 (iF (B0 (fI 0) Y1 Y0))
def mT:List T->Option T:=jM ME 2
def J3:FS:=
 (iF (zW (vQ "int" Y0) (AA (vQ "bool" Y0))))
def nT:List T->Option T:=jM J3 1
def p5:FS:=
 (f9 (er (oC (l9 (mX (gG 2 mT (fB Y0 (fB Y3 fP))))) (l9 (mX (gG 2 mT (fB Y0 (fB Y4 fP)))))) DV jK)
  (er (jD (Di Y3 (aA Y2 Y4))) (xE (aA Y2 Y4) (fB Y3 fP)) jK))
def rS:FS:=
 (f9 (gR (jW (lA Y0 1 [] (gN 0) iI (jW (iN fP)))) (gN 2))
  (f9 (pW Y1 (gU [3,4])
   p5)
  (iF Y2)))
def iS:List T->Option T:=jM rS 5
def q8:FS:=
 (er (tI (jD (Di Y2 Y1)) (mX (Cj (fB (gT (kZ (aA Y0 Y2) 1 [1] (gN 0) iI (Hv Y0 Y1))) fP)))) (iF Y2) jK)
def tP:FS:=
 (f9 (mC (nE (fB Y0 fP)) (gN 2)
  q8)
  DV)
def nO:List T->Option T:=jM tP 3
def uX:FS:=
 (xE Y3 (fB (gG 2 nO (fB Y2 (fB Y3 fP))) fP))
def z5:FS:=
 (f9 (gR (gG 2 iS (fB Y0 (fB Y1 fP))) (gN 2))
  (f9 (gR (jW (iN fP)) (gN 3))
  (f9 (nF (jD (pa (nE (fB Y3 fP)) Y0)) uX 10)
  (iF Y3))))
def lW:List T->Option T:=jM z5 4
def rL:FS:=
 (iF (gT (oY Y0 Y1 2 [] (gU [0,1]) iI (jH Y0 Y1))))
def lQ:List T->Option T:=jM rL 2
def uK:FS:=
 (sC (FA (gT (kZ (aA Y3 Y5) 1 [4,0] (gN 0) iI (jH (aA Y1 Y0) (aA Y2 Y0)))) (fI 0)) Y4 Y5)
def zK:FS:=
 (f9 (gR (gG 2 lW (fB (nE (fB Y0 fP)) (fB Y1 fP))) (gN 2))
  (f9 (gR (gG 2 iS (fB (nE (fB Y0 fP)) (fB Y1 fP))) (gN 3))
  (f9 (gR (jW (kZ Y2 1 [] (gN 0) iI (fI 0))) (gN 4))
  (f9 (pW Y2 (gN 5)
   uK)
  (iF Y4)))))
def nG:List T->Option T:=jM zK 6
def KY:FS:=
 (iF (FA (gG 2 lQ (fB (gG 2 nG (fB Y0 (fB Y1 fP))) (fB Y0 fP))) (fI 0)))
def mE:List T->Option T:=jM KY 2
def Vj:FS:=
 (iF (jH (aA Y0 (fI 0)) (aA Y0 (fI 1))))
def nK:List T->Option T:=jM Vj 1
def t8:FS:=
 (f9 (er (oC (l9 (mX (gG 2 mT (fB Y0 (fB Y3 fP))))) (l9 (mX (gG 2 mT (fB Y0 (fB Y4 fP)))))) (se "NoOrder" (fB (fC (.str "a need names a number that is no work")) fP)) jK)
  (er (jD (Di Y3 (aA Y2 Y4))) (xE (aA Y2 Y4) (fB Y3 fP)) jK))
def qY:FS:=
 (f9 (gR (jW (lA Y0 1 [] (gN 0) iI (jW (iN fP)))) (gN 2))
  (f9 (pW Y1 (gU [3,4])
   t8)
  (iF Y2)))
def xC:List T->Option T:=jM qY 5
def vH:List T->Option String:=E0 qY 5
def wG:FS:=
 (er (tI (jD (Di Y2 Y1)) (mX (Cj (fB (gT (kZ (aA Y0 Y2) 1 [1] (gN 0) iI (Hv Y0 Y1))) fP)))) (iF Y2) jK)
def rG:FS:=
 (f9 (mC (nE (fB Y0 fP)) (gN 2)
  wG)
  (se "NoOrder" (fB (fC (.str "a work would have to be done ahead of itself")) fP)))
def WO:List T->Option T:=jM rG 3
def xA:List T->Option String:=E0 rG 3
def WW:FS:=
 (fX (D6 Y3 (vy 2 xA (fB Y2 (fB Y3 fP)))) (xE Y3 (fB (gG 2 WO (fB Y2 (fB Y3 fP))) fP)))
def Ws:FS:=
 (f9 (fX (vy 2 vH (fB Y0 (fB Y1 fP))) (gR (gG 2 xC (fB Y0 (fB Y1 fP))) (gN 2)))
  (f9 (gR (jW (iN fP)) (gN 3))
  (f9 (nF (jD (pa (nE (fB Y3 fP)) Y0)) WW 10)
  (iF Y3))))
def Wx:List T->Option String:=E0 Ws 4
def wV:FS:=
 (A5 Y2 Y4 (aA Y3 (fI 0)))
def wW:FS:=
 (pW (gT (yi Y3 (wO (fI 1)) qJ)) (gN 4)
  wV)
def LJ:FS:=
 (f9 (gR (jW (lA Y0 1 [] (gN 0) iI (fI 0))) (gN 2))
  (f9 (pW Y1 (gN 3)
   wW)
  (iF Y2)))
def oN:List T->Option T:=jM LJ 5
def uO:FS:=
 (f9 (er (jD (Hu Y1 (aA Y0 (fI 2)))) (iF (n4 Y1 (aA Y0 (fI 0)))) jK)
  (iF (jH (n4 (aA Y0 (fI 2)) (pO (aA Y0 (fI 0)) (aA Y0 (fI 1)))) (n4 Y1 (aA Y0 (fI 1))))))
def m6:List T->Option T:=jM uO 2
def Ka:FS:=
 (f9 (gR (gG 2 oN (fB (nE (fB Y0 fP)) (fB Y1 fP))) (gN 3))
  (f9 (gR (An (fB (gT (oY Y0 Y3 2 [] (gU [0,1]) iI (gG 2 m6 (fB Y0 (fB Y1 fP))))) fP)) (gN 4))
  (iF (pO Y4 (n4 Y2 (An (fB (gT (kZ Y1 1 [] (gN 0) iI (aA Y0 (fI 0)))) fP)))))))
def yF:List T->Option T:=jM Ka 5
def y3:FS:=
 (iF (An (fB (gT (oY Y0 Y1 2 [] (gU [0,1]) iI (n4 (aA Y0 (fI 2)) (pO (aA Y0 (fI 0)) (aA Y1 (fI 1)))))) fP)))
def qT:List T->Option T:=jM y3 2
def K6:FS:=
 (f9 (gR (kH (jH (jH (n4 Y0 (fI 48271)) (n4 (n4 Y1 Y1) (fI 69621))) (fI 3)) (fI 2147483647)) (gN 2))
  (f9 (gR (kH (n4 Y2 Y2) (fI 2147483629)) (gN 2))
  (iF (kH (n4 Y2 Y2) (fI 2147483587)))))
def jE:List T->Option T:=jM K6 3
def u9:FS:=
 (f9 (gR (kH Y2 (fI 40)) (gN 3))
  (sC (gG 2 jE (fB (jH (aA Y1 Y3) (aA Y0 Y2)) (fB Y2 fP))) Y1 Y3))
def yO:FS:=
 (f9 (gR (jW (lA (fI 40) 1 [0] (gN 0) iI (gG 2 jE (fB (gG 2 iW (fB Y1 (fB (fI 0) fP))) (fB (jH (fI 90) Y0) fP))))) (gN 1))
  (f9 (tW (fI 2) (tM (fB (fI 63) (fB (nE (fB Y0 fP)) fP))) (gN 2)
   u9)
  (iF Y1)))
def oZ:List T->Option T:=jM yO 4
def MB:FS:=
 (Dn Y2 (fB (kH (gG 2 jE (fB Y0 (fB Y3 fP))) (jH Y3 (fI 1))) (fB Y3 fP)))
def LB:FS:=
 (f9 (gR (jW (iN fP)) (gN 2))
  (f9 (mC Y1 (gN 3)
   MB)
  (iF Y2)))
def uI:List T->Option T:=jM LB 4
def uE:FS:=
 (f9 (gR (gG 2 iW (fB Y0 (fB (jH (fI 3) Y5) fP))) (gN 6))
  (f9 (gR (kH Y6 (aA (gT (iN (fB (fI 5) (fB Y3 fP)))) (qX (fB (jw Y3 (fI 1)) fP)))) (gN 7))
  (f9 (gR (Cs Y6 (aA (gT (iN (fB (fI 5) (fB Y3 fP)))) (qX (fB (jw Y3 (fI 1)) fP)))) (gN 6))
  (f9 (gR (kH Y6 (aA (gT (iN (fB (fI 6) (fB Y3 fP)))) (qX (fB (jw Y3 (fI 1)) fP)))) (gN 8))
  (f9 (gR (Cs Y6 (aA (gT (iN (fB (fI 6) (fB Y3 fP)))) (qX (fB (jw Y3 (fI 1)) fP)))) (gN 6))
  (xE Y4 (fB (gT (iN (fB (jH Y7 Y8) (fB Y7 (fB (kH Y6 (aA (gT (iN (fB (fI 5) (fB Y3 fP)))) (qX (fB (jw Y3 (fI 1)) fP)))) fP))))) fP)))))))
def uJ:FS:=
 (f9 (Dn Y9 (fB (kH Y6 (jH Y5 (fI 1))) (fB Y5 fP)))
  (gR (Cs Y6 (jH Y5 (fI 1))) (gN 6)))
def uV:FS:=
 (f9 (er (jD (jx (kH Y6 (fI 2)) (fI 1))) (xE AD (fB (gT (iN (fB AC (fB (aA Y9 Y5) fP)))) fP)) jK)
  (gR (rC Y6 (fI 2)) (gN 6)))
def uF:FS:=
 (pW (gT (yi Y9 qJ (wO Y5))) (gN 11)
  uV)
def zC:FS:=
 (f9 (gR (aA (gT (iN (fB (fI 1) (fB (n4 Y2 (AZ (fI 10) (fI 9))) fP)))) (kH (rC (gG 2 iW (fB Y0 (fB (fI 1) fP))) (fI 576)) (fI 2))) (gN 3))
  (f9 (gR (jW (iN fP)) (gN 4))
  (f9 (mC Y1 (gN 5)
   uE)
  (f9 (gR (gG 2 iW (fB Y0 (fB (fI 2) fP))) (gN 6))
  (f9 (gR (jW (iN fP)) (gN 9))
  (f9 (mC Y1 (gN 5)
   uJ)
  (f9 (gR (jW (iN fP)) (gN 10))
  (f9 (mC Y1 (gN 5)
   uF)
  (iF (u4 (fB Y4 (fB AD fP))))))))))))
def qQ:List T->Option T:=jM zC 12
def Kz:FS:=
 (f9 (gR (kH Y0 (fI 5)) (gN 5))
  (f9 (gR (kH Y1 (fI 6)) (gN 6))
  (f9 (gR (kH Y2 (fI 5)) (gN 7))
  (f9 (er (jD (jx Y3 (fI 1))) (f9 (gR (jH (n4 Y0 Y4) (kH Y1 (fI 97))) (gN 5))
  (f9 (gR (n4 (n4 Y1 Y4) (qX (fB (jw (kH Y1 (fI 4)) (fI 0)) fP))) (gN 6))
  (gR (jH (n4 Y2 Y4) (kH Y0 (fI 89))) (gN 7)))) jK)
  (f9 (er (jD (jx Y3 (fI 2))) (f9 (gR (n4 (kH Y1 (fI 3)) (kH (rC Y1 (fI 3)) (fI 50))) (gN 6))
  (gR (aA (gT (iN (fB (fI 0) (fB (fI 3) (fB (fI 3) (fB (jH (fI 1) (kH Y2 (fI 40))) fP)))))) (kH (rC Y2 (fI 64)) (fI 4))) (gN 7))) jK)
  (f9 (er (tI (jD (jx Y3 (fI 3))) (jD (jx (kH Y0 (fI 3)) (fI 0)))) (gR (fI 0) (gN 5)) jK)
  (iF (gT (iN (fB (jH Y5 Y6) (fB Y5 (fB Y7 fP))))))))))))
def uT:List T->Option T:=jM Kz 8
def JY:FS:=
 (er (jD (jw Y6 (fI 1))) (f9 (gR (jH (fI 1) (kH (aA Y3 AC) (pO Y6 (fI 1)))) (gN 12))
  (f9 (gR (kH (rC (aA Y3 AC) (fI 16)) (tM (fB CG (fB (aA (gT (iN (fB (fI 1) (fB (fI 2) (fB (fI 8) fP))))) (kH (rC Y7 (fI 16)) (fI 3))) fP)))) (gN 13))
  (f9 (gR (aA (gT (iN (fB (pO (pO CG (fI 1)) MI) (fB MI fP)))) (kH (rC Y7 (fI 48)) (fI 2))) (gN 14))
  (Dn AD (fB (kH (rC (aA Y3 AC) (fI 256)) (jH (nE (fB AD fP)) (fI 1))) (fB (gT (iN (fB (aA Y9 W6) (fB (aA Y9 CG) fP)))) fP)))))) jK)
def Ic:FS:=
 (f9 (gR (gG 1 oZ (fB Y0 fP)) (gN 3))
  (f9 (gR (gG 2 iW (fB Y0 (fB (fI 0) fP))) (gN 4))
  (f9 (gR (kH (rC Y4 (fI 4)) (tM (fB (fI 6) (fB (jH Y1 (fI 1)) fP)))) (gN 5))
  (f9 (gR (aA (gT (iN (fB Y5 (fB (pO Y1 (aA (gT (iN (fB (fI 0) (fB (fI 0) (fB (fI 1) (fB (fI 2) fP)))))) (kH (rC Y4 (fI 4)) (fI 4)))) (fB Y5 (fB (tM (fB Y1 (fB (jH (fI 3) (kH (rC Y4 (fI 4)) (fI 3))) fP))) fP)))))) (kH Y4 (fI 4))) (gN 6))
  (f9 (gR (gG 2 iW (fB Y0 (fB (fI 1) fP))) (gN 7))
  (f9 (er (jD (jx (kH (rC Y7 (fI 288)) (fI 2)) (fI 1))) (iF (gG 3 qQ (fB Y0 (fB (tM (fB Y6 (fB (aA (gT (iN (fB (fI 5) (fB (fI 3) fP)))) (qX (fB (pa Y1 (fI 5)) fP))) fP))) (fB Y2 fP))))) jK)
  (f9 (gR (gT (lA Y6 1 [3,7,2] (gN 0) iI (gG 5 uT (fB (aA Y1 Y0) (fB (aA Y1 (jH (fI 8) Y0)) (fB (aA Y1 (jH (fI 16) Y0)) (fB (kH Y2 (fI 4)) (fB Y3 fP)))))))) (gN 8))
  (f9 (gR (gG 2 uI (fB (aA Y3 (fI 39)) (fB Y6 fP))) (gN 9))
  (f9 (gR (jW (iN fP)) (gN 10))
  (f9 (tW (fI 24) (jH (fI 24) (tM (fB (fI 14) (fB (jH Y6 (kH (rC Y7 (fI 4)) (fI 4))) fP)))) (gN 11)
   JY)
  (iF (u4 (fB Y8 (fB (gT (yi AD (wO (kH (rC Y7 (fI 96)) (fI 3))) qJ)) fP))))))))))))))
def Ba:List T->Option T:=jM Ic 15
def tG:FS:=
 (iF (gT (kZ Y0 1 [] (gN 0) iI (aA Y0 (fI 1)))))
def mF:List T->Option T:=jM tG 1
def uR:FS:=
 (iF (EX (jD (jx (aA Y0 (fI 2)) (fI 0))) (aA Y0 (fI 1)) (aA Y0 (fI 0))))
def qM:List T->Option T:=jM uR 1
def wS:FS:=
 (iF (gG 2 mE (fB (gG 1 mF (fB Y0 fP)) (fB Y1 fP))))
def i8:List T->Option T:=jM wS 2
def zZ:FS:=
 (iF (gG 2 mE (fB (gT (kZ Y0 1 [] (gN 0) iI (gG 1 qM (fB Y0 fP)))) (fB Y1 fP))))
def zR:List T->Option T:=jM zZ 2
def w6:FS:=
 (sC (Au (fB (aA Y2 Y5) (fB (jH (aA Y2 Y4) (aA Y0 Y4)) fP))) Y2 Y5)
def wU:FS:=
 (pW Y1 (gU [4,5])
  w6)
def LN:FS:=
 (f9 (gR (jW (kZ Y0 1 [] (gN 0) iI (fI 0))) (gN 2))
  (f9 (mC (nE (fB Y0 fP)) (gN 3)
   wU)
  (iF (Fu (fB (gT (B9 (gT (lA (nE (fB Y0 fP)) 1 [2,0] (gN 0) iI (jH (aA Y1 Y0) (aA Y2 Y0)))) (gT (iN (fB (fI 0) fP))))) fP)))))
def lZ:List T->Option T:=jM LN 6
def Kb:FS:=
 (f9 (gR (gG 2 lZ (fB (gT (kZ Y0 1 [] (gN 0) iI (aA Y0 (fI 1)))) (fB Y1 fP))) (gN 2))
  (iF (u4 (fB Y2 (fB (gG 2 lZ (fB (gT (kZ Y0 1 [] (gN 0) iI (aA Y0 (qX (fB (jx (aA Y0 (fI 2)) (fI 0)) fP))))) (fB Y1 fP))) fP)))))
def sL:List T->Option T:=jM Kb 3
def tQ:FS:=
 (iF (jH (n4 (fI 2) Y0) (fI 2)))
def jA:List T->Option T:=jM tQ 1
def vD:FS:=
 (iF (jH (n4 (fI 2) Y0) (fI 3)))
def jO:List T->Option T:=jM vD 1
def L7:FS:=
 (iF (pO (rC Y0 (fI 2)) (fI 1)))
def sG:List T->Option T:=jM L7 1
def y9:FS:=
 (f9 (pC "Pipe" "tail" Y0 Y1)
  (f9 (pC "Pipe" "head" Y0 Y2)
  (f9 (pC "Pipe" "hours" Y0 Y3)
  (f9 (pC "Pipe" "room" Y0 Y4)
  (pC "Pipe" "back" Y0 (fC .aH))))))
def nL:List T->ab->Option (T×ab):=o3 y9 5
def Mi:FS:=
 (f9 (gR (wY "Pipe" 5 nL [] (fB Y1 (fB Y2 (fB Y3 (fB Y4 fP))))) (gN 5))
  (f9 (gR (wY "Pipe" 5 nL [] (fB Y2 (fB Y1 (fB (EB Y3) (fB (fI 0) fP))))) (gN 6))
  (f9 (pC "Pipe" "back" Y5 Y6)
  (f9 (pC "Pipe" "back" Y6 Y5)
  (xE (mU "Net" "pipes" Y0) (fB Y5 fP))))))
def kR:List T->ab->Option (T×ab):=o3 Mi 7
def pF:FS:=
 (f9 (oB (mR "Net" "lay" 5 kR Y0 (fB (fI 0) (fB (gG 1 jA (fB Y5 fP)) (fB (fI 0) (fB Y4 fP))))))
  (f9 (oB (mR "Net" "lay" 5 kR Y0 (fB (gG 1 jA (fB Y5 fP)) (fB (gG 1 jO (fB Y5 fP)) (fB (aA Y6 (fI 0)) (fB (aA Y6 (fI 2)) fP))))))
  (f9 (oB (mR "Net" "lay" 5 kR Y0 (fB (gG 1 jA (fB Y5 fP)) (fB (gG 1 jO (fB Y5 fP)) (fB (aA Y6 (fI 1)) (fB Y4 fP))))))
  (oB (mR "Net" "lay" 5 kR Y0 (fB (gG 1 jO (fB Y5 fP)) (fB (fI 1) (fB (fI 0) (fB Y4 fP)))))))))
def wI:FS:=
 (oB (mR "Net" "lay" 5 kR Y0 (fB (gG 1 jO (fB Y9 fP)) (fB (gG 1 jA (fB Y7 fP)) (fB (fI 0) (fB Y4 fP))))))
def pB:FS:=
 (pW Y8 (gN 9)
  wI)
def Mo:FS:=
 (f9 (pC "Net" "pipes" Y0 (jW (iN fP)))
  (f9 (pC "Net" "places" Y0 (jH (n4 (fI 2) (nE (fB Y1 fP))) (fI 2)))
  (f9 (gR (jH (jH (An (fB (gT (kZ Y1 1 [] (gN 0) iI (aA Y0 (fI 2)))) fP)) Y3) (fI 1)) (gN 4))
  (f9 (zS Y1 (gU [5,6])
   pF)
  (zS (gG 2 iS (fB (nE (fB Y1 fP)) (fB Y2 fP))) (gU [7,8])
   pB)))))
def p8:List T->ab->Option (T×ab):=o3 Mo 10
def p6:FS:=
 (f9 (gR (gT (B9 (mU "Net" "pipes" Y0) (gT (kZ (mU "Net" "pipes" Y0) 1 [] (gN 0) iI (mU "Pipe" "back" Y0))))) (gN 1))
  (iF (gT (kZ Y1 1 [] (gN 0) (jD (jw (mU "Pipe" "room" Y0) (fI 0))) Y0))))
def kG:List T->ab->Option (T×ab):=o3 p6 2
def pJ:FS:=
 (f9 (gR (jH (aA Y0 (mU "Pipe" "tail" Y3)) (mU "Pipe" "hours" Y3)) (gN 4))
  (er (jD (jw Y4 (aA Y0 (mU "Pipe" "head" Y3)))) (f9 (sC Y4 Y0 (mU "Pipe" "head" Y3))
  (gR (fC (.bl true)) (gN 2))) jK))
def qV:FS:=
 (f9 (gR (fC (.bl false)) (gN 2))
  (f9 (pW Y1 (gN 3)
   pJ)
  (iF Y2)))
def mO:List T->ab->Option (T×ab):=o3 qV 5
def xJ:FS:=
 jK
def tH:FS:=
 (f9 (gR (jW (lA (mU "Net" "places" Y0) 1 [] (gN 0) iI (fI 0))) (gN 2))
  (f9 (sC Y1 Y2 (fI 1))
  (f9 (gR (mR "Net" "open_pipes" 1 kG Y0 fP) (gN 3))
  (f9 (nF (mX (mD 2 mO (fB Y2 (fB Y3 fP)))) xJ (10^200))
  (iF Y2)))))
def jN:List T->ab->Option (T×ab):=o3 tH 4
def qZ:FS:=
 (er (tI (jD (j3 (mU "Pipe" "tail" Y3) Y0 (zM true))) (jD (j3 (mU "Pipe" "head" Y3) Y0 (zM false)))) (yY Y2 (mU "Pipe" "head" Y3) (gT (B9 (A7 Y0 (mU "Pipe" "tail" Y3)) (gT (iN (fB Y3 fP)))))) jK)
def tO:FS:=
 (f9 (gR (wZ (.dk [])) (gN 2))
  (f9 (pW Y1 (gN 3)
   qZ)
  (iF Y2)))
def nP:List T->ab->Option (T×ab):=o3 tO 4
def qW:FS:=
 (oB (zQ Y3 (mD 2 nP (fB Y3 (fB Y2 fP)))))
def tR:FS:=
 (f9 (gR (gT (kZ Y0 1 [1] (gN 0) (jD (jx (jH (aA Y1 (mU "Pipe" "tail" Y0)) (mU "Pipe" "hours" Y0)) (aA Y1 (mU "Pipe" "head" Y0)))) Y0)) (gN 2))
  (f9 (gR (vW (fI 0) (gT (iN fP))) (gN 3))
  (f9 (nF (jD (j3 (fI 1) Y3 (zM false))) qW 40)
  (iF (A7 Y3 (fI 1))))))
def nS:List T->ab->Option (T×ab):=o3 tR 4
def LY:FS:=
 (iF (Fn (fB (gT (kZ Y0 1 [] (gN 0) iI (mU "Pipe" "room" Y0))) fP)))
def sX:List T->ab->Option (T×ab):=o3 LY 1
def Lm:FS:=
 (f9 (wL "Pipe" "room" (λi j=>i - j) Y2 Y1)
  (wL "Pipe" "room" (λi j=>i+j) (mU "Pipe" "back" Y2) Y1))
def Js:FS:=
 (pW Y0 (gN 2)
  Lm)
def DY:List T->ab->Option (T×ab):=o3 Js 3
def uG:FS:=
 (f9 (gR (mD 2 nS (fB (mR "Net" "open_pipes" 1 kG Y0 fP) (fB Y2 fP))) (gN 3))
  (f9 (oB (mD 2 DY (fB Y3 (fB (mD 1 sX (fB Y3 fP)) fP))))
  (gR (mR "Net" "moments" 2 jN Y0 (fB (fI 0) fP)) (gN 2))))
def MA:FS:=
 (f9 (gR (mR "Net" "moments" 2 jN Y0 (fB (fI 0) fP)) (gN 2))
  (nF (jD (jw (aA Y2 (fI 1)) Y1)) uG (10^200)))
def qO:List T->ab->Option (T×ab):=o3 MA 4
def uS:FS:=
 (iF (gT (v6 Y1 1 [0,1] (gN 0) (tI (jD (jx (aA Y0 (fI 0)) Y1)) (jD (jw (A7 Y2 Y0) (fI 0)))) Y0)))
def mV:List T->ab->Option (T×ab):=o3 uS 2
def o5:FS:=
 (f9 (xE Y1 (fB (aA Y2 (fI 0)) fP))
  (gR (mD 2 mV (fB (aA (aA Y2 (fI 0)) (fI 1)) (fB Y0 fP))) (gN 2)))
def q9:FS:=
 (f9 (gR (jW (iN fP)) (gN 1))
  (f9 (gR (mD 2 mV (fB (fI 0) (fB Y0 fP))) (gN 2))
  (f9 (nF (mX Y2) o5 40)
  (iF Y1))))
def lK:List T->ab->Option (T×ab):=o3 q9 3
def yQ:FS:=
 (iF (gT (kZ (gT (A1 Y0)) 2 [] (gU [0,1]) iI (gG 1 sG (fB Y0 fP)))))
def qG:List T->ab->Option (T×ab):=o3 yQ 1
def uL:FS:=
 (A8 (λi j=>i - j) Y0 Y3 Y2)
def Mq:FS:=
 (f9 (gR (Fn (fB (gT (kZ Y1 1 [0] (gN 0) iI (A7 Y1 Y0))) fP)) (gN 2))
  (f9 (pW Y1 (gN 3)
   uL)
  (iF Y2)))
def qR:List T->ab->Option (T×ab):=o3 Mq 4
def rY:FS:=
 (f9 (gR (u4 (fB (mU "Pipe" "tail" Y2) (fB (mU "Pipe" "head" Y2) fP))) (gN 3))
  (yY Y1 Y3 (jH (vF Y1 Y3 (fI 0)) (mU "Pipe" "room" (mU "Pipe" "back" Y2)))))
def rM:FS:=
 (f9 (xE Y4 (fB (jW (B9 (gT (iN (fB (mD 2 qR (fB Y1 (fB Y5 fP))) fP))) (mD 1 qG (fB Y5 fP)))) fP))
  (gR (mD 1 lK (fB Y1 fP)) (gN 5)))
def u5:FS:=
 (f9 (gR (wZ (.dt [])) (gN 1))
  (f9 (pW (mU "Net" "pipes" Y0) (gN 2)
   rY)
  (f9 (gR (jW (iN fP)) (gN 4))
  (f9 (gR (mD 1 lK (fB Y1 fP)) (gN 5))
  (f9 (nF (mX Y5) rM (10^200))
  (iF Y4))))))
def oG:List T->ab->Option (T×ab):=o3 u5 6
def t7:FS:=
 (f9 (gR (wY "Net" 4 p8 [.int 0] (fB Y0 (fB Y1 fP))) (gN 3))
  (f9 (oB (mR "Net" "fill" 2 qO Y3 (fB Y2 fP)))
  (iF Y3)))
def lX:List T->ab->Option (T×ab):=o3 t7 4
def My:FS:=
 (f9 (gR (aA Y2 (gG 1 jA (fB Y0 fP))) (gN 3))
  (iF (jW (iN (fB Y3 (fB (tM (fB (aA Y1 (fI 0)) (fB (pO (aA Y2 (gG 1 jO (fB Y0 fP))) Y3) fP))) fP))))))
def qL:List T->Option (List T):=runN My 4
def vI:FS:=
 (f9 (er (jD (pa Y2 (gG 2 i8 (fB Y0 (fB Y1 fP))))) (iF (fC .aH)) jK)
  (f9 (gR (mR "Net" "moments" 2 jN (mD 3 lX (fB Y0 (fB Y1 (fB Y2 fP)))) (fB Y2 fP)) (gN 3))
  (iF (jW (vE Y0 2 [3] (gU [0,1]) iI (jW (si 3 qL (fB Y0 (fB Y1 (fB Y2 fP))))))))))
def nH:List T->Option (T×ab):=Bc vI 4
def rE:FS:=
 (f9 (er (jD (pa Y2 (gG 2 i8 (fB Y0 (fB Y1 fP))))) (iF (fC .aH)) jK)
  (iF (mR "Net" "stream" 1 oG (mD 3 lX (fB Y0 (fB Y1 (fB Y2 fP)))) fP)))
def lP:List T->Option (T×ab):=Bc rE 3
def tS:FS:=
 (f9 (er (jD (pa Y2 (gG 2 i8 (fB Y0 (fB Y1 fP))))) (iF (fC .aH)) jK)
  (iF (gG 3 yF (fB Y0 (fB (Gd 3 lP (fB Y0 (fB Y1 (fB Y2 fP)))) (fB Y2 fP))))))
def oS:List T->Option T:=jM tS 3
end aI
namespace TL
open PySem L2
section
variable {s:aD}{C:ab}{a b c f A L M:FE}{H N fn:FN}{J D K:FB}{F G:FS}
def aC(f:FE)(s:aD)(C:ab)(Q:T->ab->Prop):Prop:=∃t d,f s C=some (t,d)/\Q t d
def ez(f:FN)(s:aD)(C:ab)(Q:List T->ab->Prop):Prop:=∃t d,f s C=some (t,d)/\Q t d
def hA(f:FB)(s:aD)(C:ab)(Q:Bool->ab->Prop):Prop:=∃t d,f s C=some (t,d)/\Q t d
def wpS(F:FS)(s:aD)(C:ab)(Q:Fl->aD->ab->Prop):Prop:=∃l t d,F s C=some (l,t,d)/\Q l t d
def aJ(o:Option (T×ab))(Q:T->ab->Prop):Prop:=∃t d,o=some (t,d)/\Q t d
def kk(o:Option (List T))(Q:List T->Prop):Prop:=∃t,o=some t/\Q t
def pk(o:Option (List T×ab))(Q:List T->ab->Prop):Prop:=∃t d,o=some (t,d)/\Q t d
def ls(g:FG)(t:T)(C:ab)(s:aD)(Q:aD->Prop):Prop:=∃d,g t C s=some d/\Q d
def CV(o:Option T)(Q:T->Prop):Prop:=∃t,o=some t/\Q t
variable {Q:T->ab->Prop}{O:List T->ab->Prop}{S:Bool->ab->Prop}{QS:Fl->aD->ab->Prop}{QG:aD->Prop}{U:List T->Prop}
variable{i j lo:Int}{u:T}{R:List T->Option T}{us:List T}{P:ab->Prop}{B:FS}
theorem x9{i:Nat}:aC (k8 i) s C Q↔∃t,s[i]?=some (some t)/\Q t C:=by
 unfold aC k8;constructor
 ·rintro⟨t,g,e,q⟩;split at e
  ·rename_i d h;cases e;exact⟨_,h,q⟩
  ·cases e
 ·rintro⟨t,e,q⟩
  exact⟨t,C,by rw[e],q⟩
theorem fF{s:aD}{C:ab}{Q:T->ab->Prop}{i:Nat}{t:T}(h:s[i]?=some (some t))(q:Q t C):aC (k8 i) s C Q:=x9.mpr ⟨_,h,q⟩
def gP:=λ{a b c d}=>(@x9 a b c d).mpr
theorem Ft{t:T}:aC (fC t) s C Q↔Q t C:=by
 unfold aC fC;constructor
 ·rintro⟨_,_,e,q⟩;cases e;exact q
 ·exact λq=>⟨_,_,rfl,q⟩
def fS:=λ{a b c d}=>(@Ft a b c d).mpr
theorem GB{g:T->T->ab->Option (T×ab)}:aC (j3 a b g) s C Q↔aC a s C λx h=>aC b s h λy d=>aJ (g x y d) Q:=by
 unfold aC j3 aJ;constructor
 ·rintro⟨t,m,e,q⟩;obtain⟨⟨x,h⟩,l,e⟩:=eV e;obtain⟨⟨y,d⟩,k,e⟩:=eV e
  exact⟨x,h,l,y,d,k,t,m,e,q⟩
 ·rintro⟨x,h,l,y,d,k,t,m,e,q⟩
  exact⟨t,m,by simp[l,k,e],q⟩
def fD:=λ{a b c d e f}=>(@GB a b c d e f).mpr
theorem FI{g:T->ab->Option (T×ab)}:aC (yh a g) s C Q↔aC a s C λx d=>aJ (g x d) Q:=by
 unfold aC yh aJ;constructor
 ·rintro⟨t,k,e,q⟩;obtain⟨⟨x,d⟩,h,e⟩:=eV e
  exact⟨x,d,h,t,k,e,q⟩
 ·rintro⟨x,d,h,t,k,e,q⟩
  exact⟨t,k,by simp[h,e],q⟩
theorem K0{g:T->T->ab->Option (List T)}:ez (AB a b g) s C O↔aC a s C λx h=>aC b s h λy d=>kk (g x y d) λus=>O us d:=by
 unfold ez aC AB kk;constructor
 ·rintro⟨t,n,e,q⟩;obtain⟨⟨x,h⟩,l,e⟩:=eV e;obtain⟨⟨y,d⟩,k,e⟩:=eV e;obtain⟨us,m,e⟩:=eZ e;cases e
  exact⟨x,h,l,y,_,k,_,m,q⟩
 ·rintro⟨x,h,l,y,d,k,t,e,q⟩
  exact⟨t,d,by simp[l,k,e],q⟩
def mJ:=λ{a b c d e f}=>(@K0 a b c d e f).mpr
theorem Kt:ez fP s C O↔O [] C:=by
 unfold ez fP;constructor
 ·rintro⟨_,_,e,q⟩;cases e;exact q
 ·exact λq=>⟨_,_,rfl,q⟩
def fE:=λ{a b c}=>(@Kt a b c).mpr
theorem Ly:ez (fB a N) s C O↔aC a s C λx g=>ez N s g λxs d=>O (x::xs) d:=by
 unfold ez aC fB;constructor
 ·rintro⟨t,l,e,q⟩;obtain⟨⟨x,g⟩,k,e⟩:=eV e;obtain⟨⟨y,d⟩,h,e⟩:=eZ e;cases e
  exact⟨x,g,k,y,_,h,q⟩
 ·rintro⟨x,g,k,y,d,h,q⟩
  exact⟨_,d,by simp[k,h],q⟩
def eX:=λ{a b c d e}=>(@Ly a b c d e).mpr
theorem Gw{g:List T->ab->Option (T×ab)}:aC (o4 H g) s C Q↔ez H s C λxs d=>aJ (g xs d) Q:=by
 unfold aC ez o4 aJ;constructor
 ·rintro⟨t,k,e,q⟩;obtain⟨⟨x,d⟩,h,e⟩:=eV e
  exact⟨x,d,h,t,k,e,q⟩
 ·rintro⟨x,d,h,t,k,e,q⟩
  exact⟨t,k,by simp[h,e],q⟩
def fK:=λ{a b c d e}=>(@Gw a b c d e).mpr
theorem rR{g:List T->ab->Option (List T)}:ez (rQ H g) s C O↔ez H s C λxs d=>kk (g xs d) λus=>O us d:=by
 unfold ez rQ kk;constructor
 ·rintro⟨t,l,e,q⟩;obtain⟨⟨x,d⟩,h,e⟩:=eV e;obtain⟨us,k,e⟩:=eZ e;cases e
  exact⟨x,_,h,_,k,q⟩
 ·rintro⟨x,d,h,t,e,q⟩
  exact⟨t,d,by simp[h,e],q⟩
theorem Lk:ez (iN H) s C O↔ez H s C λxs d=>xs.length<=lim/\O xs d:=by
 unfold iN;rw[rR];unfold ez kk;constructor
 ·rintro⟨x,d,e,t,g,q⟩;split at g
  ·cases g;exact⟨_,_,e,‹_›,q⟩
  ·cases g
 ·rintro⟨x,d,e,h,q⟩
  exact⟨x,d,e,x,by rw[if_pos h],q⟩
def gS:=λ{a b c d}=>(@Lk a b c d).mpr
theorem KG:aC (gT fn) s C Q↔ez fn s C λus d=>Q (.lst us) d:=by
 unfold aC ez gT;constructor
 ·rintro⟨t,h,e,q⟩;obtain⟨⟨x,d⟩,g,e⟩:=eZ e;cases e
  exact⟨x,_,g,q⟩
 ·rintro⟨x,d,g,q⟩
  exact⟨_,d,by simp[g],q⟩
def fV:=λ{a b c d}=>(@KG a b c d).mpr
theorem K3:aC (jW fn) s C Q↔ez fn s C λus d=>Q (.cell d.length) (d++[(.l,us)]):=by
 unfold aC ez jW;constructor
 ·rintro⟨t,h,e,q⟩;obtain⟨⟨x,d⟩,g,e⟩:=eZ e;cases e
  exact⟨x,_,g,q⟩
 ·rintro⟨x,d,g,q⟩
  exact⟨_,_,by simp[g],q⟩
def jC:=λ{a b c d}=>(@K3 a b c d).mpr
theorem HW{g:Int->Int->T}:aJ (gI g (.int i) (.int j) C) Q↔Q (g i j) C:=by
 unfold aJ gI;constructor
 ·rintro⟨_,_,e,q⟩;cases e;exact q
 ·exact λq=>⟨_,_,rfl,q⟩
def f8:=λ{a b c d e}=>(@HW a b c d e).mpr
theorem Qk{p:Prop}[Decidable p]{o:Option (T×ab)}:aJ (if p then o else none) Q↔p/\aJ o Q:=by
 by_cases h:p<;>simp[h,aJ]
theorem qB{t:T}:aJ (some (t,C)) Q↔Q t C:=by
 unfold aJ;constructor
 ·rintro⟨_,_,e,q⟩;cases e;exact q
 ·exact λq=>⟨_,_,rfl,q⟩
theorem Ji{k:Int->Int->Bool}{g:Int->Int->T}:aJ (qc k g (.int i) (.int j) C) Q↔k i j=true/\Q (g i j) C:=by
 show aJ (if k i j=true then some (g i j,C)else none) Q↔_;rw[Qk,qB]
def f6:=λ{a b c d e f}=>(@Ji a b c d e f).mpr
theorem Jb{t:T}:aJ (AK t (.int i) C) Q↔∃d,kl C t=some d/\∃x,dh d i=some x/\Q x C:=by
 unfold aJ AK;constructor
 ·rintro⟨t,k,e,q⟩;obtain⟨d,h,e⟩:=eV e;obtain⟨x,g,e⟩:=eZ e;cases e
  exact⟨d,h,_,g,q⟩
 ·rintro⟨d,h,x,g,q⟩
  exact⟨_,C,by simp[h,g],q⟩
def gF:=λ{a b c d}=>(@Jb a b c d).mpr
theorem Kr{t:T}:aJ (AQ [t] C) Q↔∃d,kl C t=some d/\Q (.int d.length) C:=by
 unfold aJ AQ;constructor
 ·rintro⟨t,h,e,q⟩;obtain⟨d,g,e⟩:=eZ e;cases e
  exact⟨d,g,q⟩
 ·rintro⟨d,g,q⟩
  exact⟨_,C,by simp[g],q⟩
def kL:=λ{a b c}=>(@Kr a b c).mpr
theorem Ll{t:T}:kk (Dz [t] C) U↔∃d,kl C t=some d/\U d:=aSa
theorem Ki{t:T}:kk (AU t u C) U↔∃d,du C t=some d/\∃us,du C u=some us/\d.length+us.length<=lim/\U (d++us):=by
 unfold kk AU;constructor
 ·rintro⟨t,e,q⟩;obtain⟨d,k,e⟩:=eV e;obtain⟨us,g,e⟩:=eV e;split at e
  ·cases e;exact⟨d,k,us,g,‹_›,q⟩
  ·cases e
 ·rintro⟨d,k,us,g,h,q⟩
  exact⟨_,by simp[k,g,h],q⟩
def m4:=λ{a b c d}=>(@Ki a b c d).mpr
theorem K9{k:List Int->Bool}{g:List Int->Int}{t:T}:aJ (Aw k g [t] C) Q↔∃us,du C t=some us/\∃d,gg us=some d/\k d=true/\Q (.int (g d)) C:=by
 unfold aJ Aw;constructor
 ·rintro⟨t,o,e,q⟩;obtain⟨n,m,e⟩:=eV e;obtain⟨d,l,e⟩:=eV e;split at e
  ·cases e;exact⟨n,m,d,l,‹_›,q⟩
  ·cases e
 ·rintro⟨n,m,us,l,h,q⟩
  exact⟨_,_,by simp[m,l,h],q⟩
def mI:=λ{a b c d e}=>(@K9 a b c d e).mpr
theorem JU{g:List Bool->Bool}{t:T}:aJ (Cd g [t] C) Q↔∃us,du C t=some us/\∃d,ku us=some d/\Q (.bl (g d)) C:=by
 unfold aJ Cd;constructor
 ·rintro⟨t,m,e,q⟩;obtain⟨l,k,e⟩:=eV e;obtain⟨d,h,e⟩:=eZ e;cases e;exact⟨l,k,d,h,q⟩
 ·rintro⟨l,k,us,h,q⟩
  exact⟨_,_,by simp[k,h],q⟩
theorem IY{g:Int->Int->Int}:aJ (Ae g [.int i,.int j] C) Q↔Q (.int (g i j)) C:=qB
theorem GT:aJ (Ae (λi j=>if j<i then j else i) [.int i,.int j] C) Q↔Q (.int (min i j)) C:=by
 rw[IY,show(if j<i then j else i)=min i j by lia]
theorem uM:aJ (Ae (λi j=>if j>i then j else i) [.int i,.int j] C) Q↔Q (.int (max i j)) C:=by
 rw[IY,show(if j>i then j else i)=max i j by lia]
theorem wF{i:Bool}:aJ (Dq [.bl i] C) Q↔Q (.int (if i then 1 else 0)) C:=qB
theorem RQ:aJ (Cb (.int i) C) Q↔Q (.int (-i)) C:=qB
theorem GP{k:String}:aC (vQ k a) s C Q↔aC a s C λt l=>∃x,EV k t=some x/\Q (.bl x) l:=by
 unfold vQ;rw[FI];unfold aC aJ;constructor
 ·rintro⟨t,g,e,m,n,d,q⟩;obtain⟨x,h,d⟩:=eZ d;cases d
  exact⟨t,_,e,x,h,q⟩
 ·rintro⟨t,g,e,x,d,q⟩
  exact⟨t,g,e,_,_,by simp[d],q⟩
theorem Pm{n:Bool}{t:T}:aJ (n2 n t u C) Q↔∃x,dr 3 C t=some x/\∃y,dr 3 C u=some y/\∃k,eqT 5 x y=some k/\Q (.bl (if n then !k else k)) C:=by
 unfold aJ n2;constructor
 ·rintro⟨t,l,e,q⟩;obtain⟨x,h,e⟩:=eV e;obtain⟨y,g,e⟩:=eV e;obtain⟨k,d,e⟩:=eZ e;cases e
  exact⟨x,h,y,g,k,d,q⟩
 ·rintro⟨x,h,y,g,k,d,q⟩
  exact⟨_,_,by simp[h,g,d],q⟩
theorem Oz{n:Bool}{t:T}:aJ (ry n t u C) Q↔∃x,dr 3 C t=some x/\∃m,du C u=some m/\∃us,cg (dr 3 C) m=some us/\∃k,x3 (λw=>eqT 5 w x) us=some k/\Q (.bl (if n then !k else k)) C:=by
 unfold aJ ry;constructor
 ·rintro⟨t,o,e,q⟩;obtain⟨x,l,e⟩:=eV e;obtain⟨y,h,e⟩:=eV e;obtain⟨z,d,e⟩:=eV e;obtain⟨k,g,e⟩:=eZ e;cases e
  exact⟨x,l,y,h,z,d,k,g,q⟩
 ·rintro⟨x,l,y,h,z,d,k,g,q⟩
  exact⟨_,_,by simp[l,h,g,d],q⟩
theorem Tg{n:Nat}{d:List T}(g:d.length=n)(h:ei d=true):aJ (jZ n R d C) Q↔CV (R d) λt=>Q t C:=by
 unfold aJ jZ CV;rw[if_pos g,if_pos h];constructor
 ·rintro⟨t,l,e,q⟩;obtain⟨x,k,e⟩:=eZ e;cases e;exact⟨_,k,q⟩
 ·rintro⟨t,e,q⟩
  exact⟨_,_,by simp[e],q⟩
theorem f7{n:Nat}{d:List T}{t:T}(e:R d=some t)(g:d.length=n)(h:ei d=true):aJ (jZ n R d C) Q↔Q t C:=by
 rw[Tg g h,e];unfold CV;constructor
 ·rintro⟨_,e,q⟩;cases e;exact q
 ·exact λq=>⟨_,rfl,q⟩
theorem oM{n:Nat}{g:List T}(k:g.length=n)(d:cg (dr 3 C) g=some us)(h:CV (R us) λt=>oi t=true/\Q t C):aJ (jZ n R g C) Q:=by
 unfold aJ jZ;obtain⟨t,e,o,q⟩:=h;rw[if_pos k];split
 ·rename_i m;have:us=g:=by
   have l:=xY.mp m;clear k m e;induction g generalizing us with
   |nil=>cases d;rfl
   |cons t g ih=>
    obtain⟨u,w,d⟩:=eV d;obtain⟨r,p,d⟩:=eZ d;cases d;have v:=l t bC;rw[ih p λt h=>l t (aX _ h)];have:u=t:=by
     cases t<;>simp_all [dr,CF]
    rw[this]
  rw[<-this,e]
  exact⟨_,_,rfl,q⟩
 ·rw[d]
  exact⟨t,C,by simp[e,o],q⟩
theorem VE{n:Nat}{R:List T->Option (List T)}{g:List T}(k:g.length=n)(d:cg (dr 3 C) g=some us)(h:kk (R us) λt=>t.all oi=true/\U t):kk (vV n R g C) U:=by
 unfold kk vV;obtain⟨t,e,o,q⟩:=h;rw[if_pos k];split
 ·rename_i m;have:us=g:=by
   have l:=xY.mp m;clear k m e;induction g generalizing us with
   |nil=>cases d;rfl
   |cons t g ih=>
    obtain⟨u,w,d⟩:=eV d;obtain⟨r,p,d⟩:=eZ d;cases d;have v:=l t bC;rw[ih p λt h=>l t (aX _ h)];have:u=t:=by
     cases t<;>simp_all [dr,CF]
    rw[this]
  rw[<-this]
  exact⟨_,e,q⟩
 ·rw[d]
  exact⟨t,by simp only[aS,e,o,if_true],q⟩
theorem Gx:hA (jD a) s C S↔aC a s C λt d=>∃x,t=.bl x/\S x d:=by
 unfold hA aC jD;constructor
 ·rintro⟨t,h,e,q⟩;obtain⟨⟨x,d⟩,g,e⟩:=eV e;dsimp only at e;split at e
  ·cases e;exact⟨_,_,g,_,rfl,q⟩
  ·cases e
 ·rintro⟨x,d,g,y,rfl,q⟩
  exact⟨y,d,by simp[g],q⟩
def gC:=λ{a b c d}=>(@Gx a b c d).mpr
theorem Ko:hA (mX a) s C S↔aC a s C λt d=>∃x,EJ d t=some x/\S x d:=by
 unfold hA aC mX;constructor
 ·rintro⟨t,k,e,q⟩;obtain⟨⟨x,d⟩,h,e⟩:=eV e;obtain⟨y,g,e⟩:=eZ e;cases e
  exact⟨_,_,h,_,g,q⟩
 ·rintro⟨x,d,h,y,g,q⟩
  exact⟨y,d,by simp[h,g],q⟩
def iU:=λ{a b c d}=>(@Ko a b c d).mpr
theorem xQ:hA (tI D K) s C S↔hA D s C λx d=>if x=true then hA K s d S else S false d:=by
 unfold hA tI;constructor
 ·rintro⟨t,g,e,q⟩;obtain⟨⟨x,d⟩,h,e⟩:=eV e
  refine⟨x,d,h,?_⟩
  dsimp only at e;split at e
  ·rw[if_pos ‹_›];exact⟨t,g,e,q⟩
  ·cases e;rw[if_neg ‹_›];exact q
 ·rintro⟨x,d,h,q⟩;split at q
  ·obtain⟨t,g,e,q⟩:=q
   exact⟨t,g,by simp_all,q⟩
  ·exact⟨false,d,by simp_all,q⟩
theorem Jx:hA (oC D K) s C S↔hA D s C λx d=>if x=true then S true d else hA K s d S:=by
 unfold hA oC;constructor
 ·rintro⟨t,g,e,q⟩;obtain⟨⟨x,d⟩,h,e⟩:=eV e
  refine⟨x,d,h,?_⟩
  dsimp only at e;split at e
  ·cases e;rw[if_pos ‹_›];exact q
  ·rw[if_neg ‹_›];exact⟨t,g,e,q⟩
 ·rintro⟨x,d,h,q⟩;split at q
  ·exact⟨true,d,by simp_all,q⟩
  ·obtain⟨t,g,e,q⟩:=q
   exact⟨t,g,by simp_all,q⟩
def jY:=λ{a b c d e}=>(@Jx a b c d e).mpr
theorem Kg:hA (l9 D) s C S↔hA D s C λx d=>S (!x) d:=by
 unfold hA l9;constructor
 ·rintro⟨t,h,e,q⟩;obtain⟨⟨x,d⟩,g,e⟩:=eZ e;cases e
  exact⟨x,_,g,q⟩
 ·rintro⟨x,d,g,q⟩
  exact⟨_,d,by simp[g],q⟩
def jP:=λ{a b c d}=>(@Kg a b c d).mpr
theorem JD:aC (zW a b) s C Q↔aC a s C λt d=>∃x,t=.bl x/\if x=true then aC b s d Q else Q (.bl false) d:=by
 unfold aC zW;constructor
 ·rintro⟨t,g,e,q⟩;obtain⟨⟨x,d⟩,h,e⟩:=eV e
  refine⟨x,d,h,?_⟩
  dsimp only at e;split at e
  ·exact⟨true,rfl,by rw[if_pos rfl];exact⟨t,g,e,q⟩⟩
  ·cases e;exact⟨false,rfl,by rw[if_neg (by simp)];exact q⟩
  ·cases e
 ·rintro⟨x,d,h,y,rfl,q⟩;split at q
  ·obtain⟨t,g,e,q⟩:=q
   exact⟨t,g,by simp_all,q⟩
  ·exact⟨.bl false,d,by simp_all,q⟩
theorem Pn:aC (A0 a b) s C Q↔aC a s C λt d=>∃x,t=.bl x/\if x=true then Q (.bl true) d else aC b s d Q:=by
 unfold aC A0;constructor
 ·rintro⟨t,g,e,q⟩;obtain⟨⟨x,d⟩,h,e⟩:=eV e
  refine⟨x,d,h,?_⟩
  dsimp only at e;split at e
  ·exact⟨false,rfl,by rw[if_neg (by simp)];exact⟨t,g,e,q⟩⟩
  ·cases e;exact⟨true,rfl,by rw[if_pos rfl];exact q⟩
  ·cases e
 ·rintro⟨x,d,h,y,rfl,q⟩;split at q
  ·exact⟨.bl true,d,by simp_all,q⟩
  ·obtain⟨t,g,e,q⟩:=q
   exact⟨t,g,by simp_all,q⟩
theorem So:aC (AA a) s C Q↔aC a s C λt d=>∃x,t=.bl x/\Q (.bl (!x)) d:=by
 unfold aC AA;constructor
 ·rintro⟨t,h,e,q⟩;obtain⟨⟨x,d⟩,g,e⟩:=eV e;dsimp only at e;split at e
  ·cases e;exact⟨_,_,g,_,rfl,q⟩
  ·cases e
 ·rintro⟨x,d,g,y,rfl,q⟩
  exact⟨_,d,by simp[g],q⟩
theorem Qq:aC (EX D a b) s C Q↔hA D s C λx g=>if x=true then aC a s g Q else aC b s g Q:=by
 unfold hA aC EX;constructor
 ·rintro⟨t,d,e,q⟩;obtain⟨⟨x,g⟩,h,e⟩:=eV e
  refine⟨x,g,h,?_⟩
  dsimp only at e;split at e
  ·rw[if_pos ‹_›];exact⟨t,d,e,q⟩
  ·rw[if_neg ‹_›];exact⟨t,d,e,q⟩
 ·rintro⟨x,g,h,q⟩;split at q
  ·obtain⟨t,d,e,q⟩:=q
   exact⟨t,d,by simp_all,q⟩
  ·obtain⟨t,d,e,q⟩:=q
   exact⟨t,d,by simp_all,q⟩
theorem UX{p q:Int->Int->Bool}:aC (vL a b c p q) s C Q↔aC a s C λx k=>aC b s k λy d=>∃i j,x=.int i/\y=.int j/\if p i j=true then aC c s d (λz g=>∃l,z=.int l/\Q (.bl (q j l)) g)else Q (.bl false) d:=by
 unfold aC vL;constructor
 ·rintro⟨t,r,e,q⟩;obtain⟨⟨x,k⟩,o,e⟩:=eV e;obtain⟨⟨y,d⟩,n,e⟩:=eV e
  refine⟨x,k,o,y,d,n,?_⟩
  dsimp only at e;split at e
  ·refine⟨_,_,rfl,rfl,?_⟩
   split at e
   ·rw[if_pos ‹_›];obtain⟨⟨z,g⟩,m,e⟩:=eV e;dsimp only at e;split at e
    ·cases e;exact⟨_,_,m,_,rfl,q⟩
    ·cases e
   ·rw[if_neg ‹_›];cases e;exact q
  ·cases e
 ·rintro⟨x,k,o,y,d,n,i,j,rfl,rfl,h⟩;split at h
  ·obtain⟨z,g,m,l,rfl,q⟩:=h
   exact⟨_,g,by simp_all,q⟩
  ·exact⟨_,d,by simp_all,h⟩
theorem Ln:wpS jK s C QS↔QS .nx s C:=by
 unfold wpS jK;constructor
 ·rintro⟨_,_,_,e,q⟩;cases e;exact q
 ·exact λq=>⟨_,_,_,rfl,q⟩
def gL:=λ{a b c}=>(@Ln a b c).mpr
def sq(G:FS)(Q:Fl->aD->ab->Prop)(l:Fl)(s:aD)(C:ab):Prop:=match l with
 | .nx=>wpS G s C Q
 |l=>Q l s C
theorem Kj:wpS (f9 F G) s C QS↔wpS F s C (sq G QS):=by
 unfold wpS f9;constructor
 ·rintro⟨l,t,n,e,q⟩;obtain⟨⟨d,k,m⟩,g,e⟩:=eV e
  refine⟨d,k,m,g,?_⟩
  cases d<;>first| (cases e;exact q)|exact⟨l,t,n,e,q⟩
 ·rintro⟨d,k,m,g,h⟩;cases d with
  |nx=>obtain⟨l,t,n,e,q⟩:=h;exact⟨l,t,n,by rw[g];exact e,q⟩
  |_=>exact⟨_,k,m,by rw[g];rfl,h⟩
def fJ:=λ{a b c d e}=>(@Kj a b c d e).mpr
theorem Iv:sq G QS .nx s C↔wpS G s C QS:=aSa
def fN:=λ{a b c d}=>(@Iv a b c d).mpr
theorem Oe{t:T}:sq G QS (.rt t) s C↔QS (.rt t) s C:=aSa
theorem Oq{c:String}:sq G QS (.ex c) s C↔QS (.ex c) s C:=aSa
theorem Oa:sq G QS .bk s C↔QS .bk s C:=aSa
theorem N5:sq G QS .ct s C↔QS .ct s C:=aSa
theorem Gc:wpS (er D F G) s C QS↔hA D s C λx g=>if x=true then wpS F s g QS else wpS G s g QS:=by
 unfold hA wpS er;constructor
 ·rintro⟨l,t,d,e,q⟩;obtain⟨⟨x,g⟩,h,e⟩:=eV e
  refine⟨x,g,h,?_⟩
  dsimp only at e;split at e
  ·rw[if_pos ‹_›];exact⟨l,t,d,e,q⟩
  ·rw[if_neg ‹_›];exact⟨l,t,d,e,q⟩
 ·rintro⟨x,g,h,q⟩;split at q
  ·obtain⟨l,t,d,e,q⟩:=q
   exact⟨l,t,d,by simp_all,q⟩
  ·obtain⟨l,t,d,e,q⟩:=q
   exact⟨l,t,d,by simp_all,q⟩
def hX:=λ{a b c d e f}=>(@Gc a b c d e f).mpr
theorem JC:wpS (iF a) s C QS↔aC a s C λt d=>QS (.rt t) s d:=by
 unfold aC wpS iF;constructor
 ·rintro⟨l,t,h,e,q⟩;obtain⟨⟨x,d⟩,g,e⟩:=eZ e;cases e
  exact⟨x,_,g,q⟩
 ·rintro⟨x,d,g,q⟩
  exact⟨_,_,d,by simp[g],q⟩
def fZ:=λ{a b c d}=>(@JC a b c d).mpr
theorem KM:wpS (oB a) s C QS↔aC a s C λt d=>QS .nx s d:=by
 unfold aC wpS oB;constructor
 ·rintro⟨l,t,h,e,q⟩;obtain⟨⟨x,d⟩,g,e⟩:=eZ e;cases e
  exact⟨x,_,g,q⟩
 ·rintro⟨x,d,g,q⟩
  exact⟨_,_,d,by simp[g],q⟩
def mK:=λ{a b c d}=>(@KM a b c d).mpr
theorem JW{g:FG}:wpS (gR a g) s C QS↔aC a s C λt d=>ls g t d s λm=>QS .nx m d:=by
 unfold aC wpS ls gR;constructor
 ·rintro⟨l,t,n,e,q⟩;obtain⟨⟨x,d⟩,k,e⟩:=eV e;obtain⟨m,h,e⟩:=eZ e;cases e
  exact⟨x,_,k,_,h,q⟩
 ·rintro⟨x,d,k,m,h,q⟩
  exact⟨_,_,d,by simp[k,h],q⟩
def fQ:=λ{a b c d e}=>(@JW a b c d e).mpr
theorem Iu{i:Nat}{t:T}:ls (gN i) t C s QG↔QG (s.set i (some t)):=by
 unfold ls gN;constructor
 ·rintro⟨_,e,q⟩;cases e;exact q
 ·exact λq=>⟨_,rfl,q⟩
def fL:=λ{a b c d e}=>(@Iu a b c d e).mpr
theorem Io{is:List Nat}{t:T}:ls (gU is) t C s QG↔∃d,kl C t=some d/\d.length=is.length/\QG (dc is d s):=by
 unfold ls gU;constructor
 ·rintro⟨_,e,q⟩;obtain⟨d,g,e⟩:=eV e;split at e
  ·cases e;exact⟨d,g,‹_›,q⟩
  ·cases e
 ·rintro⟨d,g,h,q⟩
  exact⟨_,by simp[g,h],q⟩
def iO:=λ{a b c d e}=>(@Io a b c d e).mpr
theorem uU:wpS (sC A L M) s C QS↔aC A s C λx m=>aC L s m λy h=>aC M s h λz g=>∃k i,y=.cell k/\z=.int i/\∃d,lc g k=some d/\∃j,jm d.length i=some j/\QS .nx s (g.set k (.l,d.set j x)):=by
 unfold aC wpS sC;constructor
 ·rintro⟨l,t,w,e,q⟩;obtain⟨⟨x,m⟩,v,e⟩:=eV e;obtain⟨⟨y,h⟩,r,e⟩:=eV e;obtain⟨⟨z,g⟩,p,e⟩:=eV e
  refine⟨x,m,v,y,h,r,z,g,p,?_⟩
  dsimp only at e;split at e
  ·obtain⟨d,o,e⟩:=eV e;obtain⟨j,n,e⟩:=eZ e;cases e
   exact⟨_,_,rfl,rfl,d,o,j,n,q⟩
  ·cases e
 ·rintro⟨x,m,v,y,h,r,z,g,p,k,i,rfl,rfl,d,o,j,n,q⟩
  exact⟨_,_,_,by simp[v,r,p,o,n],q⟩
theorem JB{g:List T->List T->Option (List T)}:wpS (AR a H g) s C QS↔aC a s C λx n=>ez H s n λxs m=>∃k,x=.cell k/\(lc n k).isSome=true/\∃d,lc m k=some d/\kk (g d xs) λus=>QS .nx s (m.set k (.l,us)):=by
 unfold aC ez wpS AR kk;constructor
 ·rintro⟨l,t,z,e,q⟩;obtain⟨⟨x,n⟩,v,e⟩:=eV e;obtain⟨⟨y,m⟩,r,e⟩:=eV e
  refine⟨x,n,v,y,m,r,?_⟩
  dsimp only at e;split at e
  ·obtain⟨w,h,e⟩:=eV e;obtain⟨d,p,e⟩:=eV e;obtain⟨j,o,e⟩:=eZ e;cases e
   exact⟨_,rfl,aRD.mpr ⟨_,h⟩,d,p,j,o,q⟩
  ·cases e
 ·rintro⟨x,n,v,y,m,r,k,rfl,h,d,p,j,o,q⟩;obtain⟨w,h⟩:=iR h
  exact⟨_,_,_,by simp[v,r,h,p,o],q⟩
def kO:=λ{a b c d e f}=>(@JB a b c d e f).mpr
theorem JZ{d:List T}{y:T}:kk (Co d [y]) U↔d.length<lim/\U (d++[y]):=by
 unfold kk Co;by_cases h:d.length<lim<;>simp[h]
def lT:=λ{a b c}=>(@JZ a b c).mpr
theorem GN{d:List T}{y:T}:kk (Cz d [.int i,y]) U↔(d.length<lim/\ -(2^63)<=i/\i<2^63)/\U (cc d i y):=by
 unfold kk Cz;by_cases h:d.length<lim/\ -(2^63)<=i/\i<2^63
 ·simp only[if_pos h,cE.injEq,exists_eq_left',and_iff_right h]
 ·simp only[if_neg h,reduceCtorEq,false_and,exists_false]
  exact⟨False.elim,fun(z:_/\_)=>h z.1⟩
theorem PQ{g:FG}(I:Nat->aD->ab->Prop){n:List T}(z:I 0 s C)
 (x:∀i t s C,n[i]?=some t->I i s C->ls g t C s λX=>wpS F X C λl k d=>match l with
  | .nx=>P d/\I (i+1) k d
  | .ct=>P d/\I (i+1) k d
  | .bk=>QS .nx k d
  | .rt v=>QS (.rt v) k d
  | .ex v=>QS (.ex v) k d)
 (y:∀s C,I n.length s C->QS .nx s C):wpS (lH P g F n) s C QS:=by
 induction n generalizing s C I with
 |nil=>exact⟨.nx,s,C,by simp[lH],y _ _ z⟩
 |cons t n ih=>
  obtain⟨X,p,l,k,d,o,m⟩:=x 0 t s C rfl z;have go:P d/\I 1 k d->wpS (lH P g F n) k d QS:=λh=>ih (λi=>I (i+1)) h.2 (λi t s C e h=>x (i+1) t s C e h) (λs C h=>y s C h)
  cases l with
  |nx=>
   obtain⟨l,r,w,e,q⟩:=go m
   exact⟨l,r,w,by simp[lH,p,o,m.1,e],q⟩
  |ct=>
   obtain⟨l,r,w,e,q⟩:=go m
   exact⟨l,r,w,by simp[lH,p,o,m.1,e],q⟩
  |bk=>exact⟨.nx,k,d,by simp[lH,p,o],m⟩
  |rt v=>exact⟨.rt v,k,d,by simp[lH,p,o],m⟩
  |ex v=>exact⟨.ex v,k,d,by simp[lH,p,o],m⟩
theorem Kp{g:FG}:wpS (pW a g F) s C QS↔aC a s C λt h=>∃d,du h t=some d/\wpS (lH (stays t d) g F d) s h QS:=by
 unfold aC wpS pW;constructor
 ·rintro⟨l,t,n,e,q⟩;obtain⟨⟨x,h⟩,m,e⟩:=eV e;obtain⟨d,k,e⟩:=eV e
  exact⟨x,h,m,d,k,l,t,n,e,q⟩
 ·rintro⟨x,h,m,d,k,l,t,n,e,q⟩
  exact⟨l,t,n,by simp[m,k,e],q⟩
def j4:=λ{a b c d e f}=>(@Kp a b c d e f).mpr
theorem Mf{g:FG}:wpS (mC a g F) s C QS↔aC a s C λt d=>∃j,t=.int j/\(-(2^62)<=j/\j<2^62)/\wpS (lH (λ_=>True) g F (wB 0 j.toNat)) s d QS:=by
 unfold aC wpS mC;constructor
 ·rintro⟨l,t,m,e,q⟩;obtain⟨⟨x,d⟩,k,e⟩:=eV e;dsimp only at e;split at e
  ·split at e
   ·exact⟨_,d,k,_,rfl,‹_›,l,t,m,e,q⟩
   ·cases e
  ·cases e
 ·rintro⟨x,d,k,j,rfl,h,l,t,m,e,q⟩
  exact⟨l,t,m,by rw[k];exact(if_pos h).trans e,q⟩
def kI:=λ{a b c d e f}=>(@Mf a b c d e f).mpr
theorem LX{g:FG}:wpS (tW a b g F) s C QS↔aC a s C λt d=>aC b s d λu k=>∃i j,t=.int i/\u=.int j/\(-(2^62)<=i/\i<2^62/\ -(2^62)<=j/\j<2^62)/\wpS (lH (λ_=>True) g F (wB i (j - i).toNat)) s k QS:=by
 unfold aC wpS tW;constructor
 ·rintro⟨l,t,o,e,q⟩;obtain⟨⟨x,d⟩,n,e⟩:=eV e;obtain⟨⟨y,k⟩,m,e⟩:=eV e;dsimp only at e;split at e
  ·split at e
   ·exact⟨_,d,n,_,k,m,_,_,rfl,rfl,‹_›,l,t,o,e,q⟩
   ·cases e
  ·cases e
 ·rintro⟨x,d,n,y,k,m,i,j,rfl,rfl,h,l,t,o,e,q⟩
  exact⟨l,t,o,by rw[n];show((b s d).bind _)=_;rw[m];exact(if_pos h).trans e,q⟩
theorem k7{m:Type}{g:FG}{en:m->T}{xs:List m}(I:Nat->aD->ab->Prop)(p:I 0 s C)
 (n:∀i x s C,xs[i]?=some x->I i s C->ls g (en x) C s λq=>wpS F q C λl k d=>match l with
  | .nx=>P d/\I (i+1) k d
  | .ct=>P d/\I (i+1) k d
  | .bk=>QS .nx k d
  | .rt v=>QS (.rt v) k d
  | .ex v=>QS (.ex v) k d)
 (o:∀s C,I xs.length s C->QS .nx s C):wpS (lH P g F (xs.map en)) s C QS:=by
 refine PQ I p (λi t s C e h=>?_) (λs C h=>o s C (by simpa using h))
 rw[bA]at e;obtain⟨x,ex,rfl⟩:=eZ e
 exact n i x s C ex h
theorem pD{g:FG}{n:Nat}(I:Nat->aD->ab->Prop)(r:I 0 s C)
 (o:∀i s C,i<n->I i s C->ls g (.int (lo+(i:Int))) C s λt=>wpS F t C λl k d=>match l with
  | .nx=>P d/\I (i+1) k d
  | .ct=>P d/\I (i+1) k d
  | .bk=>QS .nx k d
  | .rt v=>QS (.rt v) k d
  | .ex v=>QS (.ex v) k d)
 (p:∀s C,I n s C->QS .nx s C):wpS (lH P g F (wB lo n)) s C QS:=by
 refine k7 I r (λi x s C e h=>?_) (λs C h=>p s C (by simpa using h))
 obtain⟨q,m⟩:=fA e;rw[d4]at m;subst m
 exact o _ s C (by simpa using q) h
theorem Tj{l:Type}{g:FG}{en:l->T}{xs:List l}(I:Nat->aD->ab->Prop)(q:I 0 s C)
 (n:∀i x s C,xs[i]?=some x->I i s C->∀Q:Fl->aD->ab->Prop,(∀m d,P d->I (i+1) m d->Q .nx m d)->ls g (en x) C s λr=>wpS F r C Q)
 (o:∀s C,I xs.length s C->QS .nx s C):wpS (lH P g F (xs.map en)) s C QS:=
 k7 I q (λi x s C e h=>n i x s C e h _ λ_ _ p k=>⟨p,k⟩) o
theorem vA{g:FG}{n:Nat}(I:Nat->aD->ab->Prop)(r:I 0 s C)
 (m:∀i s C,i<n->I i s C->∀Q:Fl->aD->ab->Prop,(∀l d,P d->I (i+1) l d->Q .nx l d)->ls g (.int (lo+(i:Int))) C s λt=>wpS F t C Q)
 (o:∀s C,I n s C->QS .nx s C):wpS (lH P g F (wB lo n)) s C QS:=
 pD I r (λi s C q h=>m i s C q h _ λ_ _ p k=>⟨p,k⟩) o
theorem Lw{k:Nat}{is:List Nat}{g:FG}:ez (kZ a k is g J A) s C O↔aC a s C λt l=>∃d,du l t=some d/\d.length<lim/\pk (kD g J A (fw k is s) d l) O:=by
 unfold aC ez kZ pk;constructor
 ·rintro⟨t,o,e,q⟩;obtain⟨⟨x,l⟩,n,e⟩:=eV e;obtain⟨d,m,e⟩:=eV e;split at e
  ·exact⟨x,l,n,d,m,‹_›,t,o,e,q⟩
  ·cases e
 ·rintro⟨x,l,n,d,m,h,t,o,e,q⟩
  exact⟨t,o,by simp[n,m,h,e],q⟩
def iQ:=λ{a b c d e f g h i}=>(@Lw a b c d e f g h i).mpr
theorem qS{k:Nat}{is:List Nat}{g:FG}:ez (lA a k is g J A) s C O↔aC a s C λt d=>∃j,t=.int j/\(j<400000/\ -(2^62)<=j)/\pk (kD g J A (fw k is s) (wB 0 j.toNat) d) O:=by
 unfold aC ez lA pk;constructor
 ·rintro⟨t,m,e,q⟩;obtain⟨⟨x,d⟩,l,e⟩:=eV e;dsimp only at e;split at e
  ·split at e
   ·exact⟨_,d,l,_,rfl,‹_›,t,m,e,q⟩
   ·cases e
  ·cases e
 ·rintro⟨x,d,l,j,rfl,h,t,m,e,q⟩
  exact⟨t,m,by rw[l];exact(if_pos h).trans e,q⟩
theorem vY{k:Nat}{is:List Nat}{g:FG}:ez (oY a b k is g J A) s C O↔aC a s C λt m=>aC b s m λu l=>∃d,du l t=some d/\∃us,du l u=some us/\(t5 d us).length<lim/\pk (kD g J A (fw k is s) (t5 d us) l) O:=by
 unfold aC ez oY pk;constructor
 ·rintro⟨t,v,e,q⟩;obtain⟨⟨x,m⟩,r,e⟩:=eV e;obtain⟨⟨y,l⟩,p,e⟩:=eV e;obtain⟨d,o,e⟩:=eV e;obtain⟨us,n,e⟩:=eV e;split at e
  ·exact⟨x,m,r,y,l,p,d,o,us,n,‹_›,t,v,e,q⟩
  ·cases e
 ·rintro⟨x,m,r,y,l,p,d,o,us,n,h,t,v,e,q⟩
  exact⟨t,v,by simp[r,p,o,n,h,e],q⟩
theorem sZ{k:Type}{g:FG}{en:k->T}{xs:List k}(p:k->Bool)(u:k->T)
 (h:∀x∈xs,ls g (en x) C s λl=>hA J l C λy o=>o=C/\y=p x/\(p x=true->aC A l C λt n=>n=C/\t=u x))
 (m:O ((xs.filter p).map u) C):pk (kD g J A s (xs.map en) C) O:=by
 refine⟨_,C,?_,m⟩
 clear m;induction xs with
 |nil=>rfl
 |cons x xs ih=>
  obtain⟨l,z,y,o,w,rfl,rfl,r⟩:=h x bC;have ih:=ih λy q=>h y (aX _ q)
  rw[aK];unfold kD;rw[z,aS,w,aS];by_cases d:p x=true
  ·obtain⟨t,n,v,rfl,rfl⟩:=r d;rw[if_pos d,v,aS,ih,aSg d,KB];rfl
  ·rw[if_neg d,KB,ih,aSh d]
theorem iG{α:Type}{g:FG}{en:α->T}{xs:List α}(u:α->T)
 (h:∀x∈xs,ls g (en x) C s λd=>aC A d C λt m=>m=C/\t=u x)
 (l:O (xs.map u) C):pk (kD g iI A s (xs.map en) C) O:=
 sZ (λ_=>true) u (λx k=>let ⟨d,e,q⟩:=h x k;⟨d,e,true,C,rfl,rfl,rfl,λ_=>q⟩) (by rw[List.filter_eq_self.mpr (λ_ _=>rfl)];exact l)
theorem pX{n:Nat}:wB lo n=(bH n).map fun(i:Nat)=>T.int (lo+(i:Int)):=rfl
theorem rJ{α d:Type}{f:α->T}{g:d->T}{xs:List α}{h:List d}:t5 (xs.map f) (h.map g)=(xs.zip h).map λp=>.tup [f p.1,g p.2]:=by
 unfold t5;rw[List.zip_map,bR];rfl
theorem iP{m:Nat}{d:List T}{t:T}(h:wpS B (gp m d) [] λl s C=>match l with
 | .rt r=>dr 3 C r=some t
 | .nx=>t=.aH
 |_=>False):jM B m d=some t:=by
 obtain⟨l,s,C,e,q⟩:=h;unfold jM;rw[e];cases l with
 |nx=>cases q;rfl
 |rt r=>exact q
 |_=>exact q.elim
theorem Q2{m:Nat}{d:List T}(h:wpS B (gp m d) [] λl s C=>match l with
 | .rt (.cell c)=>lc C c=some us/\ei us=true
 |_=>False):runN B m d=some us:=by
 obtain⟨l,s,C,e,q⟩:=h;unfold runN;rw[e];cases l with
 |rt r=>
  cases r with
  |cell c=>show(lc C c).bind _=_;rw[q.1];exact if_pos q.2
  |_=>exact q.elim
 |_=>exact q.elim
end
variable{i j:Int}{c:Nat}
theorem gZ{α:Type}{o:Option α}{y:α}{p:α->Prop}(e:o=some y):(∃x,o=some x/\p x)↔p y:=by
 constructor
 ·rintro⟨x,a,h⟩;rw[e]at a;cases a
  exact h
 ·exact λh=>⟨y,e,h⟩
def Bt(k:Nat)(n:Int):Prop:=n.natAbs<2^k
theorem Bt.bits{n:Int}{k:Nat}(h:Bt k n):Builtin.Int.intBits n<=k:=by
 unfold Builtin.Int.intBits;unfold Bt at h;by_cases z:n=0
 ·subst z;exact dM _
 ·have:(n==0)=false:=by simpa using z
  rw[this];have:=(aTy (by lia)).mpr h;simp
  lia
theorem Bt.mono{n:Int}{k m:Nat}(h:Bt k n)(a:k<=m):Bt m n:=bL h (aRP (by decide) a)
theorem Bt.mul{x y:Int}{k m:Nat}(h:Bt k x)(a:Bt m y):Bt (k+m) (x*y):=by
 unfold Bt at*;rw[Int.natAbs_mul,Nat.pow_add]
 exact Nat.mul_lt_mul'' h a
theorem Bt.sub{x y:Int}{k:Nat}(h:Bt k x)(a:Bt k y):Bt (k+1) (x - y):=by
 show(x - y).natAbs<2^(k+1);rw[Nat.pow_succ,Nat.mul_two]
 exact dP (Int.natAbs_sub_le x y) (Nat.add_lt_add h a)
theorem Bt.of_lt{x:Int}{k:Nat}(b:0<=x)(a:x<2^k):Bt k x:=by
 unfold Bt;have:((x.natAbs:Nat):Int)<((2^k:Nat):Int):=by
  rw[aSy b];simpa using a
 exact aTs.mp this
theorem tZ{m n:Nat}(b:Bt m i)(a:Bt n j)(h:m+n<=134217728):m7 i j=true:=by
 have b:=b.bits;have a:=a.bits;have d:Builtin.Int.intTooBig (Builtin.Int.intBits i+Builtin.Int.intBits j)=false:=by
  unfold Builtin.Int.intTooBig bitsLine
  exact decide_eq_false (by lia)
 unfold m7;rw[d];simp
theorem jS(a:Bt 64 i):m7 i j=true:=by
 have:=a.bits;unfold m7 shortFactorBits;rw[show decide (Builtin.Int.intBits i>64)=false from decide_eq_false (by lia)];simp
theorem kB(a:Bt 64 j):m7 i j=true:=by
 have:=a.bits;unfold m7 shortFactorBits;rw[show decide (Builtin.Int.intBits j>64)=false from decide_eq_false (by lia)];simp
theorem Bt.mod{x m:Int}{k:Nat}(b:0<m)(a:m<=2^k):Bt k (x%m):=
 .of_lt (aSp _ (by lia)) (aR0 (aR1 _ b) a)
theorem DX{n:Nat}(a:0<=i)(h:i<n):jm n i=some i.toNat:=by
 unfold jm;rw[if_pos a,if_pos h]
theorem SS{n j:Nat}(h:j<n):jm n (j:Int)=some j:=by
 rw[DX (by lia) (by lia)];rfl
theorem oO{a:Type}{xs:List a}(b:0<=i):dh xs i=xs[i.toNat]?:=by
 unfold dh jm;rw[if_pos b];by_cases h:i<xs.length
 ·rw[if_pos h];rfl
 ·rw[if_neg h,b5 (by lia)];rfl
theorem sE{a:Type}{xs:List a}{j:Nat}:dh xs (j:Int)=xs[j]?:=oO (by lia)
theorem Bg{α:Type}{x:α}{xs:List α}:dh (x::xs) 0=some x:=by rw[oO (by decide)];rfl
theorem Bh{α:Type}{x y:α}{xs:List α}:dh (x::y::xs) 1=some y:=by rw[oO (by decide)];rfl
theorem DE{α:Type}{x y z:α}{xs:List α}:dh (x::y::z::xs) 2=some z:=by rw[oO (by decide)];rfl
theorem LV{x y:Int}:dh [T.int x,T.int y] (i%2)=some (.int (if i%2=0 then x else y)):=by
 rcases(by lia:i%2=0\/i%2=1)with h|h<;>rw[h]<;>rfl
theorem hJ:ei []=true:=by unfold ei;rfl
theorem fW{t:T}{a:List T}:ei (t::a)=(CF t&&ei a):=by rw[ei]
theorem gW:CF (.int i)=true:=by unfold CF;rfl
theorem mB{i:Bool}:CF (.bl i)=true:=by unfold CF;rfl
theorem gY{a:List T}:CF (.lst a)=ei a:=by rw[CF]
theorem lE{a:List T}:CF (.tup a)=ei a:=by rw[CF]
theorem Q7:CF (.cell c)=false:=by unfold CF;rfl
theorem tD{a:Type}{f:a->T}{xs:List a}(h:∀x∈xs,CF (f x)=true):ei (xs.map f)=true:=xY.mpr λt d=>by
 obtain⟨x,b,rfl⟩:=fU d
 exact h x b
theorem iX{ns:List Int}:ei (ns.map T.int)=true:=tD λ_ _=>gW
theorem iH{t:T}{n:Nat}{C:ab}(h:CF t=true):dr n C t=some t:=by
 cases n with
 |zero=>unfold dr;rw[if_pos h]
 |succ n=>
  cases t with
  |cell c=>rw[Q7]at h;cases h
  |lst a=>unfold dr;rw[gY]at h;rw[if_pos h]
  |tup a=>unfold dr;rw[lE]at h;rw[if_pos h]
  |_=>unfold dr;rw[if_pos h]
theorem RW{f:T->Option T}{a:List T}(h:∀t∈a,f t=some t):cg f a=some a:=by
 induction a with
 |nil=>rfl
 |cons t a ih=>unfold cg;rw[h t bC,aS,ih λu b=>h u (aX _ b)];rfl
theorem GA{a:List T}{n:Nat}{C:ab}(h:ei a=true):cg (dr n C) a=some a:=RW λt b=>iH (xY.mp h t b)
theorem yA{n:Nat}{C:ab}{a:List T}(e:lc C c=some a)(h:ei a=true):dr (n+1) C (.cell c)=some (.lst a):=by
 unfold dr;rw[e,aS,GA h];rfl
theorem pR{f:T->Option T}:cg f []=some []:=rfl
theorem iC{f:T->Option T}{t u:T}{a us:List T}(h:f t=some u)(b:cg f a=some us):cg f (t::a)=some (u::us):=by
 unfold cg;rw[h,aS,b];rfl
theorem Sj{n:Nat}:eqT n (.int i) (.int j)=some (i==j):=by cases n<;>rfl
theorem n5{α:Type}{xs:List α}{f:α->Int}:gg (xs.map λx=>T.int (f x))=some (xs.map f):=by
 rw[show(xs.map λx=>T.int (f x))=(xs.map f).map T.int by simp];exact sW _
theorem RU{a:Type}{xs:List a}{f:a->Bool}:ku (xs.map λx=>T.bl (f x))=some (xs.map f):=by
 rw[show(xs.map λx=>T.bl (f x))=(xs.map f).map T.bl by simp];exact R8 _
theorem vB{a:Type}{f:a->T}{xs:List a}{j:Nat}{x:a}:(xs.map f).set j (f x)=(xs.set j x).map f:=by rw[aSS]
theorem zG{n:Nat}(h:n<=1000):n<lim:=by unfold lim;lia
section
variable {g:aD}{C:ab}{a b c f s v w:FE}{A B fn:FN}{D H I:FB}{F G:FS}{lo r:FO}
variable {Q:T->ab->Prop}{J:List T->ab->Prop}{K:Bool->ab->Prop}{QS:Fl->aD->ab->Prop}{QG:aD->Prop}{L:List T->Prop}{QO:Option Int->ab->Prop}
variable{l h:Option Int}{p:Int×Int×Int}{ns:List Int}{u:T}
def zj(f:FO)(g:aD)(C:ab)(Q:Option Int->ab->Prop):Prop:=∃o d,f g C=some (o,d)/\Q o d
theorem F7:zj qJ g C QO↔QO none C:=by
 unfold zj qJ;constructor
 ·rintro⟨_,_,e,q⟩;cases e;exact q
 ·exact λq=>⟨_,_,rfl,q⟩
theorem yN:zj (wO a) g C QO↔aC a g C λt d=>∃i,t=.int i/\QO (some i) d:=by
 unfold zj aC wO;constructor
 ·rintro⟨t,m,e,q⟩;obtain⟨⟨x,d⟩,k,e⟩:=eV e;dsimp only at e;split at e
  ·cases e;exact⟨_,_,k,_,rfl,q⟩
  ·cases e
 ·rintro⟨x,d,k,y,rfl,q⟩
  exact⟨some y,d,by simp[k],q⟩
theorem F6:ez (yi a lo r) g C J↔aC a g C λt n=>zj lo g n λl m=>zj r g m λh k=>∃d,du k t=some d/\J (Ar d l h) k:=by
 unfold ez aC zj yi;constructor
 ·rintro⟨t,P,e,q⟩;obtain⟨⟨x,n⟩,O,e⟩:=eV e;obtain⟨⟨y,m⟩,N,e⟩:=eV e;obtain⟨⟨z,k⟩,M,e⟩:=eV e;obtain⟨d,o,e⟩:=eZ e;cases e
  exact⟨x,n,O,y,m,N,z,_,M,d,o,q⟩
 ·rintro⟨x,n,O,y,m,N,z,k,M,d,o,q⟩
  exact⟨_,k,by simp[O,N,M,o],q⟩
def tA{d:Type}(xs:List d)(lo r:Option Int):List d:=(xs.drop (HT.ik xs.length 0 lo)).take (HT.ik xs.length xs.length r - HT.ik xs.length 0 lo)
theorem GW{d:Type}{f:d->T}{xs:List d}:Ar (xs.map f) l h=(tA xs l h).map f:=by
 unfold Ar tA;simp[aTm,aTn]
theorem TX{d:Type}{xs:List d}{x:d}(m:x∈tA xs l h):x∈xs:=List.mem_of_mem_drop (aSz m)
theorem Uu{d:Type}{xs:List d}:(tA xs l h).length<=xs.length:=by
 unfold tA;simp;lia
theorem T8{d:Type}{xs:List d}{k:Int}(m:0<=k):tA xs (some k) none=xs.drop k.toNat:=by
 unfold tA;have e:HT.ik xs.length 0 (some k)=min k.toNat xs.length:=by
  show(if k<0 then(k+(xs.length:Int)).toNat else min k.toNat xs.length)=_;rw[if_neg (by lia)]
 rw[e,HT.Lc];by_cases h:k.toNat<=xs.length
 ·rw[aSo h,dL (by simp)]
 ·rw[aSf (by lia),d7 (by lia:xs.length<=xs.length),d7 (by lia:xs.length<=k.toNat)];simp
theorem Ru{d:Type}{xs:List d}{k:Int}(m:0<=k):tA xs none (some k)=xs.take k.toNat:=by
 unfold tA;have e:HT.ik xs.length xs.length (some k)=min k.toNat xs.length:=by
  show(if k<0 then(k+(xs.length:Int)).toNat else min k.toNat xs.length)=_;rw[if_neg (by lia)]
 rw[e,HT.Lc,aTf,aTt];by_cases h:k.toNat<=xs.length
 ·rw[aSo h]
 ·rw[aSf (by lia),dL (bE _),dL (by lia)]
noncomputable def pT(p:Int×Int):T:=.lst [.int p.1,.int p.2]
noncomputable def w3(p:Int×Int×Int):T:=.lst [.int p.1,.int p.2.1,.int p.2.2]
noncomputable def iT(ns:List Int):T:=.lst (ns.map T.int)
theorem Dy{p:Int×Int}:CF (pT p)=true:=by simp[pT,gY,fW,hJ,gW]
theorem Be:CF (w3 p)=true:=by simp[w3,gY,fW,hJ,gW]
theorem HV:CF (iT ns)=true:=by rw[iT,gY];exact iX
theorem kA{ps:List (Int×Int)}:ei (ps.map pT)=true:=tD λ_ _=>Dy
theorem nA{ps:List (Int×Int×Int)}:ei (ps.map w3)=true:=tD λ_ _=>Be
theorem OR{d:List (List Int)}:ei (d.map iT)=true:=tD λ_ _=>HV
theorem J7{k:Type}[DecidableEq k]{e:T->T->Option Bool}{f:k->T}(h:∀x y,e (f x) (f y)=some (decide (x=y))):∀{xs d:List k},xs.length=d.length->n3 e (xs.map f) (d.map f)=some (decide (xs=d))
 | [],[],_=>rfl
 |x::xs,y::d,m=>by
  rw[aK,aK];unfold n3;rw[h,aS,J7 h (by simpa using m)];simp only[dU,aSE.injEq,Bool.decide_and]
theorem uD{k:Type}[DecidableEq k]{n:Nat}{f:k->T}(h:∀x y,eqT n (f x) (f y)=some (decide (x=y))){xs ys:List k}:eqT (n+1) (.lst (xs.map f)) (.lst (ys.map f))=some (decide (xs=ys)):=by
 unfold eqT;by_cases d:xs.length=ys.length
 ·rw[if_pos (by simpa using d),J7 h d]
 ·rw[if_neg (by simpa using d),decide_eq_false (λz=>d (by rw[z]))]
theorem r6{n:Nat}{i j:Int}:eqT n (.int i) (.int j)=some (decide (i=j)):=by rw[Sj];congr 1
theorem IH{n:Nat}{p q:Int×Int}:eqT (n+1) (pT p) (pT q)=some (decide (p=q)):=by
 have:=uD (n:=n) (f:=T.int) (λx y=>r6) (xs:=[p.1,p.2]) (ys:=[q.1,q.2]);obtain⟨a,b⟩:=p;obtain⟨c,d⟩:=q;simp only[aK,aY]at this;unfold pT;rw[this];simp
theorem Qf{n:Nat}{q:Int×Int×Int}:eqT (n+1) (w3 p) (w3 q)=some (decide (p=q)):=by
 have:=uD (n:=n) (f:=T.int) (λx y=>r6) (xs:=[p.1,p.2.1,p.2.2]) (ys:=[q.1,q.2.1,q.2.2]);obtain⟨a,b,e⟩:=p;obtain⟨c,d,f⟩:=q;simp only[aK,aY]at this;unfold w3;rw[this];simp
theorem Kc{d:Type}[DecidableEq d]{e:T->T->Option Bool}{f:d->T}(h:∀x y,e (f x) (f y)=some (decide (x=y))){y:d}:∀{xs:List d},x3 (λu=>e u (f y)) (xs.map f)=some (decide (y∈xs))
 | []=>rfl
 |x::xs=>by
  rw[aK];unfold x3;rw[h,aS,Kc h];simp only[dU,cE.injEq,bU,Bool.decide_or];congr 1;by_cases z:x=y
  ·simp[z]
  ·simp[z,show¬y=x from λq=>z q.symm]
theorem Qp{d:Type}[DecidableEq d]{n:Bool}{f:d->T}{y:d}{xs:List d}[Decidable (y∈xs)]{t:T}(h:∀x y,eqT 5 (f x) (f y)=some (decide (x=y)))(o:∀x,CF (f x)=true)(m:dr 3 C t=some (f y))(k:du C u=some (xs.map f)):
 aJ (ry n t u C) Q↔Q (.bl (if n then !decide (y∈xs)else decide (y∈xs))) C:=by
 rw[Oz,gZ m,gZ k,gZ (GA (tD λx _=>o x)),gZ ((Kc h).trans (congrArg some (kX aSa)))]
theorem GO{d:Type}[DecidableEq d]{n:Bool}{f:d->T}{x y:d}{t:T}(h:∀x y,eqT 5 (f x) (f y)=some (decide (x=y)))(m:dr 3 C t=some (f x))(k:dr 3 C u=some (f y)):
 aJ (n2 n t u C) Q↔Q (.bl (if n then !decide (x=y)else decide (x=y))) C:=by
 rw[Pm,gZ m,gZ k,gZ (h x y)]
theorem Gz{i j:Int}:aJ (n2 false (.int i) (.int j) C) Q↔Q (.bl (decide (i=j))) C:=GO (f:=T.int) (λ_ _=>r6) (iH gW) (iH gW)
def iZ:=λ{a b c d}=>(@Gz a b c d).mpr
theorem Gr{i j:Int}:aJ (n2 true (.int i) (.int j) C) Q↔Q (.bl (!decide (i=j))) C:=GO (f:=T.int) (λ_ _=>r6) (iH gW) (iH gW)
theorem Km{n:Bool}{i:Int}(h:du C u=some (ns.map T.int)):aJ (ry n (.int i) u C) Q↔Q (.bl (if n then !decide (i∈ns)else decide (i∈ns))) C:=Qp (f:=T.int) (λ_ _=>r6) (λ_=>gW) (iH gW) h
theorem Sf{n:Bool}{i:Int}:aJ (ry n (.int i) (.lst (ns.map T.int)) C) Q↔Q (.bl (if n then !decide (i∈ns)else decide (i∈ns))) C:=Km rfl
theorem HK{x y:Bool}:(if false=true then x else y)=y:=rfl
theorem Od{x y:Bool}:(if true=true then x else y)=x:=rfl
instance{k:Nat}{n:Int}:Decidable (Bt k n):=by unfold Bt;infer_instance
theorem Bt.pq{k:Nat}{n:Int}(m:0<=n)(h:n<1024)(d:10<=k):Bt k n:=(Bt.of_lt (k:=10) m h).mono d
theorem TN{t:T}{d:Int}:aJ (aEl t (.int d) C) Q↔∃k,du C t=some k/\∃ns,gg k=some ns/\Q (.int (kS d ns)) C:=by
 unfold aJ aEl;constructor
 ·rintro⟨t,o,e,q⟩;obtain⟨k,n,e⟩:=eV e;obtain⟨ns,m,e⟩:=eZ e;cases e
  exact⟨k,n,ns,m,q⟩
 ·rintro⟨k,n,ns,m,q⟩
  exact⟨_,C,by simp[n,m],q⟩
theorem QC{d:List T}:du C (.lst d)=some d:=rfl
theorem QX{d:List T}:lc ((.l,d)::C) 0=some d:=rfl
theorem RO{x:Cl}{n:Nat}:lc (x::C) (n+1)=lc C n:=rfl
theorem UI{c:Nat}:du C (.cell c)=lc C c:=rfl
theorem SC{d:List T}:kl C (.lst d)=some d:=rfl
theorem SY{c:Nat}:kl C (.cell c)=lc C c:=rfl
theorem RY{d:List T}:kl C (.tup d)=some d:=rfl
theorem P1{p:Int×Int}:kl C (pT p)=some [.int p.1,.int p.2]:=rfl
theorem OF:kl C (w3 p)=some [.int p.1,.int p.2.1,.int p.2.2]:=rfl
theorem OY{p:List Int}:kl C (iT p)=some (p.map T.int):=rfl
theorem Pj{p:List Int}:du C (iT p)=some (p.map T.int):=rfl
theorem PF{p:Int×Int}:du C (pT p)=some [.int p.1,.int p.2]:=rfl
theorem NY:du C (w3 p)=some [.int p.1,.int p.2.1,.int p.2.2]:=rfl
def BX(Q:Fl->aD->ab->Prop)(l:Fl)(g:aD)(C:ab):Prop:=match l with
 | .nx=>∃d,fo C g=some d/\Q .nx d []
 |l=>Q l g C
theorem RV:BX QS .nx g C↔∃d,fo C g=some d/\QS .nx d []:=aSa
theorem RB{t:T}:BX QS (.rt t) g C↔QS (.rt t) g C:=aSa
theorem F9{b:Bool}:EJ C (.bl b)=some b:=rfl
end
variable{d:Type}{ps:List (Int×Int)}
theorem m8{B:FS}{m:Nat}{a:List T}{P:T->Prop}(h:wpS B (gp m a) [] λl b C=>match l with
 | .rt r=>∃t,dr 3 C r=some t/\P t
 | .nx=>P .aH
 |_=>False):∃t,jM B m a=some t/\P t:=by
 obtain⟨l,b,C,e,q⟩:=h;unfold jM;rw[e];cases l with
 |nx=>exact⟨_,rfl,q⟩
 |rt r=>exact q
 |_=>exact q.elim
theorem zH{a:Type}{xs:List a}{i:Int}{y:a}:(cc xs i y).length=xs.length+1:=by
 unfold cc;rw[bF,aM,c8,aSe]
 lia
theorem vO{a:Type}{f:a->d}{xs:List a}{i:Int}{y:a}:cc (xs.map f) i (f y)=(cc xs i y).map f:=by
 unfold cc;simp[aTn,aTm]
theorem wK{a:Type}{xs:List a}{i:Int}{y:a}:(cc xs i y).Perm (y::xs):=by
 unfold cc
 refine List.perm_middle.trans ?_
 rw[List.take_append_drop]
theorem xM{a:Type}{f:a->d}{xs:List a}{i:Int}:dh (xs.map f) i=(dh xs i).map f:=by
 unfold dh;rw[aN];cases jm xs.length i<;>simp
theorem OS{a:Type}{xs:List a}{i:Int}(b:0<=i)(h:i<xs.length):dh xs i=some (xs[i.toNat]'(by lia)):=by
 rw[oO b,aO (by lia)]
theorem jJ{x m:Int}(h:0<m):0<=x%m/\x%m<m:=⟨aSp _ (by lia),aR1 _ h⟩
theorem lG{x y:Int}(a:0<=x)(h:x<1024):m7 x y=true:=jS (Bt.pq a h (by decide))
theorem mH{x y:Int}(a:0<=y)(h:y<1024):m7 x y=true:=kB (Bt.pq a h (by decide))
theorem l6{p:Prop}[Decidable p](h:p):decide p=true:=decide_eq_true h
theorem KL{n c:Nat}{C:ab}(e:lc C c=some (ps.map pT)):dr (n+1) C (.cell c)=some (.lst (ps.map pT)):=yA e kA
theorem nV{n c:Nat}{C:ab}{ps:List Int}(e:lc C c=some (ps.map T.int)):dr (n+1) C (.cell c)=some (.lst (ps.map T.int)):=yA e iX
theorem Ax{ns:List Int}{i:Int}(a:0<=i)(h:i<ns.length):dh (ns.map T.int) i=some (.int (ns[i.toNat]'(by lia))):=by rw[xM,OS a h];rfl
theorem Rg{a b:Int}:ps.map pT++[.lst [.int a,.int b]]=(ps++[(a,b)]).map pT:=by rw[bN];rfl
theorem Gb{ps:List Int}{a:Int}:ps.map T.int++[.int a]=(ps++[a]).map T.int:=by rw[bN];rfl
theorem HH{n:Nat}{C:ab}{vs:List Int}:dr n C (.lst (vs.map T.int))=some (.lst (vs.map T.int)):=iH (by rw[gY];exact iX)
theorem Hy{n:Nat}{C:ab}{vs:List (Int×Int)}:dr n C (.lst (vs.map pT))=some (.lst (vs.map pT)):=iH (by rw[gY];exact kA)
theorem KQ{n:Bool}{xs a:List (Int×Int)}{C:ab}{Q:T->ab->Prop}:aJ (n2 n (.lst (xs.map pT)) (.lst (a.map pT)) C) Q↔Q (.bl (if n then !decide (xs=a)else decide (xs=a))) C:=GO (f:=λxs:List (Int×Int)=>T.lst (xs.map pT)) (λ_ _=>uD λ_ _=>IH) Hy Hy
theorem qE:∀{ns:List Int},ns≠[]->uH ns∈ns/\∀a∈ns,a<=uH ns:=by
 have key:∀(ns:List Int)(n:Int),(ns.foldl (λa b=>if b>a then b else a) n=n\/ns.foldl (λa b=>if b>a then b else a) n∈ns)/\n<=ns.foldl (λa b=>if b>a then b else a) n/\∀a∈ns,a<=ns.foldl (λa b=>if b>a then b else a) n:=by
  intro ns;induction ns with
  |nil=>intro n;simp
  |cons m ns ih=>
   intro n;rw[aRR];obtain⟨h1,h,g⟩:=ih (if m>n then m else n);by_cases k:m>n
   ·rw[if_pos k]at h1 h g|-
    refine⟨?_,by lia,λa f=>?_⟩
    ·rcases h1 with h1|h1
     ·rw[h1];simp
     ·exact .inr (aX _ h1)
    ·rcases fR f with rfl|f
     ·exact h
     ·exact g a f
   ·rw[if_neg k]at h1 h g|-
    refine⟨?_,h,λa f=>?_⟩
    ·rcases h1 with h1|h1
     ·exact .inl h1
     ·exact .inr (aX _ h1)
    ·rcases fR f with rfl|f
     ·lia
     ·exact g a f
 intro ns l;cases ns with
 |nil=>exact absurd rfl l
 |cons n ns=>
  obtain⟨h1,h,g⟩:=key ns n
  refine⟨?_,λa f=>?_⟩
  ·rcases h1 with h1|h1
   ·show aSI (λa b=>if b>a then b else a) n ns∈n::ns;rw[h1];simp
   ·exact aX _ h1
  ·rcases fR f with rfl|f
   ·exact h
   ·exact g a f
end TL
section
open PySem L2 TL
local macro_rules
 | `(tactic|simp_arith[$xs,*])=>do
   let xs:Lean.TSyntaxArray [`Lean.Parser.Tactic.simpStar,`Lean.Parser.Tactic.simpErase,`Lean.Parser.Tactic.simpLemma]:=xs
   `(tactic|simp (maxSteps:=2000000) (disch:=first|assumption|decide) only[↓RV,↓RB,↓P1,↓OF,↓OY,↓Pj,↓PF,↓NY,↓TN,if_true,if_false,Bool.false_eq_true,↓KQ,↓Sf,HK,Od,↓F7,↓yN,↓F6,↓Gz,↓Gr,↓x9,↓Ft,↓GB,↓FI,↓K0,↓Kt,↓Ly,↓Gw,↓rR,↓Lk,↓KG,↓K3,↓HW,↓qB,↓Ji,↓Jb,↓Kr,↓Ll,↓Ki,↓K9,↓JU,↓GT,↓uM,↓wF,↓RQ,↓GP,↓Gx,↓Ko,↓xQ,↓Jx,↓Kg,↓JD,↓Pn,↓So,↓Qq,↓UX,↓Ln,↓Kj,↓Iv,↓Oe,↓Oa,↓N5,↓Oq,↓Gc,↓JC,↓KM,↓JW,↓Iu,↓Io,↓uU,↓JB,↓JZ,↓GN,↓Kp,↓Mf,↓LX,↓Lw,↓qS,↓vY,QX,RO,Option.isSome_some,List.getElem?_cons_zero,List.getElem?_cons_succ,List.set_cons_zero,List.set_cons_succ,List.length_cons,List.length_nil,List.nil_append,List.cons_append,Option.some.injEq,T.int.injEq,T.bl.injEq,T.lst.injEq,T.cell.injEq,T.tup.injEq,exists_eq_left,exists_eq_left',exists_and_left,dc,SC,SY,RY,QC,UI,and_true,true_and,Nat.reduceAdd,$xs,*])
namespace aI
open PySem L2 TL
variable{ns:List Int}{Q:T->ab->Prop}
noncomputable def oA(ns:List Int)(k:Int):Int:=(ns[k.toNat]?).getD 0
theorem SB{k:Int}(a:0<=k):iW [.lst (ns.map T.int),.int k]=some (.int (oA ns k)):=by
 apply iP;unfold MG;walk_at "a";simp_arith[if_true];simp only[aN];unfold oA;by_cases h:k<ns.length
 ·rw[if_pos (by simpa using h)];rw[oO a,bA,aO (by lia)]
  exact⟨_,rfl,iH gW⟩
 ·rw[if_neg (by simpa using h)];rw[b5 (by lia)]
  exact iH gW
theorem uZ{k:Int}{C:ab}(a:0<=k):aJ (jZ 2 iW [.lst (ns.map T.int),.int k] C) Q↔Q (.int (oA ns k)) C:=f7 (SB a) rfl (by walk_at "c")
noncomputable def DT(m n:Int):Bool:=decide (0<=n/\n<m)
theorem VI{m n:Int}:mT [.int m,.int n]=some (.bl (DT m n)):=by
 apply iP;unfold ME DT;walk_at "a";simp_arith[if_true];by_cases h:0<=n
 ·rw[if_pos (by simpa using h)];rw[iH mB];simp[h]
 ·rw[if_neg (by simpa using h),iH mB];simp[h]
theorem Wl{m n:Int}{C:ab}:aJ (jZ 2 mT [.int m,.int n] C) Q↔Q (.bl (DT m n)) C:=f7 VI rfl (by walk_at "c")
end aI
namespace TL
open PySem L2
section
variable {a:aD}{C:ab}{c:FB}{F:FS}{Q:Fl->aD->ab->Prop}
theorem Uc{n:Nat}(I:Nat->aD->ab->Prop){k:Nat}(t:k<n)(w:I k a C)
 (s:∀i a C,i<n->I i a C->hA c a C λb o=>if b=true then wpS F a o (λl f g=>match l with
  | .nx=>i+1<n/\I (i+1) f g
  | .ct=>i+1<n/\I (i+1) f g
  | .bk=>Q .nx f g
  | .rt v=>Q (.rt v) f g
  | .ex v=>Q (.ex v) f g)else Q .nx a o):wpS (nF c F (n - k)) a C Q:=by
 obtain⟨d,u⟩:∃d,n - k=d:=⟨_,rfl⟩;rw[u];induction d generalizing k a C with
 |zero=>lia
 |succ d ih=>
  obtain⟨b,o,j,h⟩:=s k a C t w;cases b with
  |false=>
   rw[if_neg (by simp)]at h
   exact⟨.nx,a,o,by unfold nF;rw[j];rfl,h⟩
  |true=>
   rw[if_pos rfl]at h;obtain⟨l,f,g,m,h⟩:=h;cases l with
   |nx=>
    obtain⟨l,p,r,e,q⟩:=ih h.1 h.2 (by lia)
    exact⟨l,p,r,by unfold nF;rw[j,aS,if_pos rfl,m,aS];exact e,q⟩
   |ct=>
    obtain⟨l,p,r,e,q⟩:=ih h.1 h.2 (by lia)
    exact⟨l,p,r,by unfold nF;rw[j,aS,if_pos rfl,m,aS];exact e,q⟩
   |bk=>exact⟨.nx,f,g,by unfold nF;rw[j,aS,if_pos rfl,m];rfl,h⟩
   |rt v=>exact⟨.rt v,f,g,by unfold nF;rw[j,aS,if_pos rfl,m];rfl,h⟩
   |ex v=>exact⟨.ex v,f,g,by unfold nF;rw[j,aS,if_pos rfl,m];rfl,h⟩
theorem WD{g:FG}{b:List T}(f:∀t∈b,∀C,∃d,g t C a=some d):∀{C:ab},kD g iI (jW (iN fP)) a b C=some ((bH b.length).map (λi=>T.cell (C.length+i)),C++aP b.length (.l,[])):=by
 induction b with
 |nil=>intro C;simp[kD]
 |cons t b ih=>
  intro C;obtain⟨d,e⟩:=f t bC C;unfold kD;rw[e,aS];show(iI d C).bind _=_;have j:jW (iN fP) d C=some (.cell C.length,C++[(.l,[])]):=by
   unfold jW iN rQ fP;simp[lim]
  simp only[iI,aS,if_true,j];rw[ih λu h=>f u (aX _ h),Fs (aR2 _ _)];simp only[dU,bF,aM,aU,cJ];congr 2
  ·rw[d3,aK,bR];simp only[aSR,aSE.injEq,true_and];apply cF;intro i _;simp only[dN];congr 1;lia
end
end TL
namespace aI
open PySem L2 TL
variable{ps:List (Int×Int)}{nd:List (List Int)}{told o:List Int}{w:Nat}
def Nd(ps:List (Int×Int))(m:Nat)(nd:List (List Int)):Prop:=nd.length=m/\∀(b:Nat)(l:List Int),nd[b]?=some l->l.length<=ps.length/\∀a,a∈l↔(a,(b:Int))∈ps
def ji(m:Nat)(ps:List (Int×Int)):Prop:=∀p∈ps,(0<=p.1/\p.1<m)/\(0<=p.2/\p.2<m)
theorem K5{m n:Int}(h:0<=n/\n<m):DT m n=true:=l6 h
theorem vX{m:Nat}(P:m<=100)(Q:ps.length<=1000)(J:ji m ps):∃t,iS [.int m,.lst (ps.map pT)]=some t/\∃nd,t=.lst (nd.map iT)/\Nd ps m nd:=by
 apply m8;unfold rS;walk_at "a";simp_arith[if_true]
 refine⟨by lia,?_⟩
 refine⟨_,_,WD (g:=gN 0) (λt O C=>⟨_,rfl⟩),?_⟩
 simp only[wB,aN,eL,aV,aU,dX,eJ,cB]
 refine k7 (λi q C=>∃a b,q=[some (.int m),some (.lst (ps.map pT)),some (.cell m),a,b]/\∃d:List (List Int),C=d.map (λl=>(Kd.l,l.map T.int))++[(.l,(bH m).map T.cell)]/\d.length=m/\
  ∀(b:Nat)(l:List Int),d[b]?=some l->l.length<=i/\∀a,a∈l↔(a,(b:Int))∈ps.take i) ?_ ?_ ?_
 ·refine⟨_,_,rfl,aP m [],by simp,by simp,λb l e=>?_⟩
  rw[cN]at e;split at e
  ·cases e;simp
  ·cases e
 ·rintro i ⟨x,y⟩ q C s ⟨a,b,rfl,d,rfl,f,n⟩;obtain⟨z,r⟩:=J _ (aZ s);have S:i<ps.length:=(fA s).1;simp only at z r;unfold p5;obtain⟨y,rfl⟩:∃F:Nat,y=F:=⟨_,(bG r.1).symm⟩;have g:y<d.length:=by lia
  have M:lc (d.map (λl=>(Kd.l,l.map T.int))++[(.l,(bH m).map T.cell)]) m=some ((bH m).map T.cell):=by
   rw[nM];rw[bD (by simp[f])];simp[f]
  have A:lc (d.map (λl=>(Kd.l,l.map T.int))++[(.l,(bH m).map T.cell)]) y=some (d[y].map T.int):=by
   rw[nM];rw[aW (by simpa using g)];simp[g]
  have N:dh ((bH m).map T.cell) (y:Int)=some (.cell y):=by
   rw[sE,bA,cW (by lia)];rfl
  simp_arith[↓Wl,F9,K5 z,K5 r,↓gZ M,↓gZ N,↓Km (show du _ (T.cell y)=_ from A),Bool.not_true,aTh];have next:∀l,(∀c,c∈l↔c∈d[y]\/c=x)->l.length<=i+1->∀(b:Nat)(j:List Int),(d.set y l)[b]?=some j->j.length<=i+1/\∀a,a∈j↔(a,(b:Int))∈ps.take (i+1):=by
   intro l I H b j e;have B:∀a,(a,(b:Int))∈ps.take (i+1)↔(a,(b:Int))∈ps.take i\/(a=x/\b=y):=λa=>by
    rw[dY,s];simp only[dD,eB,dO,aTF.injEq];constructor
    ·rintro(h| ⟨p,v⟩)
     ·exact .inl h
     ·exact .inr ⟨p,by lia⟩
    ·rintro(h| ⟨p,v⟩)
     ·exact .inl h
     ·exact .inr ⟨p,by lia⟩
   by_cases u:b=y
   ·subst u;rw[bK g]at e;cases e
    refine⟨H,λa=>?_⟩
    rw[I,B,(n b _ (aO g)).2];simp
   ·rw[aT (Ne.symm u)]at e;obtain⟨p,v⟩:=n b j e
    refine⟨by lia,λa=>?_⟩
    rw[B,v];simp[u]
  obtain⟨L,_⟩:=n y _ (aO g);split
  ·rw[A]
   refine⟨rfl,_,rfl,by walk_at "b",trivial,_,_,rfl,d.set y (d[y]++[x]),?_,by simpa using f,next _ (λc=>by simp) (by simp;lia)⟩
   rw[Gb,aSA _ _ (by simpa using g),aSS]
  ·rename_i K;have G:x∈d[y]:=by simpa using K
   refine⟨trivial,_,_,rfl,d,rfl,f,λb l e=>?_⟩
   have:=next d[y] (λc=>⟨.inl,λh=>h.elim id λh=>by rw[h];exact G⟩) (by lia) b l
   rw[eK]at this
   exact this e
 ·rintro q C ⟨a,b,rfl,d,rfl,f,n⟩;simp_arith[if_true]
  refine⟨.lst (d.map iT),?_,d,rfl,f,λb l e=>?_⟩
  ·unfold dr;rw[show lc (d.map (λl=>(Kd.l,l.map T.int))++[(.l,(bH m).map T.cell)]) m=some ((bH m).map T.cell)from by rw[nM,bD (by simp[f])];simp[f]];simp only[aS];rw[show cg (dr 2 (d.map (λl=>(Kd.l,l.map T.int))++[(.l,(bH m).map T.cell)])) ((bH m).map T.cell)=some (d.map iT)from ?_]
   ·rfl
   ·have:∀(k:Nat),k<=m->cg (dr 2 (d.map (λl=>(Kd.l,l.map T.int))++[(.l,(bH m).map T.cell)])) (((bH m).drop (m - k)).map T.cell)=some ((d.drop (m - k)).map iT):=by
     intro k;induction k with
     |zero=>intro _;rw[aTt,d7 (by simp),d7 (by lia)];rfl
     |succ k ih=>
      intro R;have D:m - (k+1)<m:=by lia
      rw[aRB (by simpa using D),aRB (by lia:m - (k+1)<d.length),show m - (k+1)+1=m - k by lia];rw[aK,aK]
      refine iC ?_ (ih (by lia))
      rw[d4]
      refine yA ?_ iX
      rw[nM];rw[aW (by simp;lia)];simp[f,D]
    have:=this m (bE _);simpa using this
  ·have:=n b l e;rw[cO]at this
   exact this
def D2(nd:List (List Int))(told:List Int)(w:Nat):Prop:=(w:Int)∉told/\∀l,nd[w]?=some l->∀a∈l,a∈told
theorem W4(x:nd.length<=100)(r:∀l∈nd,l.length<=1000)(u:w<nd.length)(p:D2 nd told w)(t:∀v<w,¬D2 nd told v):
 nO [.lst (nd.map iT),.lst (told.map T.int)]=some (.int w):=by
 apply iP;unfold tP;walk_at "a";simp_arith[aN]
 refine⟨by lia,pD (λi j C=>C=[]/\∃a,j=[some (.lst (nd.map iT)),some (.lst (told.map T.int)),a]/\i<=w) ⟨rfl,_,rfl,dM _⟩ ?_ ?_⟩
 ·rintro i j C y ⟨rfl,a,rfl,n⟩;have g:i<nd.length:=by lia
  have s:dh (nd.map iT) (0+(i:Int))=some (iT nd[i]):=by
   rw[dF,sE,bA,aO g];rfl
  have q:=r _ (c9 g);unfold q8;simp_arith[↓gZ s];have fin:∀b:Bool,(b=true↔D2 nd told i)->if b=true then dr 3 [] (.int (0+(i:Int)))=some (T.int w)else∃a,[some (T.lst (nd.map iT)),some (T.lst (told.map T.int)),some (T.int (0+(i:Int)))]=[some (.lst (nd.map iT)),some (.lst (told.map T.int)),a]/\i+1<=w:=by
   intro b c;have m:i<w\/i=w:=by lia
   rcases m with h|h
   ·rw[if_neg (λz=>t i h (c.mp z))]
    exact⟨_,rfl,h⟩
   ·subst h;rw[if_pos (c.mpr p),dF]
    exact iH gW
  by_cases f:(0+(i:Int))∈told
  ·have d:=fin false (Iff.intro (λz=>nomatch z) (λz=>(z.1 (by simpa using f)).elim));rw[if_neg (by simp)]at d;rw[if_neg (by simpa using f)]
   exact d
  ·rw[if_pos (by simpa using f)]
   refine⟨by walk_at "b",iG (λa=>T.bl (decide (a∈told))) (λa _=>?_) ?_⟩
   ·simp only[fw,aP,aK,aY,aV,aR,aQ,bP,bO,b9];simp_arith[if_true]
   rw[RU]
   refine⟨_,rfl,_,F9,?_⟩
   have d:=fin (List.all (nd[i].map λa=>decide (a∈told)) id) (by
    rw[aTq,eR];constructor
    ·intro h
     refine⟨by simpa using f,λl e a k=>?_⟩
     rw[aO g]at e;cases e;simpa using h a k
    ·intro h a k;simpa using h.2 _ (aO g) a k)
   split at d
   ·rename_i c;rw[if_pos c];exact d
   ·rename_i c;rw[if_neg c];exact⟨rfl,d⟩
 ·rintro j C ⟨rfl,a,rfl,n⟩
  lia
theorem Lb{P:Nat->Prop}(h:∃n,P n):∃n,P n/\∀k<n,¬P k:=by
 obtain⟨n,d⟩:=h;induction n using Nat.strongRecOn with
 |_ n ih=>
  by_cases c:∃k,k<n/\P k
  ·obtain⟨k,b,a⟩:=c
   exact ih k b a
  ·exact⟨n,d,λk b a=>c ⟨k,b,a⟩⟩
theorem JG:∀(m:Nat)(l:List Int),(∀w:Nat,w<m->(w:Int)∈l)->m<=l.length
 |0,_,_=>dM _
 |m+1,l,h=>by
  have a:=h m (dZ _);have:=JG m (l.erase m) λw b=>(List.mem_erase_of_ne (by lia)).mpr (h w (by lia))
  rw[aRF a]at this;have:=List.length_pos_of_mem a
  lia
theorem GK:∀(m:Nat)(l:List Int),l.Nodup->(∀x∈l,0<=x/\x<m)->l.length<=m
 |0,l,_,h=>by
  cases l with
  |nil=>simp
  |cons x l=>have:=h x bC;lia
 |m+1,l,b,h=>by
  by_cases c:(m:Int)∈l
  ·have:=GK m (l.erase m) (b.erase _) λx a=>by
    have f:=h x (List.mem_of_mem_erase a);have d:x≠m:=λz=>by subst z;exact(List.Nodup.mem_erase_iff b).mp a |>.1 rfl
    lia
   rw[aRF c]at this
   lia
  ·have:=GK m l b λx a=>by
    have f:=h x a;have d:x≠m:=λz=>c (z ▸ a)
    lia
   lia
def Ao(ps:List (Int×Int))(told:List Int)(w:Nat):Prop:=(w:Int)∉told/\∀a,(a,(w:Int))∈ps->a∈told
theorem Nd.Hj{m:Nat}(h:Nd ps m nd)(i:w<m):D2 nd told w↔Ao ps told w:=by
 have j:w<nd.length:=by rw[h.1];exact i
 have e:=aO j;obtain⟨_,f⟩:=h.2 w _ e;constructor
 ·rintro⟨d,c⟩
  exact⟨d,λa b=>c _ e a ((f a).mpr b)⟩
 ·rintro⟨d,c⟩
  refine⟨d,λl g a b=>?_⟩
  rw[e]at g;cases g
  exact c a ((f a).mp b)
def tp(ps:List (Int×Int)):Prop:=∃r:Int->Nat,∀p∈ps,r p.1<r p.2
theorem Py{m:Nat}(b:ji m ps)(c:tp ps)(q:told.length<m):∃w,w<m/\Ao ps told w:=by
 obtain⟨r,c⟩:=c;have d:∃w:Nat,w<m/\(w:Int)∉told:=cV λl=>by
  have:=JG m told λw b=>cV λf=>l ⟨w,b,f⟩
  lia
 obtain⟨k,⟨w,i,h,s⟩,p⟩:=Lb (P:=λk=>∃w:Nat,w<m/\(w:Int)∉told/\r w=k) (by obtain⟨w,i,h⟩:=d;exact⟨r w,w,i,h,rfl⟩)
 refine⟨w,i,h,λa j=>cV λf=>?_⟩
 have g:=(b _ j).1;have n:=c _ j;simp only at g n
 refine p (r a) (by lia) ⟨a.toNat,by lia,?_,?_⟩
 ·rw[bG g.1];exact f
 ·rw[bG g.1]
def Ak(ps:List (Int×Int))(m:Nat)(o:List Int):Prop:=∀(i:Nat)(x:Int),o[i]?=some x->∃w:Nat,x=w/\w<m/\Ao ps (o.take i) w/\∀v<w,¬Ao ps (o.take i) v
theorem Ak.snoc{m:Nat}(h:Ak ps m o)(a:w<m)(b:Ao ps o w)(f:∀v<w,¬Ao ps o v):Ak ps m (o++[(w:Int)]):=by
 intro i x e;by_cases c:i<o.length
 ·rw[aW c]at e;rw[List.take_append_of_le_length (by lia)]
  exact h i x e
 ·have d:i=o.length:=by
   have:=(fA e).1;simp at this;lia
  subst d;simp only[List.getElem?_concat_length,cE.injEq]at e;rw[List.take_left']
  ·exact⟨w,e.symm,a,b,f⟩
  ·rfl
theorem pS{m:Nat}(H:m<=8)(r:ps.length<=1000)(f:ji m ps)(p:tp ps):∃t,lW [.int m,.lst (ps.map pT)]=some t/\∃o,t=.lst (o.map T.int)/\o.length=m/\Ak ps m o:=by
 obtain⟨_,B,nd,rfl,a⟩:=vX (by lia) r f;have G:=a.1;have n:∀{C Q},aJ (jZ 2 iS [.int m,.lst (ps.map pT)] C) Q↔Q (.lst (nd.map iT)) C:=f7 B rfl (by rw[fW,fW,hJ,gY,gW,kA];rfl);apply m8;unfold z5;walk_at "a";simp_arith[↓n]
 refine⟨by walk_at "b",Uc (n:=10) (k:=0) (λi d C=>∃o:List Int,d=[some (.int m),some (.lst (ps.map pT)),some (.lst (nd.map iT)),some (.cell 0)]/\C=[(.l,o.map T.int)]/\o.length=i/\i<=m/\Ak ps m o) (by lia) ⟨[],rfl,rfl,rfl,dM _,λi x e=>by simp at e⟩ ?_⟩
 rintro i d C I ⟨o,rfl,rfl,q,s,g⟩;simp_arith[aN];by_cases F:i<m
 ·obtain⟨w,⟨j,h⟩,y⟩:=Lb (Py f p (told:=o) (by lia));have k:∀v<w,¬Ao ps o v:=λv c z=>y v c ⟨by lia,z⟩
  have A:=W4 (nd:=nd) (told:=o) (w:=w) (by lia) (λl D=>by
   obtain⟨b,u⟩:=fT D;have:=(a.2 b l u).1
   lia) (by lia) ((a.Hj j).mpr h) (λv c z=>k v c ((a.Hj (by lia)).mp z))
  rw[if_pos (l6 (by lia))];unfold uX;simp_arith[if_true]
  refine oM rfl (iC (iH (by rw[gY];exact OR)) (iC (nV rfl) rfl)) ?_
  refine⟨_,A,rfl,?_⟩
  simp_arith[if_true]
  refine⟨by walk_at "b",by lia,o++[(w:Int)],by rw[Gb],by simp[q],F,g.snoc j h k⟩
 ·rw[if_neg (by simpa using(by lia:m<=o.length))]
  exact⟨_,nV rfl,o,rfl,by lia,g⟩
structure u1(ps:List (Int×Int))(m:Nat)(o:List Int):Prop where
 len:o.length=m
 nd:o.Nodup
 kg:∀x∈o,0<=x/\x<m
 all:∀w:Nat,w<m->(w:Int)∈o
 top:∀(j:Nat)(b:Int),o[j]?=some b->∀a,(a,b)∈ps->a∈o.take j
theorem Ak.qj{m:Nat}(h:Ak ps m o)(n:o.length=m):u1 ps m o:=by
 have c:∀x∈o,0<=x/\x<m:=λx d=>by
  obtain⟨i,f⟩:=fT d;obtain⟨w,rfl,l,_⟩:=h i x f
  lia
 have nd:o.Nodup:=by
  refine List.pairwise_iff_getElem.mpr λi j f p k e=>?_
  have s:=aO p;obtain⟨w,t,_,g,_⟩:=h j _ s
  refine g.1 (aZ (i:=i) ?_)
  rw[dE k,aO f,e,t]
 refine⟨n,nd,c,λw l=>cV λq=>?_,λj b e a r=>?_⟩
 ·have:=GK m ((w:Int)::o) (cH.mpr ⟨q,nd⟩) (λx d=>by
   rcases fR d with rfl|d
   ·lia
   ·exact c x d)
  simp at this;lia
 ·obtain⟨w,rfl,_,g,_⟩:=h j b e
  exact g.2 a r
end aI
namespace TL
open PySem L2
section
variable {a:aD}{C:ab}{d:FN}{x:XF}{F:FS}{Q:Fl->aD->ab->Prop}{c:String}
end
end TL
namespace aI
open PySem L2 TL
variable{rs:List Int}{ps:List (Int×Int)}
theorem Tq{i:Int}:nT [.int i]=some (.bl true):=by
 apply iP;unfold J3;walk_at "a";simp_arith[EV]
 exact rfl
theorem wE{a:Int}{C:ab}{Q:T->ab->Prop}:aJ (jZ 1 nT [.int a] C) Q↔Q (.bl true) C:=f7 Tq rfl (by walk_at "c")
structure Rk(m:Nat)(rs:List Int):Prop where
 len:rs.length=m
 nd:rs.Nodup
 kg:∀x∈rs,0<=x/\x<m
theorem Rk.ins{m:Nat}{q:Int}(h:Rk m rs):Rk (m+1) (cc rs q m):=by
 have p:=wK (xs:=rs) (i:=q) (y:=(m:Int))
 refine⟨by rw[zH,h.len],p.nodup_iff.mpr (cH.mpr ⟨λz=>?_,h.nd⟩),λx a=>?_⟩
 ·have:=h.kg _ z;lia
 ·rcases fR (p.mem_iff.mp a)with rfl|a
  ·lia
  ·have:=h.kg _ a;lia
def Al(rs:List Int)(p:Int×Int):Prop:=∃i j:Nat,i<j/\rs[i]?=some p.1/\rs[j]?=some p.2
theorem Al.M7{m:Nat}(a:Rk m rs)(h:∀p∈ps,Al rs p):ji m ps:=λp b=>by
 obtain⟨i,j,_,d,c⟩:=h p b
 exact⟨a.kg _ (aZ d),a.kg _ (aZ c)⟩
theorem Al.qh{m:Nat}(b:Rk m rs)(h:∀p∈ps,Al rs p):tp ps:=by
 refine⟨λx=>rs.idxOf x,λp c=>?_⟩
 obtain⟨i,j,a,g,f⟩:=h p c;have key:∀(k:Nat)(x:Int),rs[k]?=some x->rs.idxOf x=k:=λk x e=>by
  obtain⟨d,e⟩:=fA e;rw[<-e]
  exact b.nd.idxOf_getElem k d
 show rs.idxOf p.1<rs.idxOf p.2;rw[key i _ g,key j _ f]
 exact a
theorem GH{α:Type}{xs:List α}{f:α->Int}:(xs.map λx=>T.int (f x))=(xs.map f).map T.int:=by simp
end aI
namespace aI
open PySem L2 TL
variable{bs hs ns:List Int}{d:Int}{c:List (Int×Int)}
noncomputable def bw(bs:List Int)(x:Int):Int:=bs.getD x.toNat 0
theorem Az{x:Int}(a:0<=x)(h:x<bs.length):dh (bs.map T.int) x=some (.int (bw bs x)):=by
 rw[Ax a h];unfold bw;rw[bI,aO (by lia)];rfl
theorem xP{x y v:Int}(b:0<=x)(h:x<bs.length)(a:0<=y):bw (bs.set x.toNat v) y=if y=x then v else bw bs y:=by
 unfold bw;rw[bI,bI];by_cases e:y=x
 ·subst e;rw[if_pos rfl,bK (by lia)];rfl
 ·rw[if_neg e,aT (by lia)]
theorem u8{P:Int->Prop}{x:Int}(h:∀b∈bs,P b)(a:P 0):P (bw bs x):=by
 unfold bw;rw[bI];cases e:bs[x.toNat]?with
 |none=>exact a
 |some b=>exact h b (aZ e)
theorem nU{i:Nat}(h:i<bs.length):bw bs (i:Int)=bs[i]:=by
 unfold bw;rw[bI,cB,aO h];rfl
theorem GD(a:bs.length<=1000):lQ [.lst (bs.map T.int),.lst (hs.map T.int)]=some (.lst (((bs.zip hs).map λp=>p.1+p.2).map T.int)):=by
 apply iP;unfold rL;walk_at "a";simp_arith[rJ]
 refine⟨by rw[aN,b7];unfold lim;lia,iG (λp:Int×Int=>T.int (p.1+p.2)) (λp _=>?_) ?_⟩
 ·simp only[fw,aP,aK,aY,aV,aR,aQ];simp_arith[if_true]
 ·rw[GH];exact HH
theorem xR{n:Int}(h:n∈ns):n<=kS d ns:=by
 unfold kS;have a:ns≠[]:=by rintro rfl;simp at h
 rw[if_neg (by simpa using a)]
 exact(qE a).2 n h
theorem sF:(ns=[]/\kS d ns=d)\/kS d ns∈ns:=by
 unfold kS;by_cases h:ns=[]
 ·left;subst h;exact⟨rfl,rfl⟩
 ·right;rw[if_neg (by simpa using h)]
  exact(qE h).1
structure cu(c:List (Int×Int))(hs:List Int)(bs:List Int):Prop where
 len:bs.length=hs.length
 pos:∀x,0<=bw bs x
 ge:∀p∈c,bw bs p.1+bw hs p.1<=bw bs p.2
 Hw:∀w:Nat,w<hs.length->bw bs w=0\/∃a,(a,(w:Int))∈c/\bw bs w=bw bs a+bw hs a
theorem Wm(O:hs.length<=8)(E:c.length<=1000)(D:ji hs.length c)(hr:tp c)(hp:∀h∈hs,0<=h):
 ∃t,nG [.lst (hs.map T.int),.lst (c.map pT)]=some t/\∃bs,t=.lst (bs.map T.int)/\cu c hs bs:=by
 obtain⟨_,e1,z,rfl,Y⟩:=vX (by lia) E D;obtain⟨_,e2,o,rfl,Z,cr⟩:=pS O E D hr;have r:=cr.qj Z;have w1:∀{C Q},aJ (jZ 2 iS [.int hs.length,.lst (c.map pT)] C) Q↔Q (.lst (z.map iT)) C:=f7 e1 rfl (by rw[fW,fW,hJ,gY,gW,kA];rfl);have w2:∀{C Q},aJ (jZ 2 lW [.int hs.length,.lst (c.map pT)] C) Q↔Q (.lst (o.map T.int)) C:=f7 e2 rfl (by rw[fW,fW,hJ,gY,gW,kA];rfl);have zb:=Y.1;apply m8;unfold zK;walk_at "a";simp_arith[↓w1,↓w2,aN]
 refine⟨by unfold lim;lia,iG (λ_:Int=>T.int 0) (λi _=>?_) ?_⟩
 ·simp only[fw,aP,aK,aY,aV,aR,aQ];simp_arith[if_true]
 simp_arith[if_true]
 refine k7 (λi K C=>∃a,K=[some (.lst (hs.map T.int)),some (.lst (c.map pT)),some (.lst (o.map T.int)),some (.lst (z.map iT)),some (.cell 0),a]/\∃bs:List Int,C=[(.l,bs.map T.int)]/\bs.length=hs.length/\(∀x,0<=bw bs x)/\
  ∀(j:Nat)(w:Int),j<i->o[j]?=some w->(∀a,(a,w)∈c->bw bs a+bw hs a<=bw bs w)/\(bw bs w=0\/∃a,(a,w)∈c/\bw bs w=bw bs a+bw hs a)) ?_ ?_ ?_
 ·refine⟨_,rfl,aP hs.length 0,?_,by simp,λx=>u8 (λb G=>by rw[List.eq_of_mem_replicate G];exact bM _) (bM _),λj w n=>by lia⟩
  rw[aTc,aSK,Z]
 ·rintro i w K C q ⟨a,rfl,bs,rfl,M,I,J⟩;obtain⟨s,hw1⟩:=r.kg w (aZ q);have B:w.toNat<z.length:=by lia
  obtain⟨N,y⟩:=Y.2 w.toNat _ (aO B);rw[bG s]at y;have en:dh (z.map iT) w=some (iT z[w.toNat]):=by rw[oO s,bA,aO B];rfl
  generalize z[w.toNat]=l at N y en;unfold uK;simp_arith[↓gZ en]
  refine⟨by walk_at "b",iG (λa:Int=>T.int (bw bs a+bw hs a)) (λa f=>?_) ?_⟩
  ·have L:=(D _ ((y a).mp f)).1;simp only at L;have g1:=Az (bs:=bs) L.1 (by lia);have g2:=Az (bs:=hs) L.1 (by lia);simp only[fw,aP,aK,aY,aV,aR,aQ,bP,bO,b9];simp_arith[↓gZ g1,↓gZ g2]
  ·rw[GH,gZ (sW _)];simp_arith[if_true];have ix:jm (bs.map T.int).length w=some w.toNat:=DX s (by simp;lia);rw[gZ ix];obtain⟨v,F⟩:∃v,kS 0 (l.map λa=>bw bs a+bw hs a)=v:=⟨_,rfl⟩;rw[F];have v0:0<=v:=by
    rw[<-F];rcases sF (d:=0) (ns:=l.map λa=>bw bs a+bw hs a)with⟨_,h⟩|h
    ·rw[h];exact bM _
    ·obtain⟨a,_,e⟩:=fU h;rw[<-e];have:=I a;have:=u8 (x:=a) hp (bM 0)
     lia
   have g:∀(j:Nat)(u a:Int),j<=i->o[j]?=some u->(a,u)∈c->bw (bs.set w.toNat v) a=bw bs a:=by
    intro j u a n m f;have O:=r.top j u m a f;obtain⟨k,A⟩:=fT O;have P:k<j:=by
     have:=(fA A).1;simp at this;lia
    rw[dE P]at A;have iz:=(D _ f).1;rw[xP s (by lia) iz.1,if_neg];rintro rfl;have:=(aST (by have:=(fA A).1;exact this) r.nd).mp (A.trans q.symm)
    lia
   refine⟨trivial,_,rfl,bs.set w.toNat v,by rw[<-vB],by simpa using M,λx=>u8 (λb G=>?_) (bM _),λj u n m=>?_⟩
   ·rcases aR4 G with G|rfl
    ·obtain⟨k,A⟩:=fT G;obtain⟨S,R⟩:=fA A;have:=I k;rw[nU S,R]at this
     exact this
    ·exact v0
   ·obtain⟨lz,hu1⟩:=r.kg u (aZ m);by_cases U:j=i
    ·subst U;rw[q]at m;cases m;have ev:bw (bs.set w.toNat v) w=v:=by rw[xP s (by lia) s,if_pos rfl]
     rw[ev]
     refine⟨λa f=>?_,?_⟩
     ·rw[g j w a (bE _) q f,<-F]
      exact xR (jF ⟨a,(y a).mpr f,rfl⟩)
     ·rcases sF (d:=0) (ns:=l.map λa=>bw bs a+bw hs a)with⟨_,h⟩|h
      ·left;rw[<-F];exact h
      ·right;obtain⟨a,f,e⟩:=fU h
       exact⟨a,(y a).mp f,by rw[g j w a (bE _) q ((y a).mp f),e,F]⟩
    ·have ax:u≠w:=by
      rintro rfl;have:=(aST (by have:=(fA m).1;exact this) r.nd).mp (m.trans q.symm)
      lia
     have eu:bw (bs.set w.toNat v) u=bw bs u:=by rw[xP s (by lia) lz,if_neg ax]
     obtain⟨h1,H⟩:=J j u (by lia) m;rw[eu]
     refine⟨λa f=>?_,?_⟩
     ·rw[g j u a (by lia) m f];exact h1 a f
     ·rcases H with H| ⟨a,f,e⟩
      ·exact .inl H
      ·exact .inr ⟨a,f,by rw[g j u a (by lia) m f];exact e⟩
 ·rintro K C ⟨a,rfl,bs,rfl,M,I,J⟩;simp_arith[if_true]
  refine⟨_,nV rfl,bs,rfl,M,I,λp X=>?_,λw q=>?_⟩
  ·have H:=(D p X).2;have:=r.all p.2.toNat (by lia);rw[bG H.1]at this;obtain⟨j,n⟩:=fT this
   exact(J j p.2 (fA n).1 n).1 p.1 X
  ·obtain⟨j,n⟩:=fT (r.all w q)
   exact(J j w (fA n).1 n).2
noncomputable def br(bs hs:List Int):List Int:=(bs.zip hs).map λp=>p.1+p.2
theorem length_eq(e:nG [.lst (hs.map T.int),.lst (c.map pT)]=some (.lst (bs.map T.int)))(f:bs.length<=1000):
 mE [.lst (hs.map T.int),.lst (c.map pT)]=some (.int (kS 0 (br bs hs))):=by
 have b:∀{C Q},aJ (jZ 2 nG [.lst (hs.map T.int),.lst (c.map pT)] C) Q↔Q (.lst (bs.map T.int)) C:=f7 e rfl (by rw[fW,fW,hJ,gY,gY,kA,iX];rfl);have a:∀{C Q},aJ (jZ 2 lQ [.lst (bs.map T.int),.lst (hs.map T.int)] C) Q↔Q (.lst ((br bs hs).map T.int)) C:=f7 (GD f) rfl (by walk_at "c");apply iP;unfold KY;walk_at "a";simp_arith[↓b,↓a];rw[gZ (sW _)]
 exact iH gW
theorem oK(j:bs.length=hs.length){x:Int}:x∈br bs hs↔∃w:Nat,w<hs.length/\x=bw bs w+bw hs w:=by
 unfold br;rw[aSj];constructor
 ·rintro⟨p,f,rfl⟩;obtain⟨w,a⟩:=fT f;rw[dS]at a;obtain⟨g,i⟩:=fA a.1;obtain⟨b,h⟩:=fA a.2
  exact⟨w,b,by rw[nU g,nU b,i,h]⟩
 ·rintro⟨w,a,rfl⟩
  refine⟨(bs[w]'(by lia),hs[w]),aZ (i:=w) ?_,?_⟩
  ·rw[dS];exact⟨aO (by lia),aO a⟩
  ·rw[nU (by lia),nU a]
def Mx(S:Int->Prop)(d:Int):Prop:=0<=d/\(∀x,S x->x<=d)/\(d=0\/S d)
theorem Mx.uniq{S:Int->Prop}{f:Int}(h:Mx S d)(g:Mx S f):d=f:=by
 obtain⟨l,k,b⟩:=h;obtain⟨j,i,a⟩:=g;apply aRG
 ·rcases b with rfl|b
  ·exact j
  ·exact i _ b
 ·rcases a with rfl|a
  ·exact l
  ·exact k _ a
theorem cu.C6(h:cu c hs bs)(g:∀x∈hs,0<=x):Mx (λx=>∃w:Nat,w<hs.length/\x=bw bs w+bw hs w) (kS 0 (br bs hs)):=by
 have a:=h.len;have b:∀w,0<=bw bs w+bw hs w:=λw=>by
  have:=h.pos w;have:=u8 (x:=w) g (bM 0)
  lia
 refine⟨?_,λx f=>xR ((oK a).mpr f),?_⟩
 ·rcases sF (d:=0) (ns:=br bs hs)with⟨_,e⟩|e
  ·rw[e];exact bM _
  ·obtain⟨w,_,e⟩:=(oK a).mp e;rw[e];exact b _
 ·rcases sF (d:=0) (ns:=br bs hs)with⟨_,e⟩|e
  ·exact .inl e
  ·exact .inr ((oK a).mp e)
end aI
namespace aI
open PySem L2 TL
def D5(b:List (Int×Int))(a:List Int):Prop:=∀(j:Nat)(x y:Int),a[j]?=some x->a[j+1]?=some y->(x,y)∈b
end aI
set_option maxHeartbeats 4000000
namespace aI
open PySem L2 TL
end aI
namespace TL
open PySem L2
section
variable {f:aD}{C:ab}{g m n:FE}{o:FN}{Q:T->ab->Prop}{QS:Fl->aD->ab->Prop}
theorem gE:wpS (A5 g m n) f C QS↔aC g f C λy D=>aC m f D λz B=>∃k i,y=.cell k/\z=.int i/\∃b,lc B k=some b/\∃x,dh b i=some (.int x)/\aC n f B λw A=>∃v,w=.int v/\∃a,lc A k=some a/\∃j,jm a.length i=some j/\QS .nx f (A.set k (.l,a.set j (.int (x+v)))):=by
 unfold aC wpS A5;constructor
 ·rintro⟨l,t,J,e,q⟩;obtain⟨⟨I,D⟩,u,e⟩:=eV e;obtain⟨⟨H,B⟩,s,e⟩:=eV e;dsimp only at e;split at e
  ·obtain⟨b,r,e⟩:=eV e;obtain⟨F,p,e⟩:=eV e;split at e
   ·obtain⟨⟨G,A⟩,h,e⟩:=eV e;dsimp only at e;split at e
    ·obtain⟨a,d,e⟩:=eV e;obtain⟨j,c,e⟩:=eZ e;cases e
     exact⟨_,_,u,_,_,s,_,_,rfl,rfl,b,r,_,p,_,_,h,_,rfl,a,d,j,c,q⟩
    ·cases e
   ·cases e
  ·cases e
 ·rintro⟨_,_,u,_,_,s,k,i,rfl,rfl,b,r,x,p,_,_,h,v,rfl,a,d,j,c,q⟩
  exact⟨_,_,_,by rw[u,aS,s,aS];dsimp only;rw[r,aS,p,aS];dsimp only;rw[h,aS];dsimp only;rw[d,aS,c];rfl,q⟩
theorem gD:aC (u4 o) f C Q↔ez o f C λa c=>a.length<=lim/\Q (.tup a) c:=by
 unfold aC ez u4 o4;constructor
 ·rintro⟨t,d,e,q⟩;obtain⟨⟨a,c⟩,b,e⟩:=eV e;dsimp only at e;split at e
  ·cases e;exact⟨a,_,b,‹_›,q⟩
  ·cases e
 ·rintro⟨a,c,b,h,q⟩
  exact⟨_,_,by rw[b];exact if_pos h,q⟩
def mL:=λ{a b c d}=>(@gD a b c d).mpr
end
end TL
namespace aI
open PySem L2 TL
end aI
namespace aI
open PySem L2 TL
variable{r:Int×List Int}{rows:List (Int×List Int)}
noncomputable def v8(rows:List (Int×List Int))(w:Nat):Int:=(rows.map λr=>r.1*(r.2.count (w:Int):Int)).sum
noncomputable def rT(r:Int×List Int):T:=.lst (.int r.1::r.2.map T.int)
theorem Ou:rT r=iT (r.1::r.2):=rfl
theorem ND:CF (rT r)=true:=by rw[Ou];exact HV
theorem OK:ei (rows.map rT)=true:=tD λ_ _=>ND
theorem OO{a:Int}{b:List Int}:Ar (T.int a::b.map T.int) (some 1) none=b.map T.int:=by
 rw[show T.int a::b.map T.int=(a::b).map T.int from rfl,GW,T8 (by decide)];rfl
theorem VY{m:Nat}(t:m<=100)(q:∀r∈rows,∀w∈r.2,0<=w/\w<(m:Int)):
 oN [.int m,.lst (rows.map rT)]=some (.lst (((bH m).map (v8 rows)).map T.int)):=by
 apply iP;unfold LJ;walk_at "a";simp_arith[↓gE,↓gD]
 refine⟨by lia,?_⟩
 rw[pX]
 refine iG (λ_=>T.int 0) (λi _=>?_) ?_
 ·simp only[fw,aP,aK,aY,aV,aR,aQ,bP,bO,b9];simp_arith[↓gE,↓gD]
 simp_arith[↓gE,↓gD]
 refine k7 (λi c C=>∃a b:Option T,c=[some (.int m),some (.lst (rows.map rT)),some (.cell 0),a,b]/\C=[(.l,((bH m).map (v8 (rows.take i))).map T.int)]) ⟨_,_,rfl,by simp[v8]⟩ ?_ ?_
 ·rintro i ⟨a,d⟩ c C n ⟨_,_,rfl,rfl⟩;have k:=q _ (aZ n);simp only at k;unfold wW rT;simp_arith[↓gE,↓gD,OO]
  refine k7 (λj c C=>∃b:Option T,c=[some (.int m),some (.lst (rows.map rT)),some (.cell 0),some (rT (a,d)),b]/\C=[(.l,((bH m).map λw=>v8 (rows.take i) w+a*((d.take j).count (w:Int):Int)).map T.int)]) ⟨_,rfl,by simp⟩ ?_ ?_
  ·rintro j x c C h ⟨_,rfl,rfl⟩;obtain⟨p,s⟩:=k x (aZ h);obtain⟨w,rfl⟩:∃w:Nat,x=w:=⟨_,(bG p).symm⟩;have f:w<m:=by lia
   unfold wV rT;have o:dh (((bH m).map λw=>v8 (rows.take i) w+a*((d.take j).count (w:Int):Int)).map T.int) (w:Int)=some (.int (v8 (rows.take i) w+a*((d.take j).count (w:Int):Int))):=by
    rw[sE,bA,bA,cW f];rfl
   simp_arith[↓gE,↓gD,↓gZ o,↓gZ (Bg (x:=T.int a) (xs:=d.map T.int))]
   refine⟨_,o,?_⟩
   rw[gZ (SS (by simpa using f))]
   refine⟨trivial,_,rfl,?_⟩
   congr 1;congr 1;rw[vB (f:=T.int)];congr 1;apply aRJ;intro v;by_cases l:v=w
   ·subst l;rw[bK (by simpa using f),bA,cW f];simp only[dU,cE.injEq];rw[dY,h];simp only[dD,aSU,List.count_singleton_self]
    push_cast
    rw[aS9];lia
   ·rw[aT (Ne.symm l),bA,bA];by_cases g:v<m
    ·rw[cW g];simp only[dU,cE.injEq];rw[dY,h];simp only[dD,aSU];rw[aSB,if_neg (by simp;lia)];simp
    ·rw[b5 (by simp;lia)];rfl
  ·rintro c C ⟨_,rfl,rfl⟩
   refine⟨trivial,_,_,rfl,?_⟩
   congr 4;funext w;unfold v8;rw[dY,n];simp[cO]
 ·rintro c C ⟨_,_,rfl,rfl⟩;simp_arith[↓gE,↓gD];rw[cO]
  exact nV rfl
theorem V3{m:Nat}{C:ab}{Q:T->ab->Prop}(b:m<=100)(a:∀r∈rows,∀w∈r.2,0<=w/\w<(m:Int)):
 aJ (jZ 2 oN [.int m,.lst (rows.map rT)] C) Q↔Q (.lst (((bH m).map (v8 rows)).map T.int)) C:=
 f7 (VY b a) rfl (by rw[fW,fW,hJ,gY,gW,OK];rfl)
end aI
namespace aI
open PySem L2 TL
theorem KC{f:T->Option T}:∀{b a:List T},b.length=a.length->(∀(i:Nat)(t u:T),b[i]?=some t->a[i]?=some u->f t=some u)->cg f b=some a
 | [],[],_,_=>rfl
 |t::b,u::a,c,h=>iC (h 0 t u rfl rfl) (KC (by simpa using c) λi t u g d=>h (i+1) t u g d)
end aI
set_option maxHeartbeats 1000000
namespace aI
open PySem L2 TL
variable{w:Int×Int×Int}
noncomputable def g9(w:Int×Int×Int)(x:Int):Int:=if x<=w.2.2 then x*w.1 else w.2.2*(w.1 - w.2.1)+x*w.2.1
def WB(w:Int×Int×Int):Prop:=Bt 300 w.1/\Bt 300 w.2.1/\Bt 300 w.2.2
theorem W2{x:Int}(d:WB w)(a:Bt 1000 x):m6 [w3 w,.int x]=some (.int (g9 w x)):=by
 obtain⟨c,b,f⟩:=d;apply iP;unfold uO g9;walk_at "a";simp_arith[↓gE,↓gD,w3,↓gZ (Bg (α:=T)),↓gZ (Bh (α:=T)),↓gZ (DE (α:=T))];by_cases h:x<=w.2.2
 ·rw[if_pos (l6 h),if_pos h]
  exact⟨tZ a c (by decide),iH gW⟩
 ·rw[if_neg (by simpa using h),if_neg h]
  exact⟨tZ f (c.sub b) (by decide),tZ a b (by decide),iH gW⟩
theorem yP{x:Int}{C:ab}{Q:T->ab->Prop}(b:WB w)(a:Bt 1000 x):aJ (jZ 2 m6 [w3 w,.int x] C) Q↔Q (.int (g9 w x)) C:=f7 (W2 b a) rfl (by rw[fW,fW,hJ,Be,gW];rfl)
def FL(a:List (Int×Int×Int))(rows:List (Int×List Int))(e:Int):Int:=((a.zip ((bH a.length).map (v8 rows))).map λp=>g9 p.1 p.2).sum - e*(rows.map (·.1)).sum
end aI
namespace aI
open PySem L2 TL
end aI
namespace aI
open PySem L2 TL
end aI
namespace aI
open PySem L2 TL
end aI
namespace aI
open PySem L2 TL
end aI
namespace aI
open PySem L2 TL
theorem GG{a:Type}{xs:List a}{i:Int}(b:0<=i)(h:i<xs.length):∃t∈xs,dh xs i=some t:=
 ⟨xs[i.toNat]'(by lia),c9 _,by rw[oO b,aO (by lia)]⟩
def Sm(n:Int):Prop:=0<=n/\n<2147483587
theorem Sm.bt{n:Int}(h:Sm n):Bt 31 n:=.of_lt h.1 (by have:=h.2;lia)
theorem sO{a k:Int}(g:Bt 20 k):∃t,jE [.int a,.int k]=some t/\∃r,t=.int r/\Sm r:=by
 apply m8;unfold K6;walk_at "a";simp_arith[↓gE,↓gD];have f:=jJ (x:=a*48271+k*k*69621+3) (m:=2147483647) (by lia);generalize (a*48271+k*k*69621+3)%2147483647=b at f;have d:=jJ (x:=b*b) (m:=2147483629) (by lia);have j:Bt 31 b:=.of_lt f.1 (by lia);generalize b*b%2147483629=c at d;have h:=jJ (x:=c*c) (m:=2147483587) (by lia);have i:Bt 31 c:=.of_lt d.1 (by lia)
 exact⟨kB (.of_lt (by decide) (by decide)),jS (g.mono (by decide)),kB (.of_lt (by decide) (by decide)),by decide,jS (j.mono (by decide)),by decide,jS (i.mono (by decide)),by decide,_,iH gW,_,rfl,h⟩
noncomputable def lD(a k:Int):Int:=if h:Bt 20 k then aTH (dC (sO (a:=a) h)).2 else 0
theorem SR{a k:Int}(h:Bt 20 k):jE [.int a,.int k]=some (.int (lD a k)):=by
 unfold lD;rw[dif_pos h];have e:=(dC (sO (a:=a) h)).1;have b:=(dC (dC (sO (a:=a) h)).2).1;rw[<-b];exact e
theorem rP{a k:Int}:Sm (lD a k):=by
 unfold lD;split
 ·rename_i h
  exact(dC (dC (sO (a:=a) h)).2).2
 ·exact⟨by decide,by decide⟩
theorem oX{a k:Int}{C:ab}{Q:T->ab->Prop}(h:Bt 20 k):aJ (jZ 2 jE [.int a,.int k] C) Q↔Q (.int (lD a k)) C:=f7 (SR h) rfl (by walk_at "c")
theorem WK{ns:List Int}(v:ns.length<=63):∃t,oZ [.lst (ns.map T.int)]=some t/\∃xs:List Int,t=.lst (xs.map T.int)/\xs.length=40/\∀x∈xs,Sm x:=by
 apply m8;unfold yO;walk_at "a";simp_arith[↓gE,↓gD,aN]
 refine⟨by lia,?_⟩
 rw[pX]
 refine iG (λi=>T.int (lD (oA ns 0) (90+(0+(i:Int))))) (λi m=>?_) ?_
 ·have m:=iY m;have r:Bt 20 (90+(0+(i:Int))):=.pq (by lia) (by lia) (by decide);simp only[fw,aP,aK,aY,aV,aR,aQ,bP,bO,b9];simp_arith[↓gE,↓gD,↓uZ,↓oX]
 rw[show(aTz (fun(i:Nat)=>T.int (lD (oA ns 0) (90+(0+(i:Int))))) (bH (eU 40)))=((bH 40).map fun(i:Nat)=>lD (oA ns 0) (90+(0+(i:Int)))).map T.int by simp];obtain⟨c,g⟩:∃c,((bH 40).map fun(i:Nat)=>lD (oA ns 0) (90+(0+(i:Int))))=c:=⟨_,rfl⟩;have o:c.length=40:=by rw[<-g];simp
 have p:∀x∈c,Sm x:=by
  rw[<-g];intro x j;obtain⟨i,_,rfl⟩:=fU j
  exact rP
 rw[g]
 refine⟨by lia,pD (λi f C=>∃a b:Option T,f=[some (.lst (ns.map T.int)),some (.cell 0),a,b]/\∃xs:List Int,C=[(.l,xs.map T.int)]/\xs.length=40/\∀x∈xs,Sm x) ⟨_,_,rfl,c,rfl,o,p⟩ ?_ ?_⟩
 ·rintro i f C m ⟨_,_,rfl,xs,rfl,d,n⟩;have r:Bt 20 (2+(i:Int)):=.pq (by lia) (by lia) (by decide);have l:=jJ (x:=2+(i:Int)) (m:=40) (by lia);unfold u9;generalize k:(2+(i:Int))%40=q at l;have u:=Ax (ns:=xs) (i:=q) l.1 (by lia);have s:=Ax (ns:=ns) (i:=2+(i:Int)) (by lia) (by lia);simp_arith[↓gE,↓gD,k,↓gZ u,↓gZ s,↓oX]
  refine⟨by decide,?_⟩
  rw[gZ (DX l.1 (by simp[d];lia))]
  refine⟨_,_,rfl,xs.set q.toNat _,by rw[vB (f:=T.int)],by simpa using d,λx j=>?_⟩
  rcases aR4 j with h|h
  ·exact n x h
  ·rw[h];exact rP
 ·rintro f C ⟨_,_,rfl,xs,rfl,d,n⟩;simp_arith[↓gE,↓gD]
  exact⟨_,nV rfl,xs,rfl,d,n⟩
theorem Ua{c:Int}{m:Nat}(g:m<=8):∃t,uI [.int c,.int m]=some t/\∃rs:List Int,t=.lst (rs.map T.int)/\Rk m rs:=by
 apply m8;unfold LB;walk_at "a";simp_arith[↓gE,↓gD]
 refine⟨by walk_at "b",by lia,pD (λi d C=>∃(a:Option T),d=[some (.int c),some (.int m),some (.cell 0),a]/\∃rs:List Int,C=[(.l,rs.map T.int)]/\Rk i rs) ⟨_,rfl,[],rfl,⟨rfl,.nil,by simp⟩⟩ ?_ ?_⟩
 ·rintro i d C h ⟨a,rfl,rs,rfl,b⟩;have j:Bt 20 (0+(i:Int)):=.pq (by lia) (by lia) (by decide);have k:=b.len;unfold MB;simp_arith[↓gE,↓gD,↓oX];have f:=jJ (x:=lD c (0+(i:Int))) (m:=0+(i:Int)+1) (by lia);generalize lD c (0+(i:Int))%(0+(i:Int)+1)=q at f
  refine⟨by walk_at "b",⟨by walk_at "b",by lia,by lia⟩,_,rfl,cc rs q (i:Int),by rw[dF,<-vO],b.ins⟩
 ·rintro d C ⟨a,rfl,rs,rfl,b⟩;simp_arith[↓gE,↓gD]
  exact⟨_,nV rfl,rs,rfl,by simpa using b⟩
end aI
namespace aI
open PySem L2 TL
theorem RG{d:List (Int×Int×Int)}{a b c:Int}:d.map w3++[T.lst [.int a,.int b,.int c]]=(d++[(a,b,c)]).map w3:=by
 rw[bN];rfl
theorem PU{n:Nat}{C:ab}{a us:List T}(h:cg (dr n C) a=some us):dr (n+1) C (.tup a)=some (.tup us):=by
 unfold dr;split
 ·rename_i b;rw[GA b]at h;cases h;rfl
 ·rw[h];rfl
end aI
namespace aI
open PySem L2 TL
variable{ws:List (Int×Int×Int)}{w:Int×Int×Int}{Q:T->ab->Prop}
theorem Dx{b:List Int}{a:List (Int×Int)}:ei [.lst (b.map T.int),.lst (a.map pT)]=true:=by rw[fW,fW,hJ,gY,gY,iX,kA];rfl
theorem zE(a:ws.length<=1000):mF [.lst (ws.map w3)]=some (.lst ((ws.map (·.2.1)).map T.int)):=by
 apply iP;unfold tG;walk_at "a";simp_arith[↓gE,↓gD]
 refine⟨zG (by simpa using a),iG (λw=>T.int w.2.1) (λw _=>?_) ?_⟩
 ·simp only[fw,aP,aK,aY,aV,aR,aQ,bP,bO,b9];simp_arith[↓gE,↓gD,w3,↓gZ (Bh (α:=T))]
 ·rw[GH,HH]
theorem WT:qM [w3 w]=some (.int (if w.2.2=0 then w.2.1 else w.1)):=by
 apply iP;unfold uR;walk_at "a";simp_arith[↓gE,↓gD,w3,↓gZ (Bg (α:=T)),↓gZ (Bh (α:=T)),↓gZ (DE (α:=T))];by_cases h:w.2.2=0
 ·rw[if_pos (l6 h),if_pos h];exact iH gW
 ·rw[if_neg (by simpa using h),if_neg h];exact iH gW
theorem xB{C:ab}(a:ws.length<=1000):aJ (jZ 1 mF [.lst (ws.map w3)] C) Q↔Q (.lst ((ws.map (·.2.1)).map T.int)) C:=f7 (zE a) rfl (by rw[fW,hJ,gY,nA];rfl)
theorem WQ{C:ab}:aJ (jZ 1 qM [w3 w] C) Q↔Q (.int (if w.2.2=0 then w.2.1 else w.1)) C:=f7 WT rfl (by rw[fW,hJ,Be];rfl)
def CI(m:Nat)(a:List (Int×Int)):Prop:=Wx [.int m,.lst (a.map pT)]=some "NoOrder"
section
variable {ws:List (Int×Int×Int)}{a:List (Int×Int)}{e:Int}(hl:ws.length<=1000)(h:CI ws.length a)
include hl h
end
end aI
namespace aI
open PySem L2 TL
variable{f:List (Int×Int)}{d:List (Int×Int×Int)}{z:Int}
theorem zI{l bs:List Int}(hm:l.length<=8)(hl:f.length<=1000)(E:ji l.length f)(hr:tp f)(hp:∀h∈l,0<=h)(L:cu f l bs):
 lZ [.lst (l.map T.int),.lst (f.map pT)]=some (.int (kS 0 (br bs l))):=by
 obtain⟨_,e2,o,rfl,ho,cr⟩:=pS hm hl E hr;have F:=cr.qj ho;apply iP;unfold LN;walk_at "a";simp_arith[↓gE,↓gD,aN]
 refine⟨by walk_at "b",iG (λ_:Int=>T.int 0) (λi _=>?_) ?_⟩
 ·simp only[fw,aP,aK,aY,aV,aR,aQ,bP,bO,b9];simp_arith[↓gE,↓gD]
 simp_arith[↓gE,↓gD,aN];rw[show(aTz (λ_=>T.int 0) l)=(aP l.length (0:Int)).map T.int by rw[aTc,aSK]]
 refine⟨by lia,pD (λk y C=>∃a b c:Option T,y=[some (.lst (l.map T.int)),some (.lst (f.map pT)),some (.cell 0),a,b,c]/\∃g:List Int,C=[(.l,g.map T.int)]/\g.length=l.length/\(∀x:Int,0<=x->x<l.length->0<=bw g x/\bw g x<=bw bs x)/\∀(j:Nat)(w:Int),j<k->o[j]?=some w->bw g w=bw bs w) ?_ ?_ ?_⟩
 ·refine⟨_,_,_,rfl,aP l.length 0,rfl,by simp,λx I H=>?_,λj w n=>by lia⟩
  have:bw (aP l.length 0) x=0:=by
   unfold bw;rw[bI,cN,if_pos (by lia)];rfl
  rw[this]
  exact⟨bM _,L.pos x⟩
 ·rintro k y C hk ⟨_,_,_,rfl,g,rfl,A,r,t⟩;have hk:k<l.length:=by lia
  have m:o[k]?=some o[k]:=aO (by lia);generalize o[k]=u at m;unfold wU;simp_arith[↓gE,↓gD]
  refine k7 (λi y C=>∃b c:Option T,y=[some (.lst (l.map T.int)),some (.lst (f.map pT)),some (.cell 0),some (.int (0+(k:Int))),b,c]/\∃g:List Int,C=[(.l,g.map T.int)]/\g.length=l.length/\(∀x:Int,0<=x->x<l.length->0<=bw g x/\bw g x<=bw bs x)/\(∀(j:Nat)(w:Int),j<k->o[j]?=some w->bw g w=bw bs w)/\∀p∈f.take i,p.2=u->bw bs p.1+bw l p.1<=bw g u) ⟨_,_,rfl,g,rfl,A,r,t,by simp⟩ ?_ ?_
  ·rintro i p y C hi ⟨_,_,rfl,g,rfl,A,r,t,K⟩;have N:=aZ hi;obtain⟨H,G⟩:=E p N;have g1:=Az (bs:=g) G.1 (by lia);have g2:=Az (bs:=g) H.1 (by lia);have g3:=Az (bs:=l) H.1 (by lia);unfold w6;simp_arith[↓gE,↓gD,pT,↓gZ g1,↓gZ g2,↓gZ g3];rw[gZ (DX G.1 (by simp[A];lia))];obtain⟨v,hv⟩:∃v,max (bw g p.2) (bw g p.1+bw l p.1)=v:=⟨_,rfl⟩;rw[hv];have qm:=L.ge p N;have q1:=r p.1 H.1 H.2;have q2:=r p.2 G.1 G.2;have hh:0<=bw l p.1:=u8 hp (bM 0);have Q:∀x:Int,0<=x->bw (g.set p.2.toNat v) x=if x=p.2 then v else bw g x:=λx I=>xP G.1 (by lia) I
   refine⟨trivial,_,_,rfl,g.set p.2.toNat v,by rw[vB (f:=T.int)],by simpa using A,λx I h3=>?_,λj w n B=>?_,λq D M=>?_⟩
   ·rw[Q x I];have:=r x I h3;split
    ·rename_i e;subst e;lia
    ·exact this
   ·obtain⟨w0,w1⟩:=F.kg w (aZ B);rw[Q w w0];have:=t j w n B;split
    ·rename_i e;subst e;lia
    ·exact this
   ·obtain⟨J,Y⟩:=F.kg u (aZ m);rw[dY,hi]at D;simp only[dD,eB,dO]at D;rw[Q u J];rcases D with D|rfl
    ·have:=K q D M;split
     ·rename_i e;subst e;lia
     ·exact this
    ·rw[if_pos M.symm];have P:=F.top k u m q.1 (by rw[<-M];exact N);obtain⟨j,n⟩:=fT P;have S:j<k:=by have:=(fA n).1;simp at this;lia
     rw[dE S]at n;have:=t j q.1 S n
     lia
  ·rintro y C ⟨_,_,rfl,g,rfl,A,r,t,K⟩;rw[cO]at K
   refine⟨_,_,_,rfl,g,rfl,A,r,λj w n B=>?_⟩
   by_cases e:j=k
   ·subst e;rw[m]at B;cases B;obtain⟨J,Y⟩:=F.kg u (aZ m);have hu:=r u J Y;have U:=L.Hw u.toNat (by lia);rw[bG J]at U;rcases U with h| ⟨a,P,h⟩
    ·lia
    ·have:=K _ P rfl;simp only at this
     lia
   ·exact t j w (by lia) B
 ·rintro y C ⟨_,_,_,rfl,g,rfl,A,r,t⟩;have O:∀w:Nat,w<l.length->bw g w=bw bs w:=λw s=>by
   obtain⟨j,n⟩:=fT (F.all w s)
   exact t j w (by have:=(fA n).1;lia) n
  simp_arith[↓gE,↓gD,aN]
  refine⟨by lia,?_⟩
  rw[pX]
  refine iG (fun(w:Nat)=>T.int (bw bs w+bw l w)) (λw s=>?_) ?_
  ·have s:w<l.length:=by simpa using s
   have g1:=Az (bs:=g) (x:=0+(w:Int)) (by lia) (by lia);have g2:=Az (bs:=l) (x:=0+(w:Int)) (by lia) (by lia);simp only[fw,aP,aK,aY,aV,aR,aQ,bP,bO,b9];simp_arith[↓gE,↓gD,↓gZ g1,↓gZ g2];rw[dF,O w s]
  obtain⟨xs,R⟩:∃xs:List Int,((bH l.length).map fun(w:Nat)=>bw bs w+bw l w)=xs:=⟨_,rfl⟩;have ki:xs.length=l.length:=by rw[<-R];simp
  have X:∀x,x∈xs↔∃w:Nat,w<l.length/\x=bw bs w+bw l w:=λx=>by
   rw[<-R,aSj];constructor
   ·rintro⟨w,s,rfl⟩;exact⟨w,iY s,rfl⟩
   ·rintro⟨w,s,rfl⟩;exact⟨w,aRV.mpr s,rfl⟩
  rw[show(aTz (fun(w:Nat)=>T.int (bw bs w+bw l w)) (bH (l.length:Int).toNat))=xs.map T.int by rw[<-R];simp,Gb,gZ (sW _)]
  refine⟨by walk_at "b",by simp[lim,ki];lia,by simp,?_⟩
  obtain⟨m1,Z⟩:=qE (ns:=xs++[0]) (by simp);have:uH (xs++[0])=kS 0 (br bs l):=by
   refine Mx.uniq (S:=λx=>∃w:Nat,w<l.length/\x=bw bs w+bw l w) ⟨Z 0 (by simp),λx hx=>Z x (eO _ ((X x).mpr hx)),?_⟩ (L.C6 hp)
   rcases fY m1 with h|h
   ·exact .inr ((X _).mp h)
   ·exact .inl (gJ h)
  rw[this]
  exact iH gW
noncomputable def jV(w:Int×Int×Int):Int:=if w.2.2=0 then w.2.1 else w.1
theorem WJ(b:d.length<=1000)(h:mE [.lst ((d.map (·.2.1)).map T.int),.lst (f.map pT)]=some (.int z)):i8 [.lst (d.map w3),.lst (f.map pT)]=some (.int z):=by
 have a:∀{C Q},aJ (jZ 2 mE [.lst ((d.map (·.2.1)).map T.int),.lst (f.map pT)] C) Q↔Q (.int z) C:=f7 h rfl Dx;apply iP;unfold wS;walk_at "a";simp_arith[↓gE,↓gD,↓xB,↓a]
 exact iH gW
theorem Wp(b:d.length<=1000)(h:mE [.lst ((d.map jV).map T.int),.lst (f.map pT)]=some (.int z)):zR [.lst (d.map w3),.lst (f.map pT)]=some (.int z):=by
 have a:∀{C Q},aJ (jZ 2 mE [.lst ((d.map jV).map T.int),.lst (f.map pT)] C) Q↔Q (.int z) C:=f7 h rfl Dx;apply iP;unfold zZ;walk_at "a";simp_arith[↓gE,↓gD]
 refine⟨zG (by simpa using b),iG (λw=>T.int (jV w)) (λw _=>?_) ?_⟩
 ·simp only[fw,aP,aK,aY,aV,aR,aQ,bP,bO,b9];simp_arith[↓gE,↓gD,↓WQ]
  exact rfl
 ·rw[show(d.map λw=>T.int (jV w))=(d.map jV).map T.int by simp];simp_arith[↓gE,↓gD,↓a]
  exact iH gW
theorem Ts{y:Int}(a:d.length<=1000)(i:lZ [.lst ((d.map (·.2.1)).map T.int),.lst (f.map pT)]=some (.int z))(g:lZ [.lst ((d.map jV).map T.int),.lst (f.map pT)]=some (.int y)):
 sL [.lst (d.map w3),.lst (f.map pT)]=some (.tup [.int z,.int y]):=by
 have c:∀{C Q},aJ (jZ 2 lZ [.lst ((d.map (·.2.1)).map T.int),.lst (f.map pT)] C) Q↔Q (.int z) C:=f7 i rfl Dx;have b:∀{C Q},aJ (jZ 2 lZ [.lst ((d.map jV).map T.int),.lst (f.map pT)] C) Q↔Q (.int y) C:=f7 g rfl Dx;apply iP;unfold Kb;walk_at "a";simp_arith[↓gE,↓gD]
 refine⟨zG (by simpa using a),iG (λw=>T.int w.2.1) (λw _=>?_) ?_⟩
 ·simp only[fw,aP,aK,aY,aV,aR,aQ,bP,bO,b9];simp_arith[↓gE,↓gD,w3,↓gZ (Bh (α:=T))]
 rw[show(d.map λw=>T.int w.2.1)=(d.map (·.2.1)).map T.int by simp];simp_arith[↓gE,↓gD,↓c]
 refine⟨zG (by simpa using a),iG (λw=>T.int (jV w)) (λw _=>?_) ?_⟩
 ·simp only[fw,aP,aK,aY,aV,aR,aQ,bP,bO,b9];simp_arith[↓gE,↓gD,w3,↓gZ (DE (α:=T))];unfold jV;by_cases h:w.2.2=0
  ·rw[l6 h,if_pos rfl,gZ Bh,if_pos h]
  ·rw[decide_eq_false h,if_neg (by decide),gZ Bg,if_neg h]
 ·rw[show(d.map λw=>T.int (jV w))=(d.map jV).map T.int by simp];simp_arith[↓gE,↓gD,↓b]
  exact⟨by walk_at "b",iH (by walk_at "c")⟩
end aI
namespace NF
noncomputable def sm:Nat->(Nat->Int)->Int
 |0,_=>0
 |n+1,g=>sm n g+g n
theorem jU{n:Nat}{g g':Nat->Int}(h:∀k,k<n->g k=g' k):sm n g=sm n g':=by
 induction n with
 |zero=>rfl
 |succ n ih=>unfold sm;rw[ih λk a=>h k (by lia),h n (by lia)]
theorem wP{n:Nat}{g a:Nat->Int}(h:∀k,k<n->g k<=a k):sm n g<=sm n a:=by
 induction n with
 |zero=>exact bM _
 |succ n ih=>unfold sm;have:=ih λk b=>h k (by lia);have:=h n (by lia);lia
theorem Jg{n:Nat}{g g':Nat->Int}:sm n (λk=>g k+g' k)=sm n g+sm n g':=by
 induction n with
 |zero=>rfl
 |succ n ih=>unfold sm;rw[ih];dsimp only;lia
theorem PZ{n:Nat}{g a:Nat->Int}:sm n (λk=>g k - a k)=sm n g - sm n a:=by
 induction n with
 |zero=>rfl
 |succ n ih=>unfold sm;rw[ih];dsimp only;lia
theorem pI{n:Nat}{g:Nat->Int}(h:∀k,k<n->g k=0):sm n g=0:=by
 induction n with
 |zero=>rfl
 |succ n ih=>unfold sm;rw[ih λk a=>h k (by lia),h n (by lia)];rfl
theorem sM{n:Nat}{g:Nat->Int}(h:∀k,k<n->0<=g k):0<=sm n g:=by
 induction n with
 |zero=>exact bM _
 |succ n ih=>unfold sm;have:=ih λk a=>h k (by lia);have:=h n (by lia);lia
theorem ID{n:Nat}{g:Nat->Int}(h:∀k,k<n->0<=g k){k:Nat}(b:k<n):g k<=sm n g:=by
 induction n with
 |zero=>lia
 |succ n ih=>
  unfold sm;by_cases e:k=n
  ·subst e;have:=sM λj a=>h j (aR8 a);lia
  ·have:=ih (λj a=>h j (by lia)) (by lia);have:=h n (by lia);lia
noncomputable def up(f:Nat->Int)(k:Nat)(v:Int):Nat->Int:=λj=>if j=k then v else f j
theorem A6{f:Nat->Int}{k:Nat}{v:Int}:up f k v k=v:=by unfold up;rw[if_pos rfl]
theorem z6{f:Nat->Int}{k j:Nat}{v:Int}(h:j≠k):up f k v j=f j:=by unfold up;rw[if_neg h]
theorem HN{n:Nat}{f g:Nat->Int}{k:Nat}{v:Int}(a:k<n):sm n (λj=>up f k v j*g j)=sm n (λj=>f j*g j)+(v - f k)*g k:=by
 induction n with
 |zero=>lia
 |succ n ih=>
  unfold sm;dsimp only;by_cases e:k=n
  ·subst e;rw[A6,jU (g':=λj=>f j*g j) (λj b=>by rw[z6 (by lia)]),aRQ]
   lia
  ·rw[ih (by lia),z6 (by lia)];lia
structure Nt where
 m:Nat
 t:Nat->Nat
 h:Nat->Nat
 d:Nat->Int
 c:Nat->Int
variable {N:Nt}{f c p q:Nat->Int}{a b x:Int}
variable{r:List (Nat×Bool)}
def ja(N:Nt)(f p:Nat->Int):Prop:=∀k,k<N.m->(f k<N.c k->p (N.t k)+N.d k<=p (N.h k))/\(0<f k->p (N.h k)<=p (N.t k)+N.d k)
def k0(N:Nt)(f:Nat->Int)(a:Int):Prop:=∀p:Nat->Int,sm N.m (λk=>f k*(p (N.h k) - p (N.t k)))=a*(p 1 - p 0)
def oh(N:Nt)(f:Nat->Int):Prop:=∀k,k<N.m->0<=f k/\f k<=N.c k
noncomputable def pos(x:Int):Int:=if 0<x then x else 0
theorem Vo:0<=pos x:=by unfold pos;split<;>lia
theorem Pv:x<=pos x:=by unfold pos;split<;>lia
def len(N:Nt)(f:Nat->Int):Int:=sm N.m λk=>f k*N.d k
def cost(N:Nt)(p:Nat->Int):Int:=sm N.m λk=>N.c k*pos (N.d k - (p (N.h k) - p (N.t k)))
theorem gap(d:k0 N f a)(p:Nat->Int):len N f - a*(p 1 - p 0)=sm N.m λk=>f k*(N.d k - (p (N.h k) - p (N.t k))):=by
 unfold len;rw[<-d p,<-PZ]
 exact jU λk _=>by rw[<-dA]
theorem weak(g:k0 N f a)(h:oh N f)(p:Nat->Int):len N f - a*(p 1 - p 0)<=cost N p:=by
 rw[gap g]
 refine wP λk d=>?_
 obtain⟨j,i⟩:=h k d;have m:f k*(N.d k - (p (N.h k) - p (N.t k)))<=f k*pos (N.d k - (p (N.h k) - p (N.t k))):=Int.mul_le_mul_of_nonneg_left Pv j;have l:f k*pos (N.d k - (p (N.h k) - p (N.t k)))<=N.c k*pos (N.d k - (p (N.h k) - p (N.t k))):=cP i Vo
 lia
theorem ma(l:k0 N f a)(m:oh N f)(j:ja N f p):len N f - a*(p 1 - p 0)=cost N p:=by
 rw[gap l]
 refine jU λk g=>?_
 obtain⟨u,t⟩:=m k g;obtain⟨o,n⟩:=j k g;generalize s:N.d k - (p (N.h k) - p (N.t k))=y;unfold pos;by_cases d:0<y
 ·rw[if_pos d];have:f k=N.c k:=by
   by_cases h:f k<N.c k
   ·have:=o h;lia
   ·lia
  rw[this]
 ·rw[if_neg d,d8];by_cases i:y=0
  ·rw[i,d8]
  ·have:f k=0:=by
    by_cases h:0<f k
    ·have:=n h;lia
    ·lia
   rw[this,cS]
noncomputable def rt(N:Nt)(e:Nat×Bool):Nat:=if e.2 then N.t e.1 else N.h e.1
noncomputable def rh(N:Nt)(e:Nat×Bool):Nat:=if e.2 then N.h e.1 else N.t e.1
noncomputable def rd(N:Nt)(e:Nat×Bool):Int:=if e.2 then N.d e.1 else - N.d e.1
noncomputable def rr(N:Nt)(f:Nat->Int)(e:Nat×Bool):Int:=if e.2 then N.c e.1 - f e.1 else f e.1
def Walk(N:Nt):List (Nat×Bool)->Nat->Nat->Prop
 | [],u,v=>u=v
 |e::r,u,v=>e.1<N.m/\rt N e=u/\Walk N r (rh N e) v
def pr(r:List (Nat×Bool))(x:Int)(f:Nat->Int):Nat->Int:=match r with
 | []=>f
 |e::r=>pr r x (up f e.1 (f e.1+if e.2 then x else -x))
theorem IF:∀{r:List (Nat×Bool)}{u v:Nat}{f:Nat->Int},Walk N r u v->∀p:Nat->Int,sm N.m (λk=>pr r x f k*(p (N.h k) - p (N.t k)))=sm N.m (λk=>f k*(p (N.h k) - p (N.t k)))+x*(p v - p u)
 | [],u,v,f,w,p=>by cases w;simp[pr]
 |e::r,u,v,f,⟨h,g,d⟩,p=>by
  show sm N.m (λk=>pr r x (up f e.1 _) k*_)=_;rw[IF d,HN h];subst g;unfold rt rh;cases e.2
  ·simp only[bZ,if_false];have:(f e.1+ -x - f e.1)*(p (N.h e.1) - p (N.t e.1))=x*p (N.t e.1) - x*p (N.h e.1):=by
    rw[show f e.1+ -x - f e.1= -x by lia,Int.neg_mul,dA];lia
   rw[this,dA,dA];lia
  ·simp only[if_true];have:(f e.1+x - f e.1)*(p (N.h e.1) - p (N.t e.1))=x*p (N.h e.1) - x*p (N.t e.1):=by
    rw[show f e.1+x - f e.1=x by lia,dA]
   rw[this,dA,dA];lia
theorem k0.pour(d:k0 N f a)(w:Walk N r 0 1):k0 N (pr r x f) (a+x):=λp=>by
 rw[IF w,d p,d0]
theorem Fg:∀{r:List (Nat×Bool)}{f:Nat->Int}{k:Nat},(∀e∈r,e.1≠k)->pr r x f k=f k
 | [],_,_,_=>rfl
 |e::r,f,k,h=>by
  show pr r x (up f e.1 _) k=_;rw[Fg λg d=>h g (aX _ d),z6 (λz=>h e bC z.symm)]
theorem HZ:∀{r:List (Nat×Bool)}{f:Nat->Int}{e:Nat×Bool},(r.map (·.1)).Nodup->e∈r->pr r x f e.1=f e.1+if e.2 then x else -x
 | [],_,_,_,h=>by cases h
 |e::r,f,g,d,h=>by
  rw[aK,cH]at d;show pr r x (up f e.1 _) g.1=_;rcases fR h with rfl|h
  ·rw[Fg λe i z=>d.1 (jF ⟨e,i,z⟩),A6]
  ·rw[HZ d.2 h,z6 λz=>d.1 (jF ⟨g,h,z⟩)]
theorem Lf(i:(r.map (·.1)).Nodup)(f:Nat->Int)(x:Int)(k:Nat):(pr r x f k=f k/\∀e∈r,e.1≠k)\/∃b,(k,b)∈r/\pr r x f k=f k+if b then x else -x:=by
 by_cases h:∃e∈r,e.1=k
 ·obtain⟨⟨g,b⟩,d,rfl⟩:=h
  exact .inr ⟨b,d,HZ (e:=(g,b)) i d⟩
 ·exact .inl ⟨Fg λe d z=>h ⟨e,d,z⟩,λe d z=>h ⟨e,d,z⟩⟩
theorem oh.pour(i:oh N f)(g:(r.map (·.1)).Nodup)(n:0<=x)(d:∀e∈r,x<=rr N f e):oh N (pr r x f):=λk h=>by
 obtain⟨m,l⟩:=i k h;rcases Lf g f x k with⟨e,_⟩| ⟨b,j,e⟩
 ·rw[e];exact⟨m,l⟩
 ·rw[e];have:=d _ j;unfold rr at this;cases b<;>simp at this|- <;>lia
def Tight(N:Nt)(p:Nat->Int)(r:List (Nat×Bool)):Prop:=∀e∈r,p (rt N e)+rd N e=p (rh N e)
theorem ja.pour(g:ja N f p)(h:(r.map (·.1)).Nodup)(d:Tight N p r):ja N (pr r x f) p:=λk i=>by
 obtain⟨m,l⟩:=g k i;rcases Lf h f x k with⟨e,_⟩| ⟨b,j,e⟩
 ·rw[e];exact⟨m,l⟩
 ·have:=d _ j;unfold rt rd rh at this;cases b<;>simp at this<;>exact⟨λ_=>by lia,λ_=>by lia⟩
theorem cut(o:k0 N f a)(s:oh N f)(n:ja N f p)(W:Nat->Bool)(m:∀k,k<N.m->W k=false->q (N.t k)+N.d k<=q (N.h k))(u:p 0<=q 0)(t:q 1<p 1):
 a<=sm N.m λk=>if W k then N.c k else 0:=by
 have g:=o λv=>if q v<p v then 1 else 0
 simp only[if_pos t,if_neg (Int.not_lt.mpr u)]at g;rw[show a=a*(1 - 0)by lia,<-g]
 refine wP λk i=>?_
 obtain⟨c1,c2⟩:=s k i;obtain⟨w,j⟩:=n k i;by_cases z:f k=0
 ·rw[z,cS];split<;>lia
 ·have j:=j (by lia);cases l:W k
  ·have:=m k i l;have:¬(¬q (N.t k)<p (N.t k)/\q (N.h k)<p (N.h k)):=by lia
   simp only[bZ,if_false];by_cases h:q (N.h k)<p (N.h k)
   ·by_cases d:q (N.t k)<p (N.t k)
    ·rw[if_pos h,if_pos d];lia
    ·exact absurd ⟨d,h⟩ this
   ·rw[if_neg h];by_cases d:q (N.t k)<p (N.t k)
    ·rw[if_pos d];lia
    ·rw[if_neg d];lia
  ·rw[if_pos rfl];by_cases h:q (N.h k)<p (N.h k)
   ·by_cases d:q (N.t k)<p (N.t k)
    ·rw[if_pos h,if_pos d];lia
    ·rw[if_pos h,if_neg d];lia
   ·by_cases d:q (N.t k)<p (N.t k)
    ·rw[if_neg h,if_pos d];lia
    ·rw[if_neg h,if_neg d];lia
theorem Wb(n:k0 N f a)(o:∀k,k<N.m->0<=f k)(d:Nat->Int)(h:∀k,k<N.m->d (N.t k)<d (N.h k)){j:Nat}(l:j<N.m)(t:d 0<d (N.h j))(s:d (N.h j)<=d 1):f j<=a:=by
 have g:=n λv=>if d (N.h j)<=d v then 1 else 0
 simp only[if_pos s,if_neg (aTD.mpr t)]at g;rw[show a=a*(1 - 0)by lia,<-g];have m:∀k,k<N.m->0<=f k*((if d (N.h j)<=d (N.h k)then(1:Int)else 0) - if d (N.h j)<=d (N.t k)then 1 else 0):=λk i=>by
  refine dQ (o k i) ?_
  have:=h k i;split<;>split<;>lia
 have u:=h j l;have:=ID m l;rw[if_pos (bM _),if_neg (by lia)]at this
 lia
end NF
namespace NF
variable {N:Nt}{f p q st:Nat->Int}{a e x:Int}{n:Nat}
def In(N:Nt)(n:Nat):Prop:=∀k,k<N.m->N.t k<n/\N.h k<n
structure gz(N:Nt)(n:Nat)(f st p:Nat->Int):Prop where
 ge:∀v,v<n->st v<=p v
 jd:ja N f p
 le:∀q,(∀v,v<n->st v<=q v)->ja N f q->∀v,v<n->p v<=q v
def ft(N:Nt)(f:Nat->Int)(o:Nat×Bool):Prop:=o.1<N.m/\0<rr N f o
theorem JO:ja N f p↔∀o,ft N f o->p (rt N o)+rd N o<=p (rh N o):=by
 constructor
 ·rintro h ⟨k,b⟩ ⟨d,c⟩;obtain⟨g,i⟩:=h k d;unfold rr at c;unfold rt rd rh;cases b
  ·simp only[bZ,if_false]at c|-;have:=i c;lia
  ·simp only[if_true]at c|-;exact g (by lia)
 ·intro h k d
  refine⟨λg=>?_,λg=>?_⟩
  ·have:=h (k,true) ⟨d,by unfold rr;simp only[if_true];lia⟩;simpa only[rt,rd,rh,if_true]using this
  ·have:=h (k,false) ⟨d,by unfold rr;simp only[bZ,if_false];lia⟩;simp only[rt,rd,rh,bZ,if_false]at this
   lia
def kP:=λ{a b c}=>(@JO a b c).mp
def lB:=λ{a b c}=>(@JO a b c).mpr
theorem Sb{o:Nat×Bool}(d:ja N f q)(g:ft N f o)(b:∀v,v<n->p v<=q v)(h:rt N o<n):∀v,v<n->up p (rh N o) (p (rt N o)+rd N o) v<=q v:=λv c=>by
 unfold up;split
 ·rename_i z;subst z;have:=kP d o g;have:=b _ h
  lia
 ·exact b v c
theorem reach(L:gz N n f st p)(r:In N n)(l:1<n)(R:Nat->Prop)(j:∀v,v<n->p v=st v->R v)(k:∀o,ft N f o->R (rt N o)->p (rt N o)+rd N o=p (rh N o)->R (rh N o)):R 1:=by
 by_cases c:R 1
 ·exact c
 ·exfalso;have key:=L.le (λv=>open Classical in if R v then p v else p v - 1) (λv b=>?_) (lB λo d=>?_) 1 l
  ·simp only[if_neg c]at key;lia
  ·have:=L.ge v b;try dsimp only
   split
   ·exact this
   ·rename_i z;have:p v≠st v:=λw=>z (j v b w)
    lia
  ·have h:=kP L.jd o d;have m:=k o d;try dsimp only
   split
   ·rename_i i;split
    ·exact h
    ·rename_i g;have:p (rt N o)+rd N o≠p (rh N o):=λw=>g (m i w)
     lia
   ·split<;>lia
theorem J6(d:ja N f p)(c:ja N f q)(x:Int):ja N f λv=>if p v<q v - x then q v - x else p v:=lB λo b=>by
 have:=kP d o b;have:=kP c o b;try dsimp only
 split<;>split<;>lia
theorem ends(L:gz N n f (λv=>if v=1 then e else 0) p)(j:1<n){b:Nat->Int}(m:∀v,v<n->0<=b v)(l:ja N f b)(s:b 0=0)(r:b 1<=e)
 (d:(∃q,ja N f q/\q 0=0/\e<=q 1)\/∀o,ft N f o->rt N o≠1):p 1=e/\p 0=0:=by
 have g1:=L.ge 1 j;have t:=L.ge 0 (by lia);simp only[if_true,if_neg (show¬(0:Nat)=1 by lia)]at g1 t;rcases d with⟨q,d,w,u⟩|d
 ·have:=L.le _ (λv i=>?_) (J6 l d (q 1 - e))
  ·have g:=this 1 j;have h:=this 0 (by lia);try simp only at g h
   split at g<;>split at h<;>lia
  ·have:=m v i;by_cases c:v=1
   ·subst c;simp only[if_true];split<;>lia
   ·simp only[if_neg c];split<;>lia
 ·have:=L.le (λv=>if v=1 then e else b v) (λv i=>?_) (lB λo k=>?_)
  ·have g:=this 1 j;have h:=this 0 (by lia);simp only[if_true,if_neg (show¬(0:Nat)=1 by lia)]at g h
   lia
  ·by_cases c:v=1
   ·simp only[if_pos c];lia
   ·simp only[if_neg c];exact m v i
  ·have:=kP l o k;simp only[if_neg (d o k)];split
   ·rename_i z;rw[z]at this;lia
   ·exact this
end NF
namespace NF
structure Wk where
 u:Nat->Int
 l:Nat->Int
 p:Nat->Int
noncomputable def net(w:Wk)(n:Nat)(es:List (Nat×Nat))(P:Int):Nt where
 m:=4*n+es.length
 t k:=if k<4*n then(match k%4 with|0=>0|1=>2*(k/4)+2|2=>2*(k/4)+2|_=>2*(k/4)+3)else 2*((es[k - 4*n]?).getD (0,0)).1+3
 h k:=if k<4*n then(match k%4 with|0=>2*(k/4)+2|1=>2*(k/4)+3|2=>2*(k/4)+3|_=>1)else 2*((es[k - 4*n]?).getD (0,0)).2+2
 d k:=if k<4*n then(match k%4 with|1=>w.u (k/4)|2=>w.l (k/4)|_=>0)else 0
 c k:=if k<4*n/\k%4=1 then w.p (k/4)else P
variable {w:Wk}{n:Nat}{es:List (Nat×Nat)}{P:Int}{f p q:Nat->Int}{a:Int}
variable{r:Nat->Int}{i:Nat}
inductive Pipe(w:Wk)(n:Nat)(es:List (Nat×Nat))(P:Int)(k:Nat):Prop where
 |src (i:Nat) (hi:i<n) (e:k=4*i) (t:(net w n es P).t k=0) (h:(net w n es P).h k=2*i+2) (d:(net w n es P).d k=0) (c:(net w n es P).c k=P)
 |g0 (i:Nat) (hi:i<n) (e:k=4*i+1) (t:(net w n es P).t k=2*i+2) (h:(net w n es P).h k=2*i+3) (d:(net w n es P).d k=w.u i) (c:(net w n es P).c k=w.p i)
 |g6 (i:Nat) (hi:i<n) (e:k=4*i+2) (t:(net w n es P).t k=2*i+2) (h:(net w n es P).h k=2*i+3) (d:(net w n es P).d k=w.l i) (c:(net w n es P).c k=P)
 |fj (i:Nat) (hi:i<n) (e:k=4*i+3) (t:(net w n es P).t k=2*i+3) (h:(net w n es P).h k=1) (d:(net w n es P).d k=0) (c:(net w n es P).c k=P)
 |fk (x y:Nat) (j:Nat) (hj:es[j]?=some (x,y)) (e:k=4*n+j) (t:(net w n es P).t k=2*x+3) (h:(net w n es P).h k=2*y+2) (d:(net w n es P).d k=0) (c:(net w n es P).c k=P)
theorem pipe{k:Nat}(d:k<(net w n es P).m):Pipe w n es P k:=by
 have d:k<4*n+es.length:=d;by_cases b:k<4*n
 ·have c:k/4<n:=by lia
  have hm:k%4=0\/k%4=1\/k%4=2\/k%4=3:=by lia
  rcases hm with hm|hm|hm|hm
  ·exact .src (k/4) c (by lia) (by simp[net,b,hm]) (by simp[net,b,hm]) (by simp[net,b,hm]) (by simp[net,b,hm])
  ·exact .g0 (k/4) c (by lia) (by simp[net,b,hm]) (by simp[net,b,hm]) (by simp[net,b,hm]) (by simp[net,b,hm])
  ·exact .g6 (k/4) c (by lia) (by simp[net,b,hm]) (by simp[net,b,hm]) (by simp[net,b,hm]) (by simp[net,b,hm])
  ·exact .fj (k/4) c (by lia) (by simp[net,b,hm]) (by simp[net,b,hm]) (by simp[net,b,hm]) (by simp[net,b,hm])
 ·have g:k - 4*n<es.length:=by lia
  have e:es[k - 4*n]?=some (es[k - 4*n]):=aO g
  exact .fk es[k - 4*n].1 es[k - 4*n].2 (k - 4*n) e (by lia) (by simp[net,b,e]) (by simp[net,b,e]) (by simp[net,b,e]) (by simp[net,b,e])
theorem yS(m:∀e∈es,e.1<n/\e.2<n):In (net w n es P) (2*n+2):=λk g=>by
 cases pipe g with
 |src i b e t h d c=>rw[t,h];lia
 |g0 i b e t h d c=>rw[t,h];lia
 |g6 i b e t h d c=>rw[t,h];lia
 |fj i b e t h d c=>rw[t,h];lia
 |fk x y j l e t h d c=>have:=m _ (aZ l);rw[t,h];lia
noncomputable def rk(n:Nat)(r:Nat->Int)(v:Nat):Int:=if v=0 then -1 else if v=1 then 2*n else if v%2=0 then 2*r (v/2 - 1)else 2*r (v/2 - 1)+1
theorem ta:rk n r (2*i+2)=2*r i:=by
 unfold rk;rw[if_neg (by lia),if_neg (by lia),if_pos (by lia),show(2*i+2)/2 - 1=i by lia]
theorem xD:rk n r (2*i+3)=2*r i+1:=by
 unfold rk;rw[if_neg (by lia),if_neg (by lia),if_neg (by lia),show(2*i+3)/2 - 1=i by lia]
theorem Ik(g:∀i,i<n->0<=r i/\r i<n)(o:∀e∈es,r e.1<r e.2):∀k,k<(net w n es P).m->rk n r ((net w n es P).t k)<rk n r ((net w n es P).h k):=λk l=>by
 cases pipe l with
 |src i b e t h d c=>rw[t,h,ta];have:=g i b;show(-1:Int)<_;lia
 |g0 i b e t h d c=>rw[t,h,ta,xD];lia
 |g6 i b e t h d c=>rw[t,h,ta,xD];lia
 |fj i b e t h d c=>rw[t,h,xD];have:=g i b;show _<(2*n:Int);lia
 |fk x y j m e t h d c=>have:=o _ (aZ m);rw[t,h,ta,xD];simp only at this;lia
theorem RA(u:k0 (net w n es P) f a)(z:oh (net w n es P) f)(g:∀i,i<n->0<=r i/\r i<n)(v:∀e∈es,r e.1<r e.2)(s:∀e∈es,e.1<n/\e.2<n){k:Nat}(l:k<(net w n es P).m):f k<=a:=by
 have up:=Ik (w:=w) (P:=P) g v;have o:=up k l
 refine Wb u (λk l=>(z k l).1) (rk n r) up l ?_ ?_
 ·cases pipe l with
  |src i b e t h d c=>rw[t]at o;exact o
  |g0 i b e t h d c=>rw[h,xD];have:=g i b;show(-1:Int)<_;lia
  |g6 i b e t h d c=>rw[h,xD];have:=g i b;show(-1:Int)<_;lia
  |fj i b e t h d c=>rw[h];show(-1:Int)<2*n;lia
  |fk x y j m e t h d c=>rw[h,ta];have:=g y (s _ (aZ m)).2;show(-1:Int)<_;lia
 ·show _<=(2*n:Int);cases pipe l with
  |src i b e t h d c=>rw[h,ta];have:=g i b;lia
  |g0 i b e t h d c=>rw[h,xD];have:=g i b;lia
  |g6 i b e t h d c=>rw[h,xD];have:=g i b;lia
  |fj i b e t h d c=>rw[h];exact bM _
  |fk x y j m e t h d c=>rw[h,ta];have:=g y (s _ (aZ m)).2;lia
noncomputable def eD(n:Nat)(k:Nat):Bool:=decide (k<4*n/\k%4=1)
theorem GC{g:Nat->Int}{n:Nat}:sm (4*n) g=sm n λi=>g (4*i)+g (4*i+1)+g (4*i+2)+g (4*i+3):=by
 induction n with
 |zero=>rfl
 |succ n ih=>
  show sm (4*n) g+g (4*n)+g (4*n+1)+g (4*n+2)+g (4*n+3)=sm n (λi=>g (4*i)+g (4*i+1)+g (4*i+2)+g (4*i+3))+(g (4*n)+g (4*n+1)+g (4*n+2)+g (4*n+3));rw[ih]
  lia
theorem x8{g:Nat->Int}{n:Nat}:∀{j:Nat},sm (n+j) g=sm n g+sm j λi=>g (n+i)
 |0=>by show sm n g=sm n g+0;lia
 |j+1=>by
  show sm (n+j) g+g (n+j)=sm n g+(sm j (λi=>g (n+i))+g (n+j));rw[x8];lia
theorem Oy:(sm (net w n es P).m λk=>if eD n k then(net w n es P).c k else 0)=sm n w.p:=by
 show sm (4*n+es.length) _=_;rw[x8,GC];rw[pI (n:=es.length) (λi b=>if_neg (by simp[eD];lia)),aRK]
 refine jU λi b=>?_
 have h:eD n (4*i)=false:=by simp[eD]
 have g:eD n (4*i+1)=true:=by simp[eD];lia
 have d:eD n (4*i+2)=false:=by simp[eD]
 have c:eD n (4*i+3)=false:=by simp[eD]
 rw[h,g,d,c];simp only[bZ,if_false,if_true];have:(net w n es P).c (4*i+1)=w.p i:=by
  show(if 4*i+1<4*n/\(4*i+1)%4=1 then w.p ((4*i+1)/4)else P)=_;rw[if_pos (by lia),show(4*i+1)/4=i by lia]
 rw[this];lia
end NF
namespace NF
variable {w:Wk}{n:Nat}{es:List (Nat×Nat)}{P E:Int}{f p q b h:Nat->Int}{a:Int}
noncomputable def pf(E:Int)(b h:Nat->Int)(v:Nat):Int:=if v=0 then 0 else if v=1 then E else if v%2=0 then b (v/2 - 1)else b (v/2 - 1)+h (v/2 - 1)
theorem AV{i:Nat}:pf E b h (2*i+2)=b i:=by
 unfold pf;rw[if_neg (by lia),if_neg (by lia),if_pos (by lia),show(2*i+2)/2 - 1=i by lia]
theorem AY{i:Nat}:pf E b h (2*i+3)=b i+h i:=by
 unfold pf;rw[if_neg (by lia),if_neg (by lia),if_neg (by lia),show(2*i+3)/2 - 1=i by lia]
theorem HF:pf E b h 0=0:=rfl
theorem Hx:pf E b h 1=E:=rfl
structure yv(n:Nat)(es:List (Nat×Nat))(E:Int)(b h:Nat->Int):Prop where
 b0:∀i,i<n->0<=b i
 e:∀i,i<n->b i+h i<=E
 ne:∀x∈es,b x.1+h x.1<=b x.2
theorem Gh(T:yv n es E b h)(o:∀i,i<n->w.l i<=h i):∀k,k<(net w n es P).m->eD n k=false->pf E b h ((net w n es P).t k)+(net w n es P).d k<=pf E b h ((net w n es P).h k):=λk r m=>by
 cases pipe r with
 |src i l e t g d c=>rw[t,g,d,AV,HF];have:=T.b0 i l;lia
 |g0 i l e t g d c=>
  have:eD n k=true:=by unfold eD;rw[decide_eq_true_iff];lia
  rw[this]at m;cases m
 |g6 i l e t g d c=>rw[t,g,d,AV,AY];have:=o i l;lia
 |fj i l e t g d c=>rw[t,g,d,AY,Hx];have:=T.e i l;lia
 |fk x y j s e t g d c=>rw[t,g,d,AV,AY];have:=T.ne _ (aZ s);simp only at this;lia
theorem Vt(d:k0 (net w n es P) f a)(g:oh (net w n es P) f)(c:ja (net w n es P) f p)(k:p 0<=0)(T:yv n es E b w.l)(j:E<p 1):a<=sm n w.p:=by
 rw[<-Oy (w:=w) (n:=n) (es:=es) (P:=P)]
 exact cut d g c (eD n) (Gh T λi _=>bM _) k j
theorem plenty(l:k0 (net w n es P) f a)(o:oh (net w n es P) f){r:Nat->Int}(d:∀i,i<n->0<=r i/\r i<n)(m:∀e∈es,r e.1<r e.2)(g:∀e∈es,e.1<n/\e.2<n)(s:a<P){k:Nat}(j:k<(net w n es P).m)(c:eD n k=false):f k<(net w n es P).c k:=by
 have:=RA l o d m g j;have t:(net w n es P).c k=P:=by
  show(if k<4*n/\k%4=1 then _ else P)=P;rw[if_neg];intro z;rw[show eD n k=true from decide_eq_true z]at c;cases c
 lia
theorem JP(z:ja (net w n es P) f p)(A:∀k,k<(net w n es P).m->eD n k=false->f k<(net w n es P).c k)(C:p 0=0)(D:∀e∈es,e.1<n/\e.2<n):
 (∀i,i<n->0<=p (2*i+2))/\(∀i,i<n->p (2*i+2)+w.l i<=p (2*i+3))/\(∀i,i<n->p (2*i+3)<=p 1)/\∀e∈es,p (2*e.1+3)<=p (2*e.2+2):=by
 have key:∀k,k<(net w n es P).m->eD n k=false->p ((net w n es P).t k)+(net w n es P).d k<=p ((net w n es P).h k):=λk l v=>(z k l).1 (A k l v)
 have r:(net w n es P).m=4*n+es.length:=rfl
 refine⟨λi o=>?_,λi o=>?_,λi o=>?_,λe B=>?_⟩
 ·have l:4*i<(net w n es P).m:=by rw[r];lia
  have:=key (4*i) l (by simp[eD]);cases pipe l with
  |src j g e t m d c=>obtain rfl:j=i:=by lia
                      rw[t,m,d,C]at this;lia
  |g0 j g e=>lia
  |g6 j g e=>lia
  |fj j g e=>lia
  |fk x y j g e=>lia
 ·have l:4*i+2<(net w n es P).m:=by rw[r];lia
  have:=key (4*i+2) l (by simp[eD]);cases pipe l with
  |src j g e=>lia
  |g0 j g e=>lia
  |g6 j g e t m d c=>obtain rfl:j=i:=by lia
                     rw[t,m,d]at this;exact this
  |fj j g e=>lia
  |fk x y j g e=>lia
 ·have l:4*i+3<(net w n es P).m:=by rw[r];lia
  have:=key (4*i+3) l (by simp[eD]);cases pipe l with
  |src j g e=>lia
  |g0 j g e=>lia
  |g6 j g e=>lia
  |fj j g e t m d c=>obtain rfl:j=i:=by lia
                     rw[t,m,d]at this;lia
  |fk x y j g e=>lia
 ·obtain⟨j,g⟩:=fT B;have G:=(fA g).1;have l:4*n+j<(net w n es P).m:=by rw[r];lia
  have:=key (4*n+j) l (by unfold eD;rw[decide_eq_false_iff_not];lia);cases pipe l with
  |src i o e=>lia
  |g0 i o e=>lia
  |g6 i o e=>lia
  |fj i o e=>lia
  |fk x y u s F t m d c=>
   obtain rfl:u=j:=by lia
   rw[g]at s;cases s;rw[t,m,d]at this;dsimp only;lia
theorem Ur{x:Int}(h:x<=0):pos x=0:=by unfold pos;rw[if_neg (by lia)]
theorem Jc(r:∀k,k<(net w n es P).m->eD n k=false->p ((net w n es P).t k)+(net w n es P).d k<=p ((net w n es P).h k)):cost (net w n es P) p=sm n λi=>w.p i*pos (w.u i - (p (2*i+3) - p (2*i+2))):=by
 have z:∀k,k<(net w n es P).m->eD n k=false->(net w n es P).c k*pos ((net w n es P).d k - (p ((net w n es P).h k) - p ((net w n es P).t k)))=0:=λk m o=>by
  have:=r k m o;rw[Ur (by lia),d8]
 have g:(net w n es P).m=4*n+es.length:=rfl;unfold cost;show sm (4*n+es.length) _=_;rw[x8,GC,pI (n:=es.length) (λi s=>z _ (by rw[g];lia) (by unfold eD;rw[decide_eq_false_iff_not];lia)),aRK]
 refine jU λi s=>?_
 rw[z (4*i) (by rw[g];lia) (by simp[eD]),z (4*i+2) (by rw[g];lia) (by simp[eD]),z (4*i+3) (by rw[g];lia) (by simp[eD])];have m:4*i+1<(net w n es P).m:=by rw[g];lia
 cases pipe m with
 |src j l e=>lia
 |g0 j l e t u d c=>obtain rfl:j=i:=by lia
                    rw[t,u,d,c];lia
 |g6 j l e=>lia
 |fj j l e=>lia
 |fk x y j l e=>lia
end NF
namespace NF
variable {w:Wk}{n:Nat}{es:List (Nat×Nat)}{P E:Int}{f p q b h:Nat->Int}{a x:Int}
structure Good(w:Wk)(n:Nat)(es:List (Nat×Nat))(P:Int)(f:Nat->Int)(a:Int)(p:Nat->Int):Prop where
 mr:k0 (net w n es P) f a
 ko:oh (net w n es P) f
 jd:ja (net w n es P) f p
 p0:p 0=0
 ge:∀v,v<2*n+2->0<=p v
theorem Good.pour{r:List (Nat×Bool)}(G:Good w n es P f a p)(d:Walk (net w n es P) r 0 1)(c:(r.map (·.1)).Nodup)(g:Tight (net w n es P) p r)(i:0<=x)(j:∀o∈r,x<=rr (net w n es P) f o):Good w n es P (pr r x f) (a+x) p:=
 ⟨G.mr.pour d,G.ko.pour c i j,G.jd.pour c g,G.p0,G.ge⟩
theorem Good.least(G:Good w n es P f a p)(L:gz (net w n es P) (2*n+2) f (λ_=>0) q):Good w n es P f a q/\∀v,v<2*n+2->q v<=p v:=by
 have h:=L.le p (λv c=>G.ge v c) G.jd
 refine⟨⟨G.mr,G.ko,L.jd,?_,L.ge⟩,h⟩
 have g:=h 0 (by lia);have d:=L.ge 0 (by lia);rw[G.p0]at g;try dsimp only at d
 lia
theorem Good.bound(G:Good w n es P f a p)(T:yv n es E b w.l)(c:E<p 1):a<=sm n w.p:=Vt G.mr G.ko G.jd (by rw[G.p0];exact bM _) T c
theorem Good.route(G:Good w n es P f a p)(L:gz (net w n es P) (2*n+2) f (λ_=>0) p)(F:∀k,k<(net w n es P).m->eD n k=false->f k<(net w n es P).c k)(H:∀e∈es,e.1<n/\e.2<n)(I:∀i,i<n->0<=w.l i)(s:0<n)
 (R:Nat->Prop)(B:R 0)(K:∀o,ft (net w n es P) f o->R (rt (net w n es P) o)->p (rt (net w n es P) o)+rd (net w n es P) o=p (rh (net w n es P) o)->R (rh (net w n es P) o)):R 1:=by
 obtain⟨D,C,Q,Z⟩:=JP G.jd F G.p0 H;have z:(net w n es P).m=4*n+es.length:=rfl;have A:∀k,k<(net w n es P).m->eD n k=false->R ((net w n es P).t k)->p ((net w n es P).t k)+(net w n es P).d k=p ((net w n es P).h k)->R ((net w n es P).h k):=λk l S X U=>by
  have:=K (k,true) ⟨l,by unfold rr;simp only[if_true];have:=F k l S;lia⟩;simp only[rt,rh,rd,if_true]at this
  exact this X U
 have M:∀i,i<n->p (2*i+2)=0->R (2*i+2):=λi r m=>by
  have l:4*i<(net w n es P).m:=by rw[z];lia
  have:=A (4*i) l (by simp[eD]);cases pipe l with
  |src j g e t u d c=>
   obtain rfl:j=i:=by lia
   rw[t,u,d,G.p0,m]at this
   exact this B rfl
  |g0 j g e=>lia
  |g6 j g e=>lia
  |fj j g e=>lia
  |fk x y j g e=>lia
 have J:∀i,i<n->p (2*i+3)=0->R (2*i+3):=λi r m=>by
  have g1:=D i r;have g2:=C i r;have g3:=I i r;have l:4*i+2<(net w n es P).m:=by rw[z];lia
  have:=A (4*i+2) l (by simp[eD]);cases pipe l with
  |src j g e=>lia
  |g0 j g e=>lia
  |g6 j g e t u d c=>
   obtain rfl:j=i:=by lia
   rw[t,u,d]at this
   exact this (M j r (by lia)) (by lia)
  |fj j g e=>lia
  |fk x y j g e=>lia
 refine reach L (yS H) (by lia) R (λv hv m=>?_) K
 try dsimp only at m
 by_cases O:v=0
 ·rw[O];exact B
 ·by_cases N:v=1
  ·subst N;have g1:=D 0 s;have g2:=C 0 s;have g3:=Q 0 s;have g4:=I 0 s;have l:3<(net w n es P).m:=by rw[z];lia
   have:=A 3 l (by simp[eD]);cases pipe l with
   |src j g e=>lia
   |g0 j g e=>lia
   |g6 j g e=>lia
   |fj j g e t u d c=>
    obtain rfl:j=0:=by lia
    rw[t,u,d]at this
    exact this (J 0 s (by lia)) (by lia)
   |fk x y j g e=>lia
  ·by_cases Y:v%2=0
   ·obtain⟨i,rfl⟩:∃i,v=2*i+2:=⟨v/2 - 1,by lia⟩
    exact M i (by lia) m
   ·obtain⟨i,rfl⟩:∃i,v=2*i+3:=⟨v/2 - 1,by lia⟩
    exact J i (by lia) m
theorem Good.price(G:Good w n es P f a p)(g:∀k,k<(net w n es P).m->eD n k=false->f k<(net w n es P).c k):len (net w n es P) f - a*p 1=sm n λi=>w.p i*pos (w.u i - (p (2*i+3) - p (2*i+2))):=by
 have:=ma G.mr G.ko G.jd;rw[G.p0,aRz]at this;rw[this]
 exact Jc λk c d=>(G.jd k c).1 (g k c d)
theorem best(d:k0 (net w n es P) f a)(g:oh (net w n es P) f)(T:yv n es E b h)(c:∀i,i<n->w.l i<=h i):len (net w n es P) f - a*E<=sm n λi=>w.p i*pos (w.u i - h i):=by
 have:=weak d g (pf E b h);rw[HF,Hx,aRz,Jc (Gh T c)]at this
 refine cL this (aSV (jU λi _=>?_))
 rw[AV,AY,show b i+h i - b i=h i by lia]
end NF
namespace NF
variable{e:(Nat×Nat)×Int}{L:Fl}
noncomputable abbrev Fl:=List ((Nat×Nat)×Int)
noncomputable def sl(L:Fl)(g:Nat×Nat->Int):Int:=(L.map λe=>e.2*g e.1).sum
theorem Pb{g:Nat×Nat->Int}:sl [] g=0:=rfl
theorem oF{g:Nat×Nat->Int}:sl (e::L) g=e.2*g e.1+sl L g:=by unfold sl;rw[aK,dG]
def vu(L:Fl)(a:Int):Prop:=∀p:Nat->Int,sl L (λs=>p s.2 - p s.1)=a*(p 1 - p 0)
theorem Fj{g:Nat×Nat->Int}:∀{L:Fl},(∀e∈L,0<=e.2*g e.1)->0<=sl L g
 | [],_=>bM _
 |e::L,h=>by
  rw[oF];have:=h e bC;have:=Fj λe a=>h e (aX _ a)
  lia
theorem F8{g:Nat×Nat->Int}:∀{L:Fl},(∀e∈L,0<=e.2*g e.1)->∀e∈L,e.2*g e.1<=sl L g
 | [],_,_,he=>by cases he
 |e::L,h,a,he=>by
  rw[oF];have b:=Fj λe he=>h e (aX _ he)
  rcases fR he with rfl|he
  ·lia
  ·have:=F8 (λe he=>h e (aX _ he)) a he;have:=h e bC
   lia
theorem R0{a:Int}(q:vu L a)(r:∀e∈L,0<=e.2){v:Nat}(f:v≠0)(m:v≠1)(j:e∈L)(n:e.1.2=v)(o:0<e.2):∃b∈L,b.1.1=v/\0<b.2:=by
 have p:¬∀b∈L,b.1.1=v->¬0<b.2:=λi=>by
  have k:=q λu=>if u=v then 1 else 0
  rw[if_neg (Ne.symm m),if_neg (Ne.symm f)]at k;have l:∀b∈L,0<=b.2*((if b.1.2=v then(1:Int)else 0) - if b.1.1=v then 1 else 0):=λb d=>by
   have z:=r b d;by_cases c:b.1.1=v
   ·have:b.2=0:=by have:=i b d c;lia
    rw[this,cS];exact bM _
   ·rw[if_neg c,aRz];split
    ·lia
    ·lia
  have:=F8 (g:=λs=>(if s.2=v then(1:Int)else 0) - if s.1=v then 1 else 0) l e j;rw[if_pos n]at this;by_cases c:e.1.1=v
  ·exact i e j c o
  ·rw[if_neg c]at this;simp only[aSW,d8]at k;have t:sl L (λs=>(if s.2=v then(1:Int)else 0) - if s.1=v then 1 else 0)=0:=k
   lia
 apply cV;intro h
 exact p λb d c g=>h ⟨b,d,c,g⟩
theorem Q3{a:Int}(g:vu L a)(i:∀e∈L,0<=e.2)(d:∀e∈L,e.1.2≠0)(l:0<a):∃e∈L,e.1.1=0/\0<e.2:=by
 apply cV;intro h;have k:=g λu=>if u=0 then 1 else 0
 rw[if_neg (by lia),if_pos rfl]at k;have j:sl L (λs=>(if s.2=0 then(1:Int)else 0) - if s.1=0 then 1 else 0)=a*(0 - 1):=k;have:0<=sl L (λs=>(if s.2=0 then(1:Int)else 0) - if s.1=0 then 1 else 0):=Fj λe b=>by
  rw[if_neg (d e b)];by_cases c:e.1.1=0
  ·have z:=i e b;have:¬0<e.2:=λf=>h ⟨e,b,c,f⟩
   have:e.2=0:=by lia
   rw[this,cS];exact bM _
  ·rw[if_neg c];simp
 lia
noncomputable def tk(x:Int)(s:Nat×Nat)(L:Fl):Fl:=L.map λe=>if e.1=s then(e.1,e.2 - x)else e
theorem HP{x:Int}{s:Nat×Nat}{g:Nat×Nat->Int}:∀{L:Fl},(L.map (·.1)).Nodup->s∈L.map (·.1)->sl (tk x s L) g=sl L g - x*g s
 | [],_,h=>by cases h
 |e::L,b,h=>by
  rw[aK,cH]at b;unfold tk;rw[aK,oF,oF];by_cases a:e.1=s
  ·rw[if_pos a];have f:(L.map λe=>if e.1=s then(e.1,e.2 - x)else e)=L:=by
    conv=>rhs;rw[<-List.map_id L]
    refine cF λi c=>?_
    rw[if_neg λz=>b.1 (by rw[a,<-z];exact cM c)];rfl
   rw[f];subst a;dsimp only;rw[aRQ];lia
  ·rw[if_neg a];have d:s∈L.map (·.1):=by
    rcases fR h with z|z
    ·exact absurd z.symm a
    ·exact z
   have:=HP (x:=x) (g:=g) b.2 d;unfold tk at this;rw[this];lia
theorem xU{x:Int}{s:Nat×Nat}:(tk x s L).map (·.1)=L.map (·.1):=by
 unfold tk;rw[bR]
 refine cF λe _=>?_
 show(if e.1=s then(e.1,e.2 - x)else e).1=e.1;split<;>rfl
end NF
namespace NF
variable {L:Fl}{a x:Int}
def SW:List (Nat×Nat)->Nat->Nat->Prop
 | [],u,v=>u=v
 |s::r,u,v=>s.1=u/\SW r s.2 v
def gb(x:Int):List (Nat×Nat)->Fl->Fl
 | [],L=>L
 |s::r,L=>gb x r (tk x s L)
theorem pQ:∀{r:List (Nat×Nat)}{L:Fl},(gb x r L).map (·.1)=L.map (·.1)
 | [],_=>rfl
 |s::r,L=>by unfold gb;rw[pQ,xU]
theorem IB{p:Nat->Int}:∀{r:List (Nat×Nat)}{L:Fl}{u v:Nat},(L.map (·.1)).Nodup->(∀s∈r,s∈L.map (·.1))->SW r u v->sl (gb x r L) (λs=>p s.2 - p s.1)=sl L (λs=>p s.2 - p s.1) - x*(p v - p u)
 | [],L,u,v,_,_,h=>by cases h;unfold gb;rw[aSW,d8,aRz]
 |s::r,L,u,v,b,c,⟨i,g⟩=>by
  unfold gb;rw[IB (by rw[xU];exact b) (λd f=>by rw[xU];exact c d (aX _ f)) g,HP b (c s bC)];subst i;rw[dA,dA,dA];lia
theorem vu.take{r:List (Nat×Nat)}(d:vu L a)(b:(L.map (·.1)).Nodup)(c:∀s∈r,s∈L.map (·.1))(w:SW r 0 1):vu (gb x r L) (a - x):=λp=>by
 rw[IB b c w,d p,aRQ]
noncomputable def at_(L:Fl)(s:Nat×Nat):Int:=(L.lookup s).getD 0
theorem Il{s s':Nat×Nat}:∀{L:Fl},at_ (tk x s L) s'=if s'=s/\s∈L.map (·.1)then at_ L s' - x else at_ L s'
 | []=>by unfold tk at_;simp
 |e::L=>by
  have ih:=Il (s:=s) (s':=s') (L:=L);unfold tk at_ at ih|-;rw[aK];by_cases f:s'=e.1
  ·subst f;have c:dH e.1 (e::L)=some e.2:=by rw[bT,beq_self_eq_true]
   by_cases b:e.1=s
   ·subst b;rw[if_pos rfl,if_pos ⟨rfl,by simp⟩,c,bT,beq_self_eq_true];rfl
   ·have:¬(e.1=s/\s∈(e::L).map (·.1)):=λz=>b z.1
    rw[if_neg b,if_neg this,c,bT,beq_self_eq_true]
  ·have d:(s'==e.1)=false:=beq_eq_false_iff_ne.mpr f;have c:dH s' ((if e.1=s then(e.1,e.2 - x)else e)::L.map λe=>if e.1=s then(e.1,e.2 - x)else e)=dH s' (L.map λe=>if e.1=s then(e.1,e.2 - x)else e):=by
    rw[bT];split
    ·rename_i z;exfalso;by_cases b:e.1=s
     ·rw[if_pos b]at z;rw[d]at z;cases z
     ·rw[if_neg b]at z;rw[d]at z;cases z
    ·rfl
   rw[c,ih];rw[show dH s' (e::L)=dH s' L from by rw[bT,d]];by_cases g:s'=s
   ·subst g;simp only[true_and,aK,bU,f,false_or]
   ·simp only[g,false_and]
theorem Jw{b:Nat×Nat}:∀{r:List (Nat×Nat)}{L:Fl},(∀s∈r,s∈L.map (·.1))->at_ (gb x r L) b=at_ L b - x*(r.count b:Int)
 | [],L,_=>by unfold gb;simp
 |s::r,L,c=>by
  unfold gb;rw[Jw (λb d=>by rw[xU];exact c b (aX _ d)),Il,eG];by_cases h:b=s
  ·subst h;rw[if_pos ⟨rfl,c b bC⟩];simp only[beq_self_eq_true,if_true,Int.natCast_add,aS9]
   lia
  ·rw[if_neg (λz=>h z.1),if_neg (by simpa using Ne.symm h)];simp
theorem QQ(h:vu L a)(l:∀e∈L,0<=e.2)(b:Nat->Int)(d:∀e∈L,b e.1.1<b e.1.2){e:(Nat×Nat)×Int}(f:e∈L)(j:b 0<b e.1.2)(i:b e.1.2<=b 1):e.2<=a:=by
 have k:=h λv=>if b e.1.2<=b v then 1 else 0
 rw[if_pos i,if_neg (aTD.mpr j)]at k;have m:sl L (λs=>(if b e.1.2<=b s.2 then(1:Int)else 0) - if b e.1.2<=b s.1 then 1 else 0)=a*(1 - 0):=k;have:=F8 (L:=L) (g:=λs=>(if b e.1.2<=b s.2 then(1:Int)else 0) - if b e.1.2<=b s.1 then 1 else 0) (λg c=>by
  refine dQ (l g c) ?_
  have:=d g c;split<;>split<;>lia) e f
 have n:=d e f;rw[if_pos (bM _),if_neg (by lia)]at this
 lia
end NF
namespace NF
variable {N:Nt}{f:Nat->Int}{a v:Int}{s:Nat×Nat}{g:Nat×Nat->Int}
noncomputable def ad(s:Nat×Nat)(v:Int):Fl->Fl
 | []=>[(s,v)]
 |e::L=>if e.1=s then(e.1,e.2+v)::L else e::ad s v L
theorem Ia:∀{L:Fl},sl (ad s v L) g=sl L g+v*g s
 | []=>by unfold ad;rw[oF,Pb];dsimp only;lia
 |e::L=>by
  unfold ad;split
  ·rename_i h;rw[oF,oF];subst h;dsimp only;rw[d0];lia
  ·rw[oF,oF,Ia];lia
theorem FV{b:Nat×Nat}:∀{L:Fl},b∈(ad s v L).map (·.1)↔b=s\/b∈L.map (·.1)
 | []=>by unfold ad;simp
 |e::L=>by
  unfold ad;split
  ·rename_i h;subst h;simp only[aK,bU];constructor
   ·exact .inr
   ·rintro(h|h)
    ·exact .inl h
    ·exact h
  ·simp only[aK,bU];rw[FV];constructor
   ·rintro(h|h|h)
    ·exact .inr (.inl h)
    ·exact .inl h
    ·exact .inr (.inr h)
   ·rintro(h|h|h)
    ·exact .inr (.inl h)
    ·exact .inl h
    ·exact .inr (.inr h)
theorem Lu:∀{L:Fl},(L.map (·.1)).Nodup->((ad s v L).map (·.1)).Nodup
 | [],_=>by unfold ad;simp
 |e::L,h=>by
  unfold ad;rw[aK,cH]at h;split
  ·rw[aK,cH];exact h
  ·rename_i b;rw[aK,cH]
   refine⟨λz=>?_,Lu h.2⟩
   rcases FV.mp z with z|z
   ·exact b z
   ·exact h.1 z
theorem LW(b:0<=v):∀{L:Fl},(∀e∈L,0<=e.2)->∀e∈ad s v L,0<=e.2
 | [],_,e,he=>by
   unfold ad at he;rw[gJ he];exact b
 |c::L,h,e,he=>by
  unfold ad at he;split at he
  ·rcases fR he with rfl|he
   ·have:=h c bC;dsimp only;lia
   ·exact h e (aX _ he)
  ·rcases fR he with rfl|he
   ·exact h e bC
   ·exact LW b (λe he=>h e (aX _ he)) e he
theorem HX{s':Nat×Nat}:∀{L:Fl},at_ (ad s v L) s'=at_ L s'+if s'=s then v else 0
 | []=>by
   unfold ad at_;by_cases h:s'=s
   ·rw[bT,beq_iff_eq.mpr h,if_pos h];simp
   ·rw[bT,beq_eq_false_iff_ne.mpr h,if_neg h];simp
 |e::L=>by
  have ih:=HX (s':=s') (L:=L);unfold ad;by_cases i:s'=e.1
  ·subst i;have c:∀M:Fl,at_ (e::M) e.1=e.2:=λM=>by unfold at_;rw[bT,beq_self_eq_true];rfl
   by_cases b:e.1=s
   ·rw[if_pos b,if_pos b,c];unfold at_;rw[bT,beq_self_eq_true];rfl
   ·rw[if_neg b,if_neg b,c,c];lia
  ·have c:∀(y:Int)(M:Fl),at_ ((e.1,y)::M) s'=at_ M s':=λy M=>by unfold at_;rw[bT,beq_eq_false_iff_ne.mpr i]
   have d:∀M:Fl,at_ (e::M) s'=at_ M s':=λM=>c e.2 M
   by_cases b:e.1=s
   ·rw[if_pos b,c,d,if_neg (λz=>i (z.trans b.symm))];lia
   ·rw[if_neg b,d,d,ih]
def fc(N:Nt)(f:Nat->Int):Nat->Fl
 |0=>[]
 |k+1=>ad (N.t k,N.h k) (f k) (fc N f k)
theorem IK:∀{k:Nat},sl (fc N f k) g=sm k λj=>f j*g (N.t j,N.h j)
 |0=>rfl
 |k+1=>by
  show sl (ad _ _ _) g=sm k _+_;rw[Ia,IK]
theorem NX(b:k0 N f a):vu (fc N f N.m) a:=λp=>by rw[IK];exact b p
theorem v3:∀{k:Nat},((fc N f k).map (·.1)).Nodup
 |0=>List.Pairwise.nil
 |k+1=>Lu v3
theorem yV(h:∀k,k<N.m->0<=f k):∀{k:Nat},k<=N.m->∀e∈fc N f k,0<=e.2
 |0,_,e,b=>by cases b
 |k+1,c,e,b=>LW (h k (by lia)) (yV h (by lia)) e b
theorem Jj{s:Nat×Nat}:∀{k:Nat},at_ (fc N f k) s=sm k λj=>if s=(N.t j,N.h j)then f j else 0
 |0=>rfl
 |k+1=>by
  show at_ (ad _ _ _) s=sm k _+_;rw[HX,Jj]
theorem zX{s:Nat×Nat}:∀{k:Nat},s∈(fc N f k).map (·.1)->∃j,j<k/\s=(N.t j,N.h j)
 |0,h=>by cases h
 |k+1,h=>by
  rcases FV.mp h with h|h
  ·exact⟨k,by lia,h⟩
  ·obtain⟨j,b,e⟩:=zX h
   exact⟨j,by lia,e⟩
end NF
namespace NF
variable {w:Wk}{n:Nat}{es:List (Nat×Nat)}{P:Int}{f p:Nat->Int}{a:Int}
theorem Oo:len (net w n es P) f=sm n λi=>f (4*i+1)*w.u i+f (4*i+2)*w.l i:=by
 have g:(net w n es P).m=4*n+es.length:=rfl;unfold len;show sm (4*n+es.length) _=_;rw[x8,GC,pI (n:=es.length) (λj b=>?_),aRK]
 ·refine jU fun i k=>?_
  have q:(net w n es P).d (4*i)=0:=by
   cases pipe (w:=w) (es:=es) (P:=P) (show 4*i<(net w n es P).m by rw[g];lia)with
   |src j b e t h d c=>exact d
   |g0 j b e=>lia
   |g6 j b e=>lia
   |fj j b e=>lia
   |fk x y j b e=>lia
  have o:(net w n es P).d (4*i+1)=w.u i:=by
   cases pipe (w:=w) (es:=es) (P:=P) (show 4*i+1<(net w n es P).m by rw[g];lia)with
   |src j b e=>lia
   |g0 j b e t h d c=>obtain rfl:j=i:=by lia
                      exact d
   |g6 j b e=>lia
   |fj j b e=>lia
   |fk x y j b e=>lia
  have m:(net w n es P).d (4*i+2)=w.l i:=by
   cases pipe (w:=w) (es:=es) (P:=P) (show 4*i+2<(net w n es P).m by rw[g];lia)with
   |src j b e=>lia
   |g0 j b e=>lia
   |g6 j b e t h d c=>obtain rfl:j=i:=by lia
                      exact d
   |fj j b e=>lia
   |fk x y j b e=>lia
  have l:(net w n es P).d (4*i+3)=0:=by
   cases pipe (w:=w) (es:=es) (P:=P) (show 4*i+3<(net w n es P).m by rw[g];lia)with
   |src j b e=>lia
   |g0 j b e=>lia
   |g6 j b e=>lia
   |fj j b e t h d c=>exact d
   |fk x y j b e=>lia
  rw[q,o,m,l];lia
 ·have:(net w n es P).d (4*n+j)=0:=by
   cases pipe (w:=w) (es:=es) (P:=P) (show 4*n+j<(net w n es P).m by rw[g];lia)with
   |src i k e=>lia
   |g0 i k e=>lia
   |g6 i k e=>lia
   |fj i k e=>lia
   |fk x y i k e t h d c=>exact d
  rw[this,d8]
theorem Q0{f1 f2 u l pr:Int}(d:0<=f1)(b:f1<=pr)(c:0<=f2)(h:0<f2->f1=pr\/u=l):f1*u+f2*l=if f1+f2<=pr then(f1+f2)*u else pr*u+(f1+f2 - pr)*l:=by
 by_cases z:f2=0
 ·subst z;rw[aRK,if_pos b,cS,aRK]
 ·rcases h (by lia)with e|e
  ·subst e;rw[if_neg (by lia),show f1+f2 - f1=f2 by lia]
  ·subst e;split
   ·rw[d0]
   ·rw[<-d0,<-d0];congr 1;lia
theorem WL(C:oh (net w n es P) f)(q:ja (net w n es P) f p)(A:∀i,i<n->w.l i<=w.u i){i:Nat}(B:i<n):0<f (4*i+2)->f (4*i+1)=w.p i\/w.u i=w.l i:=λD=>by
 have r:(net w n es P).m=4*n+es.length:=rfl;have m:4*i+1<(net w n es P).m:=by rw[r];lia
 have o:4*i+2<(net w n es P).m:=by rw[r];lia
 have u:=q _ m;have I:=(q _ o).2 D;have H:=(C _ m).2;have J:=A i B;cases pipe o with
 |src j k e=>lia
 |g0 j k e=>lia
 |g6 j k e t h d c=>
  obtain rfl:j=i:=by lia
  rw[t,h,d]at I;cases pipe m with
  |src b g l=>lia
  |g0 b g l v F G s=>
   obtain rfl:b=j:=by lia
   rw[v,F,G,s]at u;rw[s]at H;by_cases z:f (4*b+1)<w.p b
   ·have:=u.1 z
    exact .inr (by lia)
   ·exact .inl (by lia)
  |g6 b g l=>lia
  |fj b g l=>lia
  |fk x y b g l=>lia
 |fj j k e=>lia
 |fk x y j k e=>lia
noncomputable def tq(f:Nat->Int)(i:Nat):Int:=f (4*i+1)+f (4*i+2)
theorem R9(G:Good w n es P f a p)(g:∀i,i<n->w.l i<=w.u i):len (net w n es P) f=sm n λi=>if tq f i<=w.p i then tq f i*w.u i else w.p i*w.u i+(tq f i - w.p i)*w.l i:=by
 have b:(net w n es P).m=4*n+es.length:=rfl;rw[Oo]
 refine jU λi h=>?_
 have d:4*i+1<(net w n es P).m:=by rw[b];lia
 have c:4*i+2<(net w n es P).m:=by rw[b];lia
 have c1:=G.ko _ d;have c2:=G.ko _ c;have j:(net w n es P).c (4*i+1)=w.p i:=by
  show(if 4*i+1<4*n/\(4*i+1)%4=1 then w.p ((4*i+1)/4)else P)=_;rw[if_pos (by lia),show(4*i+1)/4=i by lia]
 rw[j]at c1
 exact Q0 c1.1 c1.2 c2.1 (WL G.ko G.jd g h)
end NF
namespace NF
variable {w:Wk}{n:Nat}{c:List (Nat×Nat)}{P h:Int}{f d p q m:Nat->Int}{a g e:Int}
theorem Mr(G:Good w n c P f a p)(b:Good w n c P d g q)(r:p 1=e)(o:q 1=e):len (net w n c P) f - a*e=len (net w n c P) d - g*e:=by
 have l:=ma G.mr G.ko G.jd;have k:=ma b.mr b.ko b.jd;have j:=weak G.mr G.ko q;have i:=weak b.mr b.ko p;rw[G.p0,r,aRz]at l i;rw[b.p0,o,aRz]at k j
 lia
theorem Good.Ag(G:Good w n c P f a m)(b:Good w n c P f a q)(k:m 1<=e)(j:e<=q 1):∃p,Good w n c P f a p/\p 1=e:=by
 refine⟨λv=>if m v<q v - (q 1 - e)then q v - (q 1 - e)else m v,⟨G.mr,G.ko,J6 G.jd b.jd _,?_,λv i=>?_⟩,?_⟩
 ·show(if m 0<q 0 - (q 1 - e)then q 0 - (q 1 - e)else m 0)=0;rw[G.p0,b.p0,if_neg (by lia)]
 ·have:=G.ge v i;show 0<=if m v<q v - (q 1 - e)then q v - (q 1 - e)else m v
  split<;>lia
 ·show(if m 1<q 1 - (q 1 - e)then q 1 - (q 1 - e)else m 1)=e;split<;>lia
end NF
namespace NF
variable {N:Nt}{n:Nat}{f st x p:Nat->Int}
variable{o:Nat×Bool}{r:List (Nat×Bool)}
structure nc(N:Nt)(n:Nat)(f st x:Nat->Int):Prop where
 ge:∀v,v<n->st v<=x v
 le:∀q,(∀v,v<n->st v<=q v)->ja N f q->∀v,v<n->x v<=q v
theorem nc.start:nc N n f st st:=⟨λ_ _=>bM _,λq h _=>h⟩
theorem nc.raise(R:nc N n f st x)(d:ft N f o)(g:rt N o<n)(h:x (rh N o)<x (rt N o)+rd N o):nc N n f st (up x (rh N o) (x (rt N o)+rd N o)):=by
 refine⟨λv b=>?_,λq c a=>Sb a d (R.le q c a) g⟩
 have:=R.ge v b;unfold up;split
 ·rename_i z;subst z;lia
 ·exact this
theorem nc.done(R:nc N n f st x)(h:∀o,ft N f o->x (rt N o)+rd N o<=x (rh N o)):gz N n f st x:=⟨R.ge,lB h,R.le⟩
theorem Jy{n:Nat}{x:Nat->Int}{k:Nat}{v:Int}(a:k<n):sm n (up x k v)=sm n x+(v - x k):=by
 have:=HN (f:=x) (g:=λ_=>1) (v:=v) a;simpa using this
theorem nc.zo(R:nc N n f st x){q:Nat->Int}(b:∀v,v<n->st v<=q v)(c:ja N f q):sm n x<=sm n q:=wP λv a=>R.le q b c v a
theorem Mb(a:rh N o<n)(b:x (rh N o)<x (rt N o)+rd N o):sm n x<sm n (up x (rh N o) (x (rt N o)+rd N o)):=by
 rw[Jy a];lia
structure ub(N:Nt)(f p:Nat->Int)(r:List (Nat×Bool))(v:Nat):Prop where
 wk:Walk N r 0 v
 tg:Tight N p r
 op:∀o∈r,ft N f o
 nd:(0::r.map (rh N)).Nodup
theorem Walk.snoc:∀{r:List (Nat×Bool)}{u v:Nat}{o:Nat×Bool},Walk N r u v->o.1<N.m->rt N o=v->Walk N (r++[o]) u (rh N o)
 | [],u,v,o,h,g,d=>by cases h;exact⟨g,d,rfl⟩
 |e::r,u,v,o,⟨a,b,c⟩,g,d=>⟨a,b,Walk.snoc c g d⟩
theorem ub.nil:ub N f p [] 0:=⟨rfl,(λe h=>by cases h),(λe h=>by cases h),by simp⟩
theorem ub.snoc{v:Nat}(R:ub N f p r v)(c:ft N f o)(h:rt N o=v)(g:p (rt N o)+rd N o=p (rh N o))(i:rh N o∉0::r.map (rh N)):ub N f p (r++[o]) (rh N o):=by
 refine⟨R.wk.snoc c.1 h,λe he=>?_,λe he=>?_,?_⟩
 ·rcases fY he with he|he
  ·exact R.tg e he
  ·rw[gJ he];exact g
 ·rcases fY he with he|he
  ·exact R.op e he
  ·rw[gJ he];exact c
 ·rw[bN,<-aR]
  refine i9 ⟨R.nd,by simp,λa j b d=>?_⟩
  simp only[aK,aY,dO]at d;rintro rfl;subst d
  exact i j
theorem yT:∀{r:List (Nat×Bool)}{u v:Nat},Walk N r u v->(u::r.map (rh N)).Nodup->(r.map (·.1)).Nodup
 | [],_,_,_,_=>List.Pairwise.nil
 |e::r,u,v,⟨_,j,i⟩,b=>by
  rw[aK,cH]at b;rw[aK,cH]
  refine⟨λz=>?_,yT i b.2⟩
  obtain⟨a,d,z⟩:=fU z;have c:rh N a∈r.map (rh N):=cM d;have h:=(i7 b.2).1;by_cases g:a.2=e.2
  ·have:a=e:=aTw z g;subst this
   exact h c
  ·have:rh N a=rt N e:=by
    unfold rh rt;rw[z];cases l:a.2<;>cases k:e.2<;>simp_all
   rw[this,j]at c
   exact b.1 (aX _ c)
theorem ub.pipes{v:Nat}(R:ub N f p r v):(r.map (·.1)).Nodup:=yT R.wk R.nd
end NF
namespace NF
variable {n:Nat}{es:List (Nat×Nat)}
noncomputable def od{a:Type}:List a->List a
 |_::y::r=>y::od r
 |_=>[]
inductive Ky(n:Nat)(es:List (Nat×Nat))(s:Nat×Nat):Prop where
 |src (i:Nat) (hi:i<n) (e:s=(0,2*i+2))
 |wk (i:Nat) (hi:i<n) (e:s=(2*i+2,2*i+3))
 |fj (i:Nat) (hi:i<n) (e:s=(2*i+3,1))
 |fk (x y:Nat) (h:(x,y)∈es) (e:s=(2*x+3,2*y+2))
theorem NI{w:Wk}{P:Int}{f:Nat->Int}{s:Nat×Nat}(h:s∈(fc (net w n es P) f (net w n es P).m).map (·.1)):Ky n es s:=by
 obtain⟨j,b,rfl⟩:=zX h;cases pipe b with
 |src i a e t h d c=>exact .src i a (by rw[t,h])
 |g0 i a e t h d c=>exact .wk i a (by rw[t,h])
 |g6 i a e t h d c=>exact .wk i a (by rw[t,h])
 |fj i a e t h d c=>exact .fj i a (by rw[t,h])
 |fk x y i a e t h d c=>exact .fk x y (aZ a) (by rw[t,h])
noncomputable def iq(i:Nat):Nat×Nat:=(2*i+2,2*i+3)
def D5(es:List (Nat×Nat)):Option Nat->List Nat->Prop
 |_,[]=>True
 |b,i::r=>(∀a,b=some a->(a,i)∈es)/\D5 es (some i) r
theorem Rn{i j:Nat}(h:iq i=iq j):i=j:=by
 unfold iq at h;have:=(aTF.inj h).1
 lia
theorem IM:∀(r:List (Nat×Nat))(b:Option Nat),SW r (match b with|none=>0|some a=>2*a+3) 1->(∀s∈r,Ky n es s)->
 ∃is:List Nat,od r=is.map iq/\(∀i∈is,i<n)/\D5 es b is/\(b=none->is≠[])/\∀i,r.count (iq i)=is.count i
 | [],b,h,_=>by
   exfalso;have h:(match b with|none=>0|some a=>2*a+3)=1:=h;cases b<;>simp at h
 | [s],b,⟨f,c⟩,k=>by
   have c:s.2=1:=c
   refine⟨[],rfl,by simp,trivial,λl=>?_,λi=>?_⟩
   ·subst l;exfalso;cases k s bC with
    |src i g e=>rw[e]at c;simp at c
    |wk i g e=>rw[e]at f;simp at f
    |fj i g e=>rw[e]at f;simp at f
    |fk x y h e=>rw[e]at f;simp at f
   ·rw[aSB,List.count_nil,if_neg];intro z;have:s=iq i:=by simpa using z
    rw[this]at c;unfold iq at c;simp at c
 |s::u::r,b,⟨f,c,F⟩,k=>by
  have C:=k s bC;have p:=k u (aX _ bC);have key:∃i,i<n/\u=iq i/\(∀a,b=some a->(a,i)∈es)/\∀j,s≠iq j:=by
   cases C with
   |src i g e=>
    subst e;have l:b=none:=by cases b<;>simp_all
    cases p with
    |src j d e=>subst e;simp at c
    |wk j d e=>
     subst e
     refine⟨j,d,rfl,λa m=>?_,λD z=>?_⟩
     ·rw[l]at m;cases m
     ·unfold iq at z;simp at z
    |fj j d e=>subst e;simp at c;lia
    |fk x y h e=>subst e;simp at c;lia
   |wk i g e=>subst e;cases b<;>simp at f<;>lia
   |fj i g e=>
    subst e;cases p with
    |src j d e=>subst e;simp at c
    |wk j d e=>subst e;simp at c
    |fj j d e=>subst e;simp at c
    |fk x y h e=>subst e;simp at c
   |fk x y h e=>
    subst e;cases p with
    |src j d e=>subst e;simp at c
    |wk j d e=>
     subst e;have t:j=y:=by simp at c;lia
     subst t
     refine⟨j,d,rfl,λa m=>?_,λD z=>?_⟩
     ·subst m;have:x=a:=by simp at f;lia
      subst this;exact h
     ·unfold iq at z;simp at z;lia
    |fj j d e=>subst e;simp at c;lia
    |fk I H J e=>subst e;simp at c;lia
  obtain⟨i,g,G,l,q⟩:=key;subst G;obtain⟨is,B,A,w,_,v⟩:=IM r (some i) F λs q=>k s (aX _ (aX _ q))
  refine⟨i::is,?_,?_,⟨l,w⟩,λ_=>by simp,λj=>?_⟩
  ·show iq i::od r=_;rw[B];rfl
  ·intro j d;rcases fR d with rfl|d
   ·exact g
   ·exact A j d
  ·have c1:(s==iq j)=false:=beq_eq_false_iff_ne.mpr (q j);rw[eG,eG,v,eG,c1];by_cases o:i=j
   ·subst o;simp
   ·have c2:(iq i==iq j)=false:=beq_eq_false_iff_ne.mpr λz=>o (Rn z)
    have c3:(i==j)=false:=beq_eq_false_iff_ne.mpr o;rw[c2,c3];simp
end NF
namespace TL
open PySem L2
section
variable {s:aD}{C:ab}{Q:T->ab->Prop}{D:List T->ab->Prop}{QS:Fl->aD->ab->Prop}{a b c v A w:FE}{H:FN}{F:FS}
variable{I:String}{ks:List (List Key)}{i j:Int}{G:List T->ab->Option (T×ab)}{J tk:T}{K:FB}
theorem Fb{c:Nat}{f:List Str}{d:List T}(e:C[c]?=some (.o I f,d)):oc I C (.cell c)=some (c,f,d):=by
 show(C[c]?).bind _=_;rw[e,aS]
 exact if_pos rfl
theorem wH{c:Nat}{ks:List Key}{d:List T}(e:C[c]?=some (.dk ks,d)):sx C (.cell c)=some (c,ks,d):=by
 show(C[c]?).bind _=_;rw[e];rfl
theorem Jr{c:Nat}{d:List T}(e:C[c]?=some (.dt ks,d)):AM C (.cell c)=some (c,ks,d):=by
 show(C[c]?).bind _=_;rw[e];rfl
theorem IE{c:Nat}{d:List T}(e:C[c]?=some (.dt ks,d)\/C[c]?=some (.dz ks,d)):AL C (.cell c)=some (c,ks,d):=by
 show(C[c]?).bind _=_;rcases e with e|e<;>(rw[e];rfl)
theorem Jt{c:Nat}{d:List T}(e:C[c]?=some (.dt ks,d)\/C[c]?=some (.dz ks,d)):sx C (.cell c)=none:=by
 show(C[c]?).bind _=_;rcases e with e|e<;>(rw[e];rfl)
def p7(I:String)(f:Str)(C:ab)(t:T):Option T:=(oc I C t).bind λx=>dj f x.2.1 x.2.2
theorem Gi{f:Str}:aC (mU I f a) s C Q↔aC a s C λt g=>∃u,p7 I f g t=some u/\Q u g:=by
 rw[FI];unfold aC;constructor
 ·rintro⟨t,g,e,u,l,d,q⟩;unfold AW at d;obtain⟨x,h,d⟩:=eV d;obtain⟨y,k,d⟩:=eZ d;cases d
  exact⟨t,_,e,u,by unfold p7;rw[h];exact k,q⟩
 ·rintro⟨t,g,e,u,d,q⟩;unfold p7 at d;obtain⟨x,h,d⟩:=eV d
  exact⟨t,g,e,u,g,by unfold AW;rw[h,aS,d];rfl,q⟩
theorem Re{f:Str}{t:T}:aJ (AW I f t C) Q↔∃u,p7 I f C t=some u/\Q u C:=by
 unfold aJ AW p7;constructor
 ·rintro⟨u,k,d,q⟩;obtain⟨x,g,d⟩:=eV d;obtain⟨y,h,d⟩:=eZ d;cases d
  exact⟨u,by rw[g];exact h,q⟩
 ·rintro⟨u,d,q⟩;obtain⟨x,g,d⟩:=eV d
  exact⟨u,C,by rw[g,aS,d];rfl,q⟩
def AS(I:String)(f:Str)(x:T)(C:ab)(t:T):Option ab:=(oc I C t).bind λy=>if y.2.1.length<900 then some (C.set y.1 (.o I (pn f y.2.1),pv f x y.2.1 y.2.2))else none
theorem oJ{f:Str}(h:aC a s C λx l=>aC v s l λt k=>∃g,AS I f x k t=some g/\QS .nx s g):wpS (pC I f v a) s C QS:=by
 obtain⟨x,l,o,t,k,n,g,d,q⟩:=h
 refine⟨.nx,s,g,?_,q⟩
 unfold pC;rw[o,aS,n,aS];unfold AS at d;obtain⟨y,m,d⟩:=eV d;rw[m,aS];try dsimp only at d|-
 split at d
 ·rename_i h;cases d;rw[if_pos h]
 ·cases d
theorem y0{f:Str}{g:Int->Int->Int}(h:aC v s C λt m=>p7 I f m t=some (.int i)/\aC a s m λx n=>x=.int j/\∃l,AS I f (.int (g i j)) n t=some l/\QS .nx s l):wpS (wL I f g v a) s C QS:=by
 obtain⟨t,m,u,k,x,n,r,rfl,l,d,q⟩:=h
 refine⟨.nx,s,l,?_,q⟩
 unfold wL;rw[u,aS];unfold p7 at k;obtain⟨y,p,k⟩:=eV k;rw[p,aS];try dsimp only at k|-
 rw[k,aS];try dsimp only
 rw[r,aS];try dsimp only
 unfold AS at d;obtain⟨z,o,d⟩:=eV d;rw[o,aS];try dsimp only at d|-
 split at d
 ·rename_i h;cases d;rw[if_pos h]
 ·cases d
theorem Up{n:Nat}:aC (mD n G H) s C Q↔ez H s C λd g=>d.length=n/\aJ (G d g) Q:=by
 rw[Gw];unfold ez aJ rX;constructor
 ·rintro⟨d,g,e,t,k,f,q⟩;split at f
  ·exact⟨d,g,e,‹_›,t,k,f,q⟩
  ·cases f
 ·rintro⟨d,g,e,h,t,k,f,q⟩
  exact⟨d,g,e,t,k,by rw[if_pos h];exact f,q⟩
def iA:=λ{a b c d e f}=>(@Up a b c d e f).mpr
def BN(I:String)(m:Str)(C:ab)(t:T):Prop:=∃x,oc I C t=some x/\dj m x.2.1 x.2.2=none
theorem nZ{m:Str}{n:Nat}(h:aC v s C λt f=>BN I m f t/\ez H s f λd g=>d.length+1=n/\aJ (G (t::d) g) Q):aC (mR I m n G v H) s C Q:=by
 obtain⟨t,f,y,⟨x,u,p⟩,d,g,o,k,r,z,l,q⟩:=h
 refine⟨r,z,?_,q⟩
 unfold mR;rw[y,aS];try dsimp only
 rw[u,aS];try dsimp only
 rw[p];try dsimp only
 rw[o,aS];unfold rX;rw[if_pos (by simpa using k)]
 exact l
theorem zD{n:Nat}{gy:List T}(h:ez H s C λf d=>(f++gy).length+1=n/\aJ (G (.cell d.length::(f++gy)) (d++[(.o I [],[])])) λr g=>r=.aH/\Q (.cell d.length) g):aC (wY I n G gy H) s C Q:=by
 obtain⟨f,d,m,k,r,g,l,rfl,q⟩:=h
 refine⟨_,g,?_,q⟩
 unfold wY;rw[m,aS];try dsimp only
 unfold rX;rw[if_pos (by simpa using k),l];rfl
theorem j0{B:FS}{m:Nat}{ts:List T}(h:wpS B (gp m ts) C λl f d=>match l with
 | .nx=>Q .aH d
 | .rt r=>Q r d
 |_=>False):aJ (o3 B m ts C) Q:=by
 obtain⟨l,f,d,e,q⟩:=h;cases l with
 |nx=>exact⟨_,d,by unfold o3;rw[e],q⟩
 |rt r=>exact⟨_,d,by unfold o3;rw[e],q⟩
 |bk=>exact q.elim
 |ct=>exact q.elim
 |ex c=>exact q.elim
theorem LG{d:Kd}:aC (wZ d) s C Q↔Q (.cell C.length) (C++[(d,[])]):=by
 unfold aC wZ;constructor
 ·rintro⟨_,_,e,q⟩;cases e;exact q
 ·exact λq=>⟨_,_,rfl,q⟩
theorem Th:aJ (Dr J tk C) Q↔∃t,eM C J tk=some (some t)/\Q t C:=by
 unfold aJ Dr;constructor
 ·rintro⟨t,f,e,q⟩;split at e
  ·rename_i u d;cases e;exact⟨_,d,q⟩
  ·cases e
 ·rintro⟨t,e,q⟩
  exact⟨t,C,by rw[e],q⟩
def mM:=λ{a b c d}=>(@Th a b c d).mpr
theorem Gq{n:Bool}:aJ (zM n tk J C) Q↔∃o,eM C J tk=some o/\Q (.bl (o.isSome==n)) C:=by
 unfold aJ zM;constructor
 ·rintro⟨t,f,e,q⟩;obtain⟨o,d,e⟩:=eZ e;cases e
  exact⟨o,d,q⟩
 ·rintro⟨o,e,q⟩
  exact⟨_,C,by rw[e];rfl,q⟩
theorem Ue(h:aC v s C λJ f=>ic f J=true/\aC A s f λtk k=>aC w s k λg d=>∃o,eM d J tk=some o/\Q (o.getD g) d):aC (vF v A w) s C Q:=by
 obtain⟨J,f,r,l,tk,k,p,g,d,n,o,m,q⟩:=h
 refine⟨_,d,?_,q⟩
 unfold vF;rw[r,aS];try dsimp only
 rw[if_pos l,p,aS];try dsimp only
 rw[n,aS];try dsimp only
 rw[m];rfl
theorem KU(h:aC w s C λf l=>aC v s l λJ k=>aC A s k λtk g=>∃d,dput g J tk f=some d/\QS .nx s d):wpS (yY v A w) s C QS:=by
 obtain⟨f,l,p,J,k,o,tk,g,n,d,m,q⟩:=h
 refine⟨.nx,s,d,?_,q⟩
 unfold yY;rw[p,aS];try dsimp only
 rw[o,aS];try dsimp only
 rw[n,aS];try dsimp only
 rw[m];rfl
theorem S7{g:Int->Int->Int}(h:aC v s C λJ m=>aC A s m λtk f=>eM f J tk=some (some (.int i))/\aC w s f λk l=>k=.int j/\∃d,dput l J tk (.int (g i j))=some d/\QS .nx s d):wpS (A8 g v A w) s C QS:=by
 obtain⟨J,m,t,tk,f,r,p,k,l,o,rfl,d,n,q⟩:=h
 refine⟨.nx,s,d,?_,q⟩
 unfold A8;rw[t,aS];try dsimp only
 rw[r,aS];try dsimp only
 rw[p];try dsimp only
 rw[o,aS];try dsimp only
 rw[n];rfl
theorem Vi{k:Key}{x:T}(h:aC A s (C++[(.dk [],[])]) λtk g=>Ac tk=some k/\aC w s g λf d=>f=x/\d[C.length]?=some (.dk [],[])/\Q (.cell C.length) (d.set C.length (.dk [k],[x]))):aC (vW A w) s C Q:=by
 obtain⟨tk,g,o,n,f,d,m,rfl,l,q⟩:=h
 refine⟨_,_,?_,q⟩
 unfold vW;rw[o,aS];try dsimp only
 rw[m,aS];try dsimp only
 rw[n,aS];have:=wH l;rw[this]
theorem Ti{c1 c2:Nat}{ks ks':List Key}{f g:List T}(h:aC v s C λJ k=>J=.cell c1/\ic k J=true/\aC w s k λl d=>l=.cell c2/\d[c1]?=some (.dk ks,f)/\d[c2]?=some (.dk ks',g)/\c1≠c2/\ks.length+ks'.length<=lim/\
 Q .aH (d.set c1 (.dk (dd ks' g (ks,f)).1,(dd ks' g (ks,f)).2))):aC (zQ v w) s C Q:=by
 obtain⟨J,k,y,rfl,o,l,d,x,rfl,u,t,m,n,q⟩:=h
 refine⟨_,_,?_,q⟩
 unfold zQ;rw[y,aS];try dsimp only
 rw[if_pos o,x,aS];try dsimp only
 have r:=wH u;have p:=wH t;rw[r,p,aS,aS];try dsimp only
 rw[if_pos ⟨m,n⟩]
theorem SH:ez (A1 a) s C D↔aC a s C λt f=>∃d,du f t=some d/\D (od d) f:=by
 unfold ez aC A1;constructor
 ·rintro⟨k,l,e,q⟩;obtain⟨⟨t,f⟩,h,e⟩:=eV e;obtain⟨d,g,e⟩:=eZ e;cases e
  exact⟨t,_,h,d,g,q⟩
 ·rintro⟨t,f,h,d,g,q⟩
  exact⟨_,_,by rw[h,aS,g];rfl,q⟩
theorem KF{g:FG}:wpS (zS a g F) s C QS↔aC a s C λt f=>∃d,du f t=some d/\wpS (lH (stays t d) g F (vU d)) s f QS:=by
 unfold wpS aC zS;constructor
 ·rintro⟨l,m,n,e,q⟩;obtain⟨⟨t,f⟩,k,e⟩:=eV e;obtain⟨d,h,e⟩:=eV e
  exact⟨t,f,k,d,h,l,m,n,e,q⟩
 ·rintro⟨t,f,k,d,h,l,m,n,e,q⟩
  exact⟨l,m,n,by rw[k,aS];try dsimp only;rw[h,aS];exact e,q⟩
theorem U4{k:Nat}{is:List Nat}{g:FG}{p:FE}:ez (vE a k is g K p) s C D↔aC a s C λt f=>∃d,du f t=some d/\(vU d).length<lim/\pk (kD g K p (fw k is s) (vU d) f) D:=by
 unfold ez aC pk vE;constructor
 ·rintro⟨l,o,e,q⟩;obtain⟨⟨t,f⟩,n,e⟩:=eV e;obtain⟨d,m,e⟩:=eV e;split at e
  ·exact⟨t,f,n,d,m,‹_›,l,o,e,q⟩
  ·cases e
 ·rintro⟨t,f,n,d,m,h,l,o,e,q⟩
  exact⟨l,o,by rw[n,aS];try dsimp only;rw[m,aS,if_pos h];exact e,q⟩
theorem yU{d:Type}{f:d->T}{xs:List d}:vU (xs.map f)=(xs.zipIdx).map λp=>.tup [.int p.2,f p.1]:=by
 unfold vU;rw[List.zipIdx_map,bR];rfl
theorem UT{k:Nat}{is:List Nat}{g:FG}{m:FE}{c:Nat}{ts:List T}
 (h:aC a s C λt d=>t=.cell c/\d[c]?=some (.dt ks,ts)/\ks.length=ts.length/\ks.length<lim/\pk (kD g K m (fw k is s) (ks.map Cc) (d.set c (.dz ks,ts))) λf n=>n=d.set c (.dz ks,ts)/\D f d):ez (v6 a k is g K m) s C D:=by
 obtain⟨t,d,y,rfl,l,o,u,f,n,x,rfl,q⟩:=h;have p:c<d.length:=(fA l).1
 refine⟨f,d,?_,q⟩
 unfold v6;rw[y,aS];try dsimp only
 have r:=Jr l;rw[r,aS];try dsimp only
 rw[if_pos ⟨u,o⟩,x,aS];try dsimp only
 rw[bK p];try dsimp only
 rw[d9,<-(fA l).2,eK]
end
end TL
namespace TL
open PySem L2
variable{c:Nat}{a:String}{ns:List Str}
noncomputable def eW:List Str:=["tail","head","hours","room","back"]
noncomputable def z3:List Str:=["pipes","places"]
theorem oQ{C:ab}{x:Cl}(h:c<C.length):(C.set c x)[c]?=some x:=bK h
theorem mW{C:ab}{x:Cl}(h:C[c]?=some x):c<C.length:=(fA h).1
theorem mY{f:Str}{x:T}{C:ab}{d:List Str}{b g:List T}(e:C[c]?=some (.o a ns,b))(h:ns.length<900)(j:pn f ns=d)(i:pv f x ns b=g):AS a f x C (.cell c)=some (C.set c (.o a d,g)):=by
 unfold AS;rw[Fb e,aS];dsimp only;rw[if_pos h,j,i]
theorem mN{f:Str}{C:ab}{b:List T}{u:T}(e:C[c]?=some (.o a ns,b))(h:dj f ns b=some u):p7 a f C (.cell c)=some u:=by
 unfold p7;rw[Fb e];exact h
theorem o6{m:Str}{C:ab}{b:List T}(e:C[c]?=some (.o a ns,b))(h:dj m ns b=none):BN a m C (.cell c):=⟨_,Fb e,h⟩
end TL
namespace aI
open PySem L2 TL
variable{c:Nat}{h d r:T}{Q:T->ab->Prop}
theorem Wh{C:ab}{t:T}(e:C[c]?=some (.o "Pipe" [],[]))(q:Q .aH (C.set c (.o "Pipe" eW,[t,h,d,r,.aH]))):aJ (nL [.cell c,t,h,d,r] C) Q:=by
 have a:=mW e
 refine j0 ?_
 unfold y9;walk_at "a"
 refine fJ (oJ ?_)
 try simp_arith[if_true]
 refine⟨_,mY e (by decide) rfl rfl,?_⟩
 refine oJ ?_
 try simp_arith[if_true]
 refine⟨_,mY (oQ a) (by decide) rfl rfl,?_⟩
 rw[d9]
 refine oJ ?_
 try simp_arith[if_true]
 refine⟨_,mY (oQ a) (by decide) rfl rfl,?_⟩
 rw[d9]
 refine oJ ?_
 try simp_arith[if_true]
 refine⟨_,mY (oQ a) (by decide) rfl rfl,?_⟩
 rw[d9]
 refine oJ ?_
 try simp_arith[if_true]
 refine⟨_,mY (oQ a) (by decide) rfl rfl,?_⟩
 rw[d9]
 exact q
theorem sH{C:ab}{t:T}(q:Q .aH (C++[(.o "Pipe" eW,[t,h,d,r,.aH])])):aJ (nL [.cell C.length,t,h,d,r] (C++[(.o "Pipe" [],[])])) Q:=by
 refine Wh (by simp) ?_
 rw[bY _ _ (bE _),c7]
 exact q
theorem OL{C:ab}{d:Nat}{a:List T}{b:T}{t h x r:Int}(i:C[c]?=some (.o "Net" z3,[.cell d,b]))(g:C[d]?=some (.l,a))(k:a.length<lim)
 (q:Q .aH (C.set d (.l,a++[.cell C.length])++[(.o "Pipe" eW,[.int t,.int h,.int x,.int r,.cell (C.length+1)]),(.o "Pipe" eW,[.int h,.int t,.int (-x),.int 0,.cell C.length])])):
 aJ (kR [.cell c,.int t,.int h,.int x,.int r] C) Q:=by
 have l:=mW i;have f:=mW g
 refine j0 ?_
 unfold Mi;walk_at "a"
 refine fJ (fQ (zD ?_))
 try simp_arith[if_true]
 first|refine sH ⟨rfl,?_⟩|refine⟨rfl,sH ⟨rfl,?_⟩⟩
 try simp_arith[if_true]
 refine zD ?_
 try simp_arith[if_true]
 first|refine sH ⟨rfl,?_⟩|refine⟨rfl,sH ⟨rfl,?_⟩⟩
 try simp_arith[if_true]
 have j:(C++[(Kd.o "Pipe" eW,[T.int t,T.int h,T.int x,T.int r,T.aH])]).length=C.length+1:=by simp
 rw[j];have f1:(C++[(Kd.o "Pipe" eW,[T.int t,T.int h,T.int x,T.int r,T.aH])]++[(Kd.o "Pipe" eW,[T.int h,T.int t,T.int (-x),T.int 0,T.aH])])[C.length]?=some (Kd.o "Pipe" eW,[T.int t,T.int h,T.int x,T.int r,T.aH]):=by simp
 refine oJ ?_
 try simp_arith[if_true]
 refine⟨_,mY f1 (by decide) rfl rfl,?_⟩
 have f2:((C++[(Kd.o "Pipe" eW,[T.int t,T.int h,T.int x,T.int r,T.aH])]++[(Kd.o "Pipe" eW,[T.int h,T.int t,T.int (-x),T.int 0,T.aH])]).set C.length (Kd.o "Pipe" eW,[T.int t,T.int h,T.int x,T.int r,T.cell (C.length+1)]))=C++[(Kd.o "Pipe" eW,[T.int t,T.int h,T.int x,T.int r,T.cell (C.length+1)]),(Kd.o "Pipe" eW,[T.int h,T.int t,T.int (-x),T.int 0,T.aH])]:=by
  rw[cJ,bY _ _ (bE _),c7];rfl
 rw[show(pv ("back":Str) (T.cell (C.length+1)) eW [T.int t,T.int h,T.int x,T.int r,T.aH])=[T.int t,T.int h,T.int x,T.int r,T.cell (C.length+1)]from rfl,show pn ("back":Str) eW=eW from rfl,f2];try simp_arith[if_true]
 refine oJ ?_
 try simp_arith[if_true]
 have n:(C++[(Kd.o "Pipe" eW,[T.int t,T.int h,T.int x,T.int r,T.cell (C.length+1)]),(Kd.o "Pipe" eW,[T.int h,T.int t,T.int (-x),T.int 0,T.aH])])[C.length+1]?=some (Kd.o "Pipe" eW,[T.int h,T.int t,T.int (-x),T.int 0,T.aH]):=by
  rw[bD (by lia)];simp
 refine⟨_,mY n (by decide) rfl rfl,?_⟩
 have m:((C++[(Kd.o "Pipe" eW,[T.int t,T.int h,T.int x,T.int r,T.cell (C.length+1)]),(Kd.o "Pipe" eW,[T.int h,T.int t,T.int (-x),T.int 0,T.aH])]).set (C.length+1) (Kd.o "Pipe" eW,[T.int h,T.int t,T.int (-x),T.int 0,T.cell C.length]))=C++[(Kd.o "Pipe" eW,[T.int t,T.int h,T.int x,T.int r,T.cell (C.length+1)]),(Kd.o "Pipe" eW,[T.int h,T.int t,T.int (-x),T.int 0,T.cell C.length])]:=by
  rw[bY _ _ (by lia),show C.length+1 - C.length=1 by lia];rfl
 rw[show(pv ("back":Str) (T.cell C.length) eW [T.int h,T.int t,T.int (-x),T.int 0,T.aH])=[T.int h,T.int t,T.int (-x),T.int 0,T.cell C.length]from rfl,show pn ("back":Str) eW=eW from rfl,m];simp only[Re];have g1:(C++[(Kd.o "Pipe" eW,[T.int t,T.int h,T.int x,T.int r,T.cell (C.length+1)]),(Kd.o "Pipe" eW,[T.int h,T.int t,T.int (-x),T.int 0,T.cell C.length])])[c]?=some (.o "Net" z3,[.cell d,b]):=by rw[aW l];exact i
 have g2:lc (C++[(Kd.o "Pipe" eW,[T.int t,T.int h,T.int x,T.int r,T.cell (C.length+1)]),(Kd.o "Pipe" eW,[T.int h,T.int t,T.int (-x),T.int 0,T.cell C.length])]) d=some a:=by rw[nM,aW f];exact g
 refine⟨_,mN g1 rfl,d,rfl,by rw[g2];rfl,a,g2,k,?_⟩
 rw[aSA _ _ f]
 exact q
end aI
namespace aI
open PySem L2 TL NF
variable{c:Nat}{nd:List (List Int)}
noncomputable def pc(c:Nat)(o:Nat×Bool):Nat:=c+2+2*o.1+if o.2 then 0 else 1
theorem HC{k:Nat}:pc c (k,true)=c+2+2*k:=rfl
theorem EM{k:Nat}:pc c (k,false)=c+2+2*k+1:=rfl
def h7(N:Nt)(f:Nat->Int)(c:Nat)(o:Nat×Bool):Cl:=(.o "Pipe" eW,[.int (rt N o),.int (rh N o),.int (rd N o),.int (rr N f o),.cell (pc c (o.1,!o.2))])
structure Pre(N:Nt)(k:Nat)(C0:ab)(pl:Int)(C:ab):Prop where
 pre:∀i,i<C0.length->C[i]?=C0[i]?
 len:C.length=C0.length+2+2*k
 net:C[C0.length]?=some (.o "Net" z3,[.cell (C0.length+1),.int pl])
 lst:C[C0.length+1]?=some (.l,(bH k).map λj=>.cell (pc C0.length (j,true)))
 km:∀o:Nat×Bool,o.1<k->C[pc C0.length o]?=some (h7 N (λ_=>0) C0.length o)
theorem Pre.lay{N:Nt}{k:Nat}{a C:ab}{n:Int}(P:Pre N k a n C)(e:k<90000){t h d r:Int}(u:t=N.t k)(x:h=N.h k)(y:d=N.d k)(v:r=N.c k){Q:T->ab->Prop}(q:∀s,Pre N (k+1) a n s->Q .aH s):
 aJ (kR [.cell a.length,.int t,.int h,.int d,.int r] C) Q:=by
 subst u x y v
 refine OL P.net P.lst (by simp[lim];lia) (q _ ?_)
 have l:=P.len;have p:a.length+1<C.length:=by lia
 have f:∀i,i<C.length->i≠a.length+1->(C.set (a.length+1) (Kd.l,(bH k).map (λj=>T.cell (pc a.length (j,true)))++[T.cell C.length])++
  [(Kd.o "Pipe" eW,[T.int (N.t k),T.int (N.h k),T.int (N.d k),T.int (N.c k),T.cell (C.length+1)]),(Kd.o "Pipe" eW,[T.int (N.h k),T.int (N.t k),T.int (-N.d k),T.int 0,T.cell C.length])])[i]?=C[i]?:=λi m w=>by
  rw[aW (by simpa using m),aT (Ne.symm w)]
 refine⟨λi m=>?_,by simp;lia,?_,?_,λo z=>?_⟩
 ·rw[f i (by lia) (by lia)];exact P.pre i m
 ·rw[f _ (by lia) (by lia)];exact P.net
 ·rw[aW (by simpa using p),bK p,aSq,bN,l];rfl
 ·by_cases g:o.1<k
  ·rw[f _ (by unfold pc;split<;>lia) (by unfold pc;lia)]
   exact P.km o g
  ·have:o.1=k:=by lia
   obtain⟨j,b⟩:=o;cases this;cases b with
   |true=>
    rw[HC,bD (by simp;lia)];simp only[cA,l,c7,bP];unfold h7 rt rh rd rr;simp[EM]
   |false=>
    rw[EM,bD (by simp;lia)];simp only[cA,l];rw[show a.length+2+2*j+1 - (a.length+2+2*j)=1 by lia];unfold h7 rt rh rd rr;simp[HC]
noncomputable def gM(ws:List (Int×Int×Int)):Wk:=⟨λi=>((ws[i]?).getD (0,0,0)).1,λi=>((ws[i]?).getD (0,0,0)).2.1,λi=>((ws[i]?).getD (0,0,0)).2.2⟩
noncomputable def j7:Nat->List (List Int)->List (Nat×Nat)
 |_,[]=>[]
 |s,l::r=>(l.map λa=>(a.toNat,s))++j7 (s+1) r
theorem GF:∀{nd:List (List Int)}{s b j:Nat}{l:List Int}{a:Int},nd[b]?=some l->l[j]?=some a->(j7 s nd)[(j7 s (nd.take b)).length+j]?=some (a.toNat,s+b)
 | [],s,b,j,l,a,h,_=>by simp at h
 |x::nd,s,0,j,l,a,h,d=>by
  simp at h;subst h;show((x.map λa=>(a.toNat,s))++j7 (s+1) nd)[0+j]?=_;rw[dX,aW (by simpa using(fA d).1),bA,d];rfl
 |x::nd,s,b+1,j,l,a,h,d=>by
  have ih:=GF (s:=s+1) (b:=b) (nd:=nd) (by simpa using h) d;show((x.map λa=>(a.toNat,s))++j7 (s+1) nd)[((x.map λa=>(a.toNat,s))++j7 (s+1) (nd.take b)).length+j]?=_;rw[bF,aSc,bD (by lia),Nat.add_sub_cancel_left,ih];congr 2;lia
theorem Vc:∀{s b:Nat}{l:List Int},nd[b]?=some l->(j7 s (nd.take (b+1))).length=(j7 s (nd.take b)).length+l.length:=by
 induction nd with
 |nil=>intro s b l h;simp at h
 |cons x nd ih=>
  intro s b l h;cases b with
  |zero=>simp at h;subst h;simp[j7]
  |succ b=>
   have:=ih (s:=s+1) (b:=b) (by simpa using h);simp only[aSF,j7,bF,aN]at this|-
   lia
theorem Lo{z:Nat}(h:∀l∈nd,l.length<=z):∀{s:Nat},(j7 s nd).length<=nd.length*z:=by
 induction nd with
 |nil=>intro s;simp[j7]
 |cons x nd ih=>
  intro s;have d:=h x bC;have b:=ih (λl a=>h l (aX _ a)) (s:=s+1);simp only[j7,bF,aN,aM,Nat.add_mul,Nat.one_mul]
  lia
theorem TY{e:Nat×Nat}:∀{s:Nat},e∈j7 s nd->∃b l a,nd[b]?=some l/\a∈l/\e=(a.toNat,s+b):=by
 induction nd with
 |nil=>intro s h;simp[j7]at h
 |cons x nd ih=>
  intro s h;rcases fY (show e∈(x.map λa=>(a.toNat,s))++j7 (s+1) nd from h)with h|h
  ·obtain⟨a,d,rfl⟩:=fU h
   exact⟨0,x,a,rfl,d,rfl⟩
  ·obtain⟨b,l,a,i,g,f⟩:=ih h
   exact⟨b+1,l,a,by simpa using i,g,by rw[f];congr 1;lia⟩
theorem Rq{b:Nat}{l:List Int}{a:Int}(h:nd[b]?=some l)(f:a∈l):(a.toNat,b)∈j7 0 nd:=by
 obtain⟨j,d⟩:=fT f;have:=GF (s:=0) h d;rw[dX]at this
 exact aZ this
end aI
namespace aI
open PySem L2 TL NF
variable{i:Nat}{w:Wk}{es:List (Nat×Nat)}{P:Int}
theorem z7:jA [.int i]=some (.int (2*i+2)):=by
 apply iP;unfold tQ;walk_at "a";simp_arith[if_true]
 refine⟨lG (by lia) (by lia),?_⟩
 rfl
theorem WU:jO [.int i]=some (.int (2*i+3)):=by
 apply iP;unfold vD;walk_at "a";simp_arith[if_true]
 refine⟨lG (by lia) (by lia),?_⟩
 rfl
theorem V8:sG [.int (2*i+2)]=some (.int i):=by
 apply iP;unfold L7;walk_at "a";simp_arith[if_true]
 refine⟨by decide,?_⟩
 show some (T.int ((2*(i:Int)+2)/2 - 1))=_;congr 2;lia
theorem QJ{n:Nat}(d:i<n):(net w n es P).t (4*i)=0/\(net w n es P).h (4*i)=2*i+2/\(net w n es P).d (4*i)=0/\(net w n es P).c (4*i)=P:=by
 have c:4*i<4*n:=by lia
 have a:4*i%4=0:=by lia
 have b:4*i/4=i:=by lia
 refine⟨?_,?_,?_,?_⟩<;>simp[net,c,a,b]
theorem RC{n:Nat}(d:i<n):(net w n es P).t (4*i+1)=2*i+2/\(net w n es P).h (4*i+1)=2*i+3/\(net w n es P).d (4*i+1)=w.u i/\(net w n es P).c (4*i+1)=w.p i:=by
 have c:4*i+1<4*n:=by lia
 have a:(4*i+1)%4=1:=by lia
 have b:(4*i+1)/4=i:=by lia
 refine⟨?_,?_,?_,?_⟩<;>simp[net,c,a,b]
theorem SK{n:Nat}(d:i<n):(net w n es P).t (4*i+2)=2*i+2/\(net w n es P).h (4*i+2)=2*i+3/\(net w n es P).d (4*i+2)=w.l i/\(net w n es P).c (4*i+2)=P:=by
 have c:4*i+2<4*n:=by lia
 have a:(4*i+2)%4=2:=by lia
 have b:(4*i+2)/4=i:=by lia
 refine⟨?_,?_,?_,?_⟩<;>simp[net,c,a,b]
theorem SF{n:Nat}(d:i<n):(net w n es P).t (4*i+3)=2*i+3/\(net w n es P).h (4*i+3)=1/\(net w n es P).d (4*i+3)=0/\(net w n es P).c (4*i+3)=P:=by
 have c:4*i+3<4*n:=by lia
 have a:(4*i+3)%4=3:=by lia
 have b:(4*i+3)/4=i:=by lia
 refine⟨?_,?_,?_,?_⟩<;>simp[net,c,a,b]
theorem Sr{n:Nat}{j a b:Nat}(d:es[j]?=some (a,b)):(net w n es P).t (4*n+j)=2*a+3/\(net w n es P).h (4*n+j)=2*b+2/\(net w n es P).d (4*n+j)=0/\(net w n es P).c (4*n+j)=P:=by
 have f:¬4*n+j<4*n:=by lia
 have c:4*n+j - 4*n=j:=by lia
 refine⟨?_,?_,?_,?_⟩<;>simp[net,f,c,d]
noncomputable def plenty(a:List (Int×Int×Int))(bonus:Int):Int:=(a.map (·.2.2)).sum+bonus+1
def jR(ws:List (Int×Int×Int))(nd:List (List Int))(bonus:Int):Nt:=net (gM ws) ws.length (j7 0 nd) (plenty ws bonus)
theorem TU{C:ab}{c:Nat}{t h d r:Int}{a:aD}{QS:TL.Fl->aD->ab->Prop}{b fh g f:FE}{j:T}{e:Nat}(p:a[0]?=some (some (.cell c)))(o:C[c]?=some (.o "Net" z3,[.cell e,j]))
 (k:b a C=some (.int t,C))(m:fh a C=some (.int h,C))(n:g a C=some (.int d,C))(l:f a C=some (.int r,C))(q:aJ (kR [.cell c,.int t,.int h,.int d,.int r] C) λ_ s=>QS .nx a s):
 wpS (oB (mR "Net" "lay" 5 kR Y0 (fB b (fB fh (fB g (fB f fP)))))) a C QS:=by
 refine mK (nZ ?_)
 refine fF p ⟨o6 o rfl,?_⟩
 refine eX ⟨_,_,k,eX ⟨_,_,m,eX ⟨_,_,n,eX ⟨_,_,l,fE ⟨rfl,q⟩⟩⟩⟩⟩
theorem o0{a:aD}{C:ab}{k:Nat}(h:a[k]?=some (some (.int i))):gG 1 jA (fB (k8 k) fP) a C=some (.int (2*i+2),C):=by
 have:aC (gG 1 jA (fB (k8 k) fP)) a C λt b=>t=.int (2*i+2)/\b=C:=by
  refine fK (eX (fF h (fE ?_)))
  exact(f7 z7 rfl rfl).mpr ⟨rfl,rfl⟩
 obtain⟨t,b,e,rfl,rfl⟩:=this
 exact e
theorem p9{a:aD}{C:ab}{k:Nat}(h:a[k]?=some (some (.int i))):gG 1 jO (fB (k8 k) fP) a C=some (.int (2*i+3),C):=by
 have:aC (gG 1 jO (fB (k8 k) fP)) a C λt b=>t=.int (2*i+3)/\b=C:=by
  refine fK (eX (fF h (fE ?_)))
  exact(f7 WU rfl rfl).mpr ⟨rfl,rfl⟩
 obtain⟨t,b,e,rfl,rfl⟩:=this
 exact e
theorem CC{a:aD}{C:ab}{k:Nat}{t:T}(h:a[k]?=some (some t)):k8 k a C=some (t,C):=by unfold k8;rw[h]
theorem Dp{a:aD}{C:ab}{k:Nat}{w:Int×Int×Int}(h:a[k]?=some (some (w3 w))):aA (k8 k) (fI 0) a C=some (.int w.1,C)/\aA (k8 k) (fI 1) a C=some (.int w.2.1,C)/\aA (k8 k) (fI 2) a C=some (.int w.2.2,C):=by
 refine⟨?_,?_,?_⟩<;>(show(k8 k a C).bind _=_;rw[CC h];rfl)
end aI
namespace aI
open PySem L2 TL NF
variable{g:ab}{m f:Int}{QS:TL.Fl->aD->ab->Prop}{c:List (Int×Int×Int)}{nd:List (List Int)}
theorem Pre.step{N:Nt}{k:Nat}{C:ab}(P:Pre N k g m C)(p:k<90000){t h d r:Int}{a:aD}{i fh l j:FE}(v:a[0]?=some (some (.cell g.length)))
 (n:i a C=some (.int t,C))(s:fh a C=some (.int h,C))(u:l a C=some (.int d,C))(o:j a C=some (.int r,C))(e:t=N.t k/\h=N.h k/\d=N.d k/\r=N.c k)(q:∀b,Pre N (k+1) g m b->QS .nx a b):
 wpS (oB (mR "Net" "lay" 5 kR Y0 (fB i (fB fh (fB l (fB j fP)))))) a C QS:=
 TU v P.net n s u o (P.lay p e.1 e.2.1 e.2.2.1 e.2.2.2 λb h=>q b h)
theorem Tu{C:ab}{i:Nat}{w:Int×Int×Int}{j:aD}(l:c[i]?=some w)(B:c.length<=8)(P:Pre (jR c nd f) (4*i) g m C)
 (o:j[0]?=some (some (.cell g.length)))(r:j[4]?=some (some (.int (plenty c f))))(k:j[5]?=some (some (.int i)))(p:j[6]?=some (some (w3 w)))(q:∀s,Pre (jR c nd f) (4*(i+1)) g m s->QS .nx j s):wpS pF j C QS:=by
 have n:i<c.length:=(fA l).1;have t:(gM c).u i=w.1:=by simp[gM,l]
 have v:(gM c).l i=w.2.1:=by simp[gM,l]
 have u:(gM c).p i=w.2.2:=by simp[gM,l]
 unfold pF;obtain⟨h,d,b,a⟩:=QJ (w:=gM c) (es:=j7 0 nd) (P:=plenty c f) n
 refine fJ (P.step (t:=0) (h:=2*i+2) (d:=0) (r:=plenty c f) (by lia) o rfl (o0 k) rfl (CC r) ⟨by rw[show(jR c nd f).t (4*i)=0 from h];rfl,by rw[show(jR c nd f).h (4*i)=_ from d];simp,by rw[show(jR c nd f).d (4*i)=_ from b],by rw[show(jR c nd f).c (4*i)=_ from a]⟩ λG e=>?_)
 obtain⟨h,d,b,a⟩:=RC (w:=gM c) (es:=j7 0 nd) (P:=plenty c f) n
 refine fN (fJ (e.step (t:=2*i+2) (h:=2*i+3) (d:=w.1) (r:=w.2.2) (by lia) o (o0 k) (p9 k) (Dp p).1 (Dp p).2.2 ⟨by rw[show(jR c nd f).t (4*i+1)=_ from h];simp,by rw[show(jR c nd f).h (4*i+1)=_ from d];simp,by rw[show(jR c nd f).d (4*i+1)=_ from b,t],by rw[show(jR c nd f).c (4*i+1)=_ from a,u]⟩ λF z=>?_))
 obtain⟨h,d,b,a⟩:=SK (w:=gM c) (es:=j7 0 nd) (P:=plenty c f) n
 refine fN (fJ (z.step (t:=2*i+2) (h:=2*i+3) (d:=w.2.1) (r:=plenty c f) (by lia) o (o0 k) (p9 k) (Dp p).2.1 (CC r) ⟨by rw[show(jR c nd f).t (4*i+1+1)=_ from h];simp,by rw[show(jR c nd f).h (4*i+1+1)=_ from d];simp,by rw[show(jR c nd f).d (4*i+1+1)=_ from b,v],by rw[show(jR c nd f).c (4*i+1+1)=_ from a]⟩ λD y=>?_))
 obtain⟨h,d,b,a⟩:=SF (w:=gM c) (es:=j7 0 nd) (P:=plenty c f) n
 refine fN (y.step (t:=2*i+3) (h:=1) (d:=0) (r:=plenty c f) (by lia) o (p9 k) rfl rfl (CC r) ⟨by rw[show(jR c nd f).t (4*i+1+1+1)=_ from h];simp,by rw[show(jR c nd f).h (4*i+1+1+1)=_ from d];rfl,by rw[show(jR c nd f).d (4*i+1+1+1)=_ from b],by rw[show(jR c nd f).c (4*i+1+1+1)=_ from a]⟩ λA x=>q A ?_)
 rw[show 4*(i+1)=4*i+1+1+1+1 by lia];exact x
theorem Vm{C:ab}{b:Nat}{l:List Int}{h:aD}(v:nd[b]?=some l)(p:∀a∈l,0<=a)(y:4*c.length+(j7 0 nd).length<90000)(P:Pre (jR c nd f) (4*c.length+(j7 0 (nd.take b)).length) g m C)
 (x:h.length=10)(D:h[0]?=some (some (.cell g.length)))(B:h[4]?=some (some (.int (plenty c f))))(A:h[7]?=some (some (.int b)))(e:h[8]?=some (some (iT l)))
 (q:∀d k,(∀i,i<7->d[i]?=h[i]?)->d.length=10->Pre (jR c nd f) (4*c.length+(j7 0 (nd.take (b+1))).length) g m k->QS .nx d k):wpS pB h C QS:=by
 unfold pB
 refine j4 (fF e ⟨l.map T.int,rfl,?_⟩)
 refine k7 (en:=T.int) (xs:=l) (λj d k=>(∀i,i<9->d[i]?=h[i]?)/\d.length=10/\Pre (jR c nd f) (4*c.length+(j7 0 (nd.take b)).length+j) g m k) ⟨λ_ _=>rfl,x,P⟩ ?_ ?_
 ·rintro j a d k t ⟨n,o,s⟩;have r:=GF (s:=0) v t;rw[dX]at r;have N:(j7 0 (nd.take b)).length+j<(j7 0 nd).length:=(fA r).1;have z:0<=a:=p a (aZ t);obtain⟨M,L,K,J⟩:=Sr (w:=gM c) (n:=c.length) (P:=plenty c f) r
  refine fL ?_
  have I:(d.set 9 (some (T.int a)))[0]?=some (some (.cell g.length)):=by rw[aT (by decide),n 0 (by decide)];exact D
  have H:(d.set 9 (some (T.int a)))[4]?=some (some (.int (plenty c f))):=by rw[aT (by decide),n 4 (by decide)];exact B
  have G:(d.set 9 (some (T.int a)))[7]?=some (some (.int b)):=by rw[aT (by decide),n 7 (by decide)];exact A
  have F:(d.set 9 (some (T.int a)))[9]?=some (some (.int (a.toNat:Int))):=by rw[bK (by rw[o];decide),bG z]
  unfold wI
  refine s.step (t:=2*a.toNat+3) (h:=2*b+2) (d:=0) (r:=plenty c f) (by lia) I (p9 F) (o0 G) rfl (CC H) ?_ λO w=>⟨trivial,λi u=>?_,by simpa using o,by rw[aSc]at w;exact w⟩
  ·rw[aSc]
   exact⟨by rw[show(jR c nd f).t _=_ from M];simp,by rw[show(jR c nd f).h _=_ from L];simp,by rw[show(jR c nd f).d _=_ from K],by rw[show(jR c nd f).c _=_ from J]⟩
  ·rw[aT (by lia)];exact n i u
 ·rintro d k ⟨n,o,s⟩
  refine q d k (λi u=>n i (by lia)) o ?_
  rw[Vc v,<-aSc];exact s
end aI
namespace aI
open PySem L2 TL NF
theorem VP{d:List (Int×Int×Int)}{n:List (Int×Int)}{nd:List (List Int)}{bonus:Int}{c:ab}(p:d.length<=8)(D:n.length<=1000)(B:ji d.length n)(H:iS [.int d.length,.lst (n.map pT)]=some (.lst (nd.map iT)))(u:Nd n d.length nd){Q:T->ab->Prop}
 (q:∀r,Pre (jR d nd bonus) (jR d nd bonus).m c (2*d.length+2) r->Q .aH r):aJ (p8 [.cell c.length,.lst (d.map w3),.lst (n.map pT),.int bonus] (c++[(.o "Net" [],[])])) Q:=by
 have v:4*d.length+(j7 0 nd).length<90000:=by
  have:=Lo (nd:=nd) (z:=1000) (λl p=>?_) (s:=0)
  ·rw[u.1]at this;have U:d.length*1000<=8*1000:=aSC _ p
   lia
  ·obtain⟨b,F⟩:=fT p
   exact bV (u.2 b l F).1 D
 refine j0 ?_
 unfold Mo;walk_at "a"
 refine fJ (oJ ?_)
 try simp_arith[if_true]
 refine⟨by decide,?_⟩
 have f1:(c++[(Kd.o "Net" [],[])]++[(Kd.l,[])])[c.length]?=some (Kd.o "Net" [],[]):=by simp
 refine⟨_,mY f1 (by decide) rfl rfl,?_⟩
 have f2:(c++[(Kd.o "Net" [],[])]++[(Kd.l,[])]).set c.length (Kd.o "Net" ["pipes"],[T.cell (c.length+1)])=c++[(Kd.o "Net" ["pipes"],[T.cell (c.length+1)]),(Kd.l,[])]:=by
  rw[cJ,bY _ _ (bE _),c7];rfl
 have K:(c++[(Kd.o "Net" [],([]:List T))]).length=c.length+1:=by simp
 rw[K];rw[show pn ("pipes":Str) []=[("pipes":Str)]from rfl,show TL.pv ("pipes":Str) (T.cell (c.length+1)) [] []=[T.cell (c.length+1)]from rfl,f2]
 refine oJ ?_
 try simp_arith[if_true]
 refine⟨lG (by lia) (by lia),?_⟩
 have J:(c++[(Kd.o "Net" ["pipes"],[T.cell (c.length+1)]),(Kd.l,[])])[c.length]?=some (Kd.o "Net" ["pipes"],[T.cell (c.length+1)]):=by simp
 refine⟨_,mY J (by decide) rfl rfl,?_⟩
 have I:∀x:T,(c++[(Kd.o "Net" ["pipes"],[T.cell (c.length+1)]),(Kd.l,[])]).set c.length (Kd.o "Net" (pn ("places":Str) ["pipes"]),TL.pv ("places":Str) x ["pipes"] [T.cell (c.length+1)])=c++[(Kd.o "Net" z3,[T.cell (c.length+1),x]),(Kd.l,[])]:=λx=>by
  rw[bY _ _ (bE _),c7];rfl
 rw[I];try simp_arith[if_true]
 rw[aN]
 refine⟨by simp[lim];lia,?_⟩
 refine iG (xs:=d) (en:=w3) (λw=>T.int w.2.2) (λw _=>?_) ?_
 ·try simp_arith[if_true]
  exact⟨_,rfl,_,rfl,_,rfl,rfl⟩
 refine⟨_,n5 (f:=λw:Int×Int×Int=>w.2.2),?_⟩
 have N:Pre (jR d nd bonus) (4*0) c (2*d.length+2) (c++[(Kd.o "Net" z3,[T.cell (c.length+1),T.int (2*d.length+2)]),(Kd.l,[])]):=by
  refine⟨λi m=>aW m,by simp,by simp,?_,λo S=>by lia⟩
  rw[bD (by lia),show c.length+1 - c.length=1 by lia];rfl
 refine KF.mpr ?_
 try simp_arith[if_true]
 rw[yU]
 refine k7 (xs:=d.zipIdx) (λi f C=>f.length=10/\f[0]?=some (some (.cell c.length))/\f[1]?=some (some (.lst (d.map w3)))/\f[2]?=some (some (.lst (n.map pT)))/\f[4]?=some (some (.int (plenty d bonus)))/\Pre (jR d nd bonus) (4*i) c (2*d.length+2) C) ⟨rfl,rfl,rfl,rfl,rfl,N⟩ ?_ ?_
 ·rintro i ⟨w,k⟩ f C m ⟨g,j,t,s,h,P⟩;rw[dW]at m;obtain⟨O,M,e⟩:=eZ m;cases e;rw[dX]
  refine iO ⟨_,rfl,rfl,?_⟩
  show wpS pF ((f.set 5 (some (T.int i))).set 6 (some (w3 w))) C _
  refine Tu M p P ?_ ?_ ?_ ?_ λr y=>⟨?_,?_,?_,?_,?_,?_,y⟩
  ·rw[aT (by decide),aT (by decide)];exact j
  ·rw[aT (by decide),aT (by decide)];exact h
  ·rw[aT (by decide),bK (by rw[g];decide)]
  ·rw[bK (by rw[cA,g];decide)]
  ·trivial
  ·simpa using g
  ·rw[aT (by decide),aT (by decide)];exact j
  ·rw[aT (by decide),aT (by decide)];exact t
  ·rw[aT (by decide),aT (by decide)];exact s
  ·rw[aT (by decide),aT (by decide)];exact h
 ·rintro f C ⟨g,j,t,s,h,P⟩;rw[aR3]at P
  refine fN (KF.mpr ?_)
  refine fK (eX ?_)
  refine fK (eX (fF t (fE ?_)))
  refine kL ⟨_,rfl,eX (fF s (fE ?_))⟩
  rw[aN]
  refine(f7 H rfl (by walk_at "c";rw[kA];rfl)).mpr ⟨_,rfl,?_⟩
  rw[yU]
  refine k7 (xs:=nd.zipIdx) (λb f C=>f.length=10/\f[0]?=some (some (.cell c.length))/\f[4]?=some (some (.int (plenty d bonus)))/\Pre (jR d nd bonus) (4*d.length+(j7 0 (nd.take b)).length) c (2*d.length+2) C) ⟨g,j,h,P⟩ ?_ ?_
  ·rintro b ⟨l,k⟩ f C m ⟨g,j,h,P⟩;rw[dW]at m;obtain⟨R,A,e⟩:=eZ m;cases e;rw[dX]
   refine iO ⟨_,rfl,rfl,?_⟩
   show wpS pB ((f.set 7 (some (T.int b))).set 8 (some (iT l))) C _
   refine Vm A (λa G=>?_) v P (by simpa using g) ?_ ?_ ?_ ?_ λX r z L y=>⟨trivial,L,?_,?_,y⟩
   ·exact(B _ (((u.2 b l A).2 a).mp G)).1.1
   ·rw[aT (by decide),aT (by decide)];exact j
   ·rw[aT (by decide),aT (by decide)];exact h
   ·rw[aT (by decide),bK (by rw[g];decide)]
   ·rw[bK (by rw[cA,g];decide)]
   ·rw[z 0 (by decide),aT (by decide),aT (by decide)];exact j
   ·rw[z 4 (by decide),aT (by decide),aT (by decide)];exact h
  ·rintro f C ⟨g,j,h,P⟩;rw[aR3,cO]at P
   exact q C P
end aI
namespace aI
open PySem L2 TL NF
variable{N:Nt}{pl:Int}{c:Nat}{d:ab}{o:Nat×Bool}{Q:T->ab->Prop}
structure jL(N:Nt)(f:Nat->Int)(c:Nat)(pl:Int)(C:ab):Prop where
 net:C[c]?=some (.o "Net" z3,[.cell (c+1),.int pl])
 lst:C[c+1]?=some (.l,(bH N.m).map λj=>.cell (pc c (j,true)))
 km:∀o:Nat×Bool,o.1<N.m->C[pc c o]?=some (h7 N f c o)
theorem Pre.at{C0 C:ab}(P:Pre N N.m C0 pl C):jL N (λ_=>0) C0.length pl C:=⟨P.net,P.lst,P.km⟩
theorem jL.mono{f:Nat->Int}{C:ab}(A:jL N f c pl C)(h:∀i,c<=i->i<c+2+2*N.m->d[i]?=C[i]?):jL N f c pl d:=
 ⟨by rw[h c (by lia) (by lia)];exact A.net,by rw[h (c+1) (by lia) (by lia)];exact A.lst,λo a=>by rw[h _ (by unfold pc;lia) (by unfold pc;split<;>lia)];exact A.km o a⟩
theorem jL.app{f:Nat->Int}{C G:ab}(A:jL N f c pl C)(a:c+2+2*N.m<=C.length):jL N f c pl (C++G):=A.mono λi _ h=>aW (by lia)
theorem jL.len{f:Nat->Int}{C:ab}(A:jL N f c pl C):c+2+2*N.m<=C.length:=by
 by_cases h:N.m=0
 ·have:=mW A.lst;lia
 ·have:=mW (A.km (N.m - 1,false) (by show N.m - 1<N.m;lia));rw[EM]at this;lia
theorem jL.fld{f:Nat->Int}{C:ab}(A:jL N f c pl C)(a:o.1<N.m):p7 "Pipe" "tail" C (.cell (pc c o))=some (.int (rt N o))/\p7 "Pipe" "head" C (.cell (pc c o))=some (.int (rh N o))/\
 p7 "Pipe" "hours" C (.cell (pc c o))=some (.int (rd N o))/\p7 "Pipe" "room" C (.cell (pc c o))=some (.int (rr N f o))/\p7 "Pipe" "back" C (.cell (pc c o))=some (.cell (pc c (o.1,!o.2))):=
 ⟨mN (A.km o a) rfl,mN (A.km o a) rfl,mN (A.km o a) rfl,mN (A.km o a) rfl,mN (A.km o a) rfl⟩
noncomputable def both(N:Nt):List (Nat×Bool):=(bH N.m).map (λk=>(k,true))++(bH N.m).map λk=>(k,false)
def tv(N:Nt)(f:Nat->Int):List (Nat×Bool):=(both N).filter λo=>decide (0<rr N f o)
theorem JR:o∈both N↔o.1<N.m:=by
 obtain⟨k,b⟩:=o;unfold both;cases b<;>simp
theorem Gs{f:Nat->Int}:o∈tv N f↔ft N f o:=by
 unfold tv ft;rw[aSl,JR,decide_eq_true_iff]
def lJ:=λ{a b c}=>(@Gs a b c).mp
theorem gK{f:FE}{a:aD}{C:ab}{t:T}(e:f a C=some (t,d))(q:Q t d):aC f a C Q:=⟨t,d,e,q⟩
theorem kQ{a:String}{f:Str}{b:aD}{C:ab}{k:Nat}{t u:T}(h:b[k]?=some (some t))(e:p7 a f C t=some u):mU a f (k8 k) b C=some (u,C):=by
 have:aC (mU a f (k8 k)) b C λx d=>x=u/\d=C:=Gi.mpr (fF h ⟨_,e,rfl,rfl⟩)
 obtain⟨_,_,g,rfl,rfl⟩:=this
 exact g
theorem tJ{f:Nat->Int}{C:ab}(A:jL N f c pl C)(l:N.m<40000)(q:Q (.lst ((tv N f).map λo=>.cell (pc c o))) C):aJ (kG [.cell c] C) Q:=by
 have b:p7 "Net" "pipes" C (.cell c)=some (.cell (c+1)):=mN A.net rfl;have a:lc C (c+1)=some ((bH N.m).map λj=>.cell (pc c (j,true))):=hZ A.lst
 refine j0 ?_
 unfold p6;walk_at "a"
 refine fJ (fQ (fV (mJ ?_)))
 refine gK (kQ rfl b) (fV (iQ (gK (kQ rfl b) ⟨_,a,by simp[lim];lia,?_⟩)))
 refine iG (xs:=bH N.m) (en:=λj=>T.cell (pc c (j,true))) (λj=>T.cell (pc c (j,false))) (λj i=>?_) ?_
 ·refine fL (gK (kQ (t:=.cell (pc c (j,true))) rfl (A.fld (o:=(j,true)) (iY i)).2.2.2.2) ⟨rfl,rfl⟩)
 refine m4 ⟨_,a,_,rfl,by simp[lim];lia,?_⟩
 refine fL (fN (fZ (fV (iQ (gP ⟨_,rfl,_,rfl,by simp[lim];lia,?_⟩)))))
 have k:((bH N.m).map (λj=>T.cell (pc c (j,true)))++(bH N.m).map λj=>T.cell (pc c (j,false)))=(both N).map λo=>T.cell (pc c o):=by
  unfold both;rw[bN,bR,bR];rfl
 rw[k]
 refine sZ (xs:=both N) (en:=λo=>T.cell (pc c o)) (λo=>decide (0<rr N f o)) (λo=>T.cell (pc c o)) (λo h=>?_) q
 have g:=(A.fld (JR.mp h)).2.2.2.1
 refine fL (gC (fD (gK (kQ (t:=.cell (pc c o)) rfl g) (fS (f8 ⟨_,rfl,rfl,?_,λ_=>fF rfl ⟨rfl,rfl⟩⟩)))))
 rfl
end aI
namespace TL
open PySem L2
theorem zF{a:aD}{C:ab}{c:FB}{F:FS}{Q:Fl->aD->ab->Prop}(J:Nat->aD->ab->Prop){n m:Nat}(x:m<n)(w:J m a C)
 (t:∀m a C,J m a C->hA c a C λb o=>if b=true then wpS F a o (λl g i=>match l with
  | .nx=>∃f,f<m/\J f g i
  | .ct=>∃f,f<m/\J f g i
  | .bk=>Q .nx g i
  | .rt v=>Q (.rt v) g i
  | .ex v=>Q (.ex v) g i)else Q .nx a o):wpS (nF c F n) a C Q:=by
 induction n generalizing m a C with
 |zero=>lia
 |succ d ih=>
  obtain⟨b,o,j,h⟩:=t m a C w;cases b with
  |false=>
   rw[if_neg (by simp)]at h
   exact⟨.nx,a,o,by unfold nF;rw[j];rfl,h⟩
  |true=>
   rw[if_pos rfl]at h;obtain⟨l,g,i,k,h⟩:=h;cases l with
   |nx=>
    obtain⟨f,u,p⟩:=h;obtain⟨l,r,s,e,q⟩:=ih (m:=f) (by lia) p
    exact⟨l,r,s,by unfold nF;rw[j,aS,if_pos rfl,k,aS];exact e,q⟩
   |ct=>
    obtain⟨f,u,p⟩:=h;obtain⟨l,r,s,e,q⟩:=ih (m:=f) (by lia) p
    exact⟨l,r,s,by unfold nF;rw[j,aS,if_pos rfl,k,aS];exact e,q⟩
   |bk=>exact⟨.nx,g,i,by unfold nF;rw[j,aS,if_pos rfl,k];rfl,h⟩
   |rt v=>exact⟨.rt v,g,i,by unfold nF;rw[j,aS,if_pos rfl,k];rfl,h⟩
   |ex v=>exact⟨.ex v,g,i,by unfold nF;rw[j,aS,if_pos rfl,k];rfl,h⟩
end TL
namespace aI
open PySem L2 TL NF
variable{N:Nt}{c g:Nat}{l:Int}
noncomputable def lI(n:Nat)(x:Nat->Int):List T:=(bH n).map λv=>T.int (x v)
theorem uW{n:Nat}{x:Nat->Int}:(lI n x).length=n:=by simp[lI]
theorem u6{n:Nat}{x:Nat->Int}{v:Nat}(h:v<n):(lI n x)[v]?=some (.int (x v)):=by simp[lI,h]
theorem xL{n:Nat}{x:Nat->Int}{v:Nat}(h:v<n):dh (lI n x) (v:Int)=some (.int (x v)):=JT (u6 h)
theorem J8{n:Nat}{x:Nat->Int}{v:Nat}(h:v<n):jm (lI n x).length (v:Int)=some v:=by
 unfold jm;rw[uW];simp[h]
theorem La{n:Nat}{x:Nat->Int}{v:Nat}{y:Int}:(lI n x).set v (.int y)=lI n (up x v y):=by
 apply aRJ;intro i;by_cases a:i<n
 ·by_cases b:v=i
  ·subst b;rw[bK (by rw[uW];exact a),u6 a,A6]
  ·rw[aT b,u6 a,u6 a,z6 (Ne.symm b)]
 ·rw[b5 (by rw[cA,uW];lia),b5 (by rw[uW];lia)]
theorem jL.MY{f:Nat->Int}{C:ab}(A:jL N f c l C)(h:g<c\/c+2+2*N.m<=g)(y:Cl):jL N f c l (C.set g y):=A.mono λi b a=>aT (by lia)
theorem tT{f:FE}{a:aD}{C:ab}{t:T}(h:aC f a C λb d=>b=t/\d=C):f a C=some (t,C):=by
 obtain⟨_,_,e,rfl,rfl⟩:=h
 exact e
theorem DU{b:aD}{C:ab}{a k n v:Nat}{x:Nat->Int}{p:T}{d:Str}(m:b[a]?=some (some (.cell g)))(j:b[k]?=some (some p))(h:lc C g=some (lI n x))(i:p7 "Pipe" d C p=some (.int v))(f:v<n):
 aA (k8 a) (mU "Pipe" d (k8 k)) b C=some (.int (x v),C):=
 tT (fD (fF m (gK (kQ j i) (gF ⟨_,h,_,xL f,rfl,rfl⟩))))
theorem Tt{f:Nat->Int}{n:Nat}{C:ab}{x:Nat->Int}{os:List (Nat×Bool)}(A:jL N f c l C)(I:In N n)(G:g<c\/c+2+2*N.m<=g)(e:C[g]?=some (.l,lI n x))(H:∀o∈os,ft N f o){Q:T->ab->Prop}
 (q:∀r i,(∀s0,nc N n f s0 x->nc N n f s0 i)->(r=false->i=x/\∀o∈os,x (rt N o)+rd N o<=x (rh N o))->(r=true->sm n x<sm n i)->Q (.bl r) (C.set g (.l,lI n i))):
 aJ (mO [.cell g,.lst (os.map λo=>.cell (pc c o))] C) Q:=by
 have M:=mW e
 refine j0 ?_
 unfold qV;walk_at "a";simp_arith[if_true]
 refine k7 (xs:=os) (en:=λo=>T.cell (pc c o)) (λj u B=>∃i r a b,u=[some (.cell g),some (.lst (os.map λo=>.cell (pc c o))),some (.bl r),a,b]/\B=C.set g (.l,lI n i)/\(∀s0,nc N n f s0 x->nc N n f s0 i)/\
  (r=false->i=x/\∀o∈os.take j,x (rt N o)+rd N o<=x (rh N o))/\(r=true->sm n x<sm n i)/\sm n x<=sm n i) ?_ ?_ ?_
 ·refine⟨x,false,_,_,rfl,?_,λs0 h=>h,λ_=>⟨rfl,by simp⟩,(λh=>by cases h),bM _⟩
  obtain⟨t,m⟩:=fA e;rw[<-m,eK]
 ·rintro j o u B D ⟨i,r,a,b,rfl,rfl,t,m,v,F⟩;have y:=H o (aZ D);have p:rt N o<n/\rh N o<n:=by
   obtain⟨k,d⟩:=o;have:=I k y.1;unfold rt rh;cases d<;>simp<;>lia
  have O:=A.MY G (.l,lI n i);obtain⟨f1,f2,L,S,R⟩:=O.fld y.1;have w:lc (C.set g (.l,lI n i)) g=some (lI n i):=hZ (oQ M);have tk:∀P:Nat×Bool->Prop,(∀o∈os.take j,P o)->P o->∀o∈os.take (j+1),P o:=λP K J z hz=>by
   rw[eQ,D]at hz;rcases fY hz with hz|hz
   ·exact K z hz
   ·have:z=o:=by simpa using hz
    rw[this];exact J
  unfold pJ
  refine fL (fJ (fQ (fD ?_)))
  refine gK (DU (k:=3) (p:=.cell (pc c o)) rfl rfl w f1 p.1) ?_
  refine gK (kQ rfl L) (f8 (fL (fN (hX (gC (fD ?_))))))
  refine fF rfl ?_
  refine gK (DU (k:=3) (p:=.cell (pc c o)) rfl rfl w f2 p.2) (f8 ⟨_,rfl,?_⟩)
  by_cases s:i (rh N o)<i (rt N o)+rd N o
  ·rw[if_pos (decide_eq_true s)]
   refine fJ (uU.mpr (fF rfl (fF rfl (gK (kQ rfl f2) ⟨_,_,rfl,rfl,_,w,_,J8 p.2,?_⟩))))
   refine fN (fQ (fS (fL ⟨trivial,_,true,_,_,rfl,?_,λs0 h=>(t s0 h).raise y p.1 s,(λz=>by cases z),λ_=>?_,?_⟩)))
   ·rw[La,d9]
   ·have:=Mb (N:=N) (x:=i) (o:=o) p.2 s;lia
   ·have:=Mb (N:=N) (x:=i) (o:=o) p.2 s;lia
  ·rw[if_neg (by rw[decide_eq_false s];simp)]
   refine gL ⟨trivial,i,r,_,_,rfl,rfl,t,λz=>⟨(m z).1,tk _ (m z).2 ?_⟩,v,F⟩
   have:=(m z).1;subst this
   lia
 ·rintro u B ⟨i,r,a,b,rfl,rfl,t,m,v,F⟩;rw[cO]at m;simp_arith[if_true]
  exact q r i t m v
end aI
namespace aI
open PySem L2 TL NF
noncomputable def kf(e:Int)(v:Nat):Int:=if v=1 then e else 0
theorem MC{N:Nt}{f:Nat->Int}{c n:Nat}{C:ab}{e:Int}(A:jL N f c n C)(z:N.m<40000)(B:In N n)(w:1<n)(O:n<50000){y:Nat->Int}(t:∀v,v<n->kf e v<=y v)(u:ja N f y)(S:sm n y - sm n (kf e)<10^199){Q:T->ab->Prop}
 (q:∀p,gz N n f (kf e) p->Q (.cell C.length) (C++[(.l,lI n p)])):aJ (jN [.cell c,.int e] C) Q:=by
 have g:=A.len;have D:p7 "Net" "places" C (.cell c)=some (.int n):=mN A.net rfl
 refine j0 ?_
 unfold tH;walk_at "a"
 refine fJ (fQ (jC (qS.mpr (gK (kQ rfl D) ⟨_,rfl,⟨by lia,by lia⟩,?_⟩))))
 rw[pX,cB]
 refine iG (xs:=bH n) (λ_=>T.int 0) (λj _=>fL (fS ⟨rfl,rfl⟩)) ?_
 have K:(bH n).map (λ_=>T.int 0)=lI n λ_=>0:=rfl
 rw[K];have s:lc (C++[(Kd.l,lI n λ_=>0)]) C.length=some (lI n λ_=>0):=hZ (by simp)
 refine fL (fN (fJ (uU.mpr (fF rfl (fF rfl (fS ⟨_,_,rfl,rfl,_,s,_,J8 (v:=1) w,?_⟩))))))
 have J:(C++[(Kd.l,lI n λ_=>0)]).set C.length (Kd.l,(lI n λ_=>0).set 1 (.int e))=C++[(Kd.l,lI n (kf e))]:=by
  rw[bY _ _ (bE _),c7,La];rfl
 rw[J];have l:jL N f c n (C++[(Kd.l,lI n (kf e))]):=A.app g
 refine fN (fJ (fQ (nZ (fF rfl ⟨o6 l.net rfl,fE ⟨rfl,tJ l z ?_⟩⟩))))
 refine fL (fN (fJ ?_))
 refine zF (λm h k=>∃x,h=[some (.cell c),some (.int e),some (.cell C.length),some (.lst ((tv N f).map λo=>.cell (pc c o)))]/\k=C++[(Kd.l,lI n x)]/\nc N n f (kf e) x/\sm n y - sm n x<=(m:Int)) (m:=(sm n y - sm n (kf e)).toNat) (by
  have:(sm n y - sm n (kf e)).toNat<10^199:=by lia
  exact bL this (aRP (by decide) (by decide))) ⟨kf e,rfl,rfl,nc.start,by lia⟩ ?_
 rintro m h k ⟨x,rfl,rfl,d,M⟩;have L:jL N f c n (C++[(Kd.l,lI n x)]):=A.app g
 refine iU (iA (eX (fF rfl (eX (fF rfl (fE ⟨rfl,?_⟩))))))
 refine Tt (x:=x) L B (.inr g) (by simp) (λo b=>lJ b) λr a i H G=>⟨r,rfl,?_⟩
 have I:(C++[(Kd.l,lI n x)]).set C.length (Kd.l,lI n a)=C++[(Kd.l,lI n a)]:=by
  rw[bY _ _ (bE _),c7];rfl
 rw[I];cases r with
 |true=>
  rw[if_pos rfl];have R:=G rfl;have P:=(i _ d).zo t u
  refine gL ⟨(sm n y - sm n a).toNat,by lia,a,rfl,rfl,i _ d,by lia⟩
 |false=>
  rw[if_neg (by simp)];obtain⟨rfl,F⟩:=H rfl
  exact fN (fZ (fF rfl (q _ (d.done λo b=>F o (Gs.mpr b)))))
end aI
namespace aI
open PySem L2 TL NF
section
variable {c f g:Type}[DecidableEq c][DecidableEq g]{d:c->g}{vf:f->T}
variable{p:c×f}{rs:List (c×f)}{b:f}
noncomputable def lk(rs:List (c×f))(a:c):Option f:=(rs.find? λp=>decide (p.1=a)).map (·.2)
noncomputable def n6(rs:List (c×f))(a:c)(b:f):List (c×f):=if a∈rs.map (·.1)then rs.map (λp=>if p.1=a then(p.1,b)else p)else rs++[(a,b)]
theorem Pa{a:c}:lk ([]:List (c×f)) a=none:=rfl
theorem oE{a:c}:lk (p::rs) a=if p.1=a then some p.2 else lk rs a:=by
 unfold lk;rw[cZ];by_cases h:p.1=a
 ·rw[if_pos h,decide_eq_true h];rfl
 ·rw[if_neg h,decide_eq_false h]
theorem DI{a:c}{b:f}:∀{rs:List (c×f)},lk rs a=some b->(a,b)∈rs
 | [],h=>by cases h
 |p::rs,h=>by
  rw[oE]at h;split at h
  ·rename_i e;cases h;subst e;exact bC
  ·exact aX _ (DI h)
theorem qH{a:c}:∀{rs:List (c×f)},(lk rs a).isSome=true↔a∈rs.map (·.1)
 | []=>by simp[Pa]
 |p::rs=>by
  rw[oE,aK,bU];by_cases h:p.1=a
  ·rw[if_pos h];simp[h]
  ·rw[if_neg h,qH];constructor
   ·exact .inr
   ·rintro(z|z)
    ·exact absurd z.symm h
    ·exact z
theorem Gf(inj:∀a b,d a=d b->a=b){a:c}:∀{rs:List (c×f)},vl ((rs.map λp=>d p.1).zip (rs.map λp=>vf p.2)) (d a)=(lk rs a).map vf
 | []=>rfl
 |p::rs=>by
  rw[aK,aK,b6,oE];unfold vl;rw[cZ];by_cases h:p.1=a
  ·rw[if_pos h,show decide ((d p.1,vf p.2).1=d a)=true from decide_eq_true (by rw[h])];rfl
  ·rw[if_neg h,show decide ((d p.1,vf p.2).1=d a)=false from decide_eq_false (λz=>h (inj _ _ z))]
   exact Gf inj
theorem DK(inj:∀a b,d a=d b->a=b){a:c}:d a∈(rs.map λp=>d p.1)↔a∈rs.map (·.1):=by
 constructor
 ·intro h;obtain⟨p,i,e⟩:=fU h
  exact jF ⟨p,i,inj _ _ e⟩
 ·intro h;obtain⟨p,i,e⟩:=fU h
  exact jF ⟨p,i,by rw[e]⟩
theorem GQ(inj:∀a b,d a=d b->a=b){a:c}:mq (d a) (rs.map λp=>d p.1)=((n6 rs a b).map λp=>d p.1)/\jj (d a) (vf b) (rs.map λp=>d p.1) (rs.map λp=>vf p.2)=(n6 rs a b).map λp=>vf p.2:=by
 unfold mq jj n6;by_cases h:a∈rs.map (·.1)
 ·rw[if_pos ((DK inj).mpr h),if_pos ((DK inj).mpr h),if_pos h];have i:∀rs:List (c×f),(rs.map λp=>d p.1).zip (rs.map λp=>vf p.2)=rs.map λp=>(d p.1,vf p.2):=λrs=>by rw[List.zip_map']
  constructor
  ·rw[bR];apply cF;intro p _;simp only[dN];split<;>rfl
  ·rw[i,bR,bR];apply cF;intro p _;simp only[dN];by_cases e:p.1=a
   ·rw[if_pos e,if_pos (by rw[e])]
   ·rw[if_neg e,if_neg (λz=>e (inj _ _ z))]
 ·rw[if_neg (λz=>h ((DK inj).mp z)),if_neg (λz=>h ((DK inj).mp z)),if_neg h,bN,bN]
  exact⟨rfl,rfl⟩
theorem L9{a:c}:(n6 rs a b).map (·.1)=if a∈rs.map (·.1)then rs.map (·.1)else rs.map (·.1)++[a]:=by
 unfold n6;split
 ·rw[bR];apply cF;intro p _;simp only[dN];split<;>rfl
 ·rw[bN];rfl
theorem Rz{a:c}(h:(rs.map (·.1)).Nodup):((n6 rs a b).map (·.1)).Nodup:=by
 rw[L9];split
 ·exact h
 ·rename_i k
  refine i9 ⟨h,by simp,λx j y i=>?_⟩
  rw[gJ i];rintro rfl;exact k j
theorem Sg{a:c}(h:p∈n6 rs a b):p=(a,b)\/p∈rs:=by
 unfold n6 at h;split at h
 ·obtain⟨q,i,e⟩:=fU h;split at e
  ·rename_i z;rw[<-e,z];exact .inl rfl
  ·rw[<-e];exact .inr i
 ·rcases fY h with h|h
  ·exact .inr h
  ·exact .inl (gJ h)
theorem GY{a x:c}:x∈(n6 rs a b).map (·.1)↔x=a\/x∈rs.map (·.1):=by
 rw[L9];split
 ·rename_i h;constructor
  ·exact .inr
  ·rintro(z|z)
   ·rw[z];exact h
   ·exact z
 ·rw[eB,dO,or_comm]
end
variable{c d:Nat}{rs:List (Nat×List (Nat×Bool))}
theorem JM{g j:Type}[DecidableEq g]{f:g->Key}{vf:j->T}(inj:∀a b,f a=f b->a=b):∀{fs rs:List (g×j)},(fs.map (·.1)).Nodup->(∀a∈fs.map (·.1),a∉rs.map (·.1))->
 dd (fs.map λp=>f p.1) (fs.map λp=>vf p.2) ((rs.map λp=>f p.1),(rs.map λp=>vf p.2))=(((rs++fs).map λp=>f p.1),((rs++fs).map λp=>vf p.2))
 | [],rs,_,_=>by simp[dd]
 |p::fs,rs,h,k=>by
  rw[aK,cH]at h;rw[aK,aK];unfold dd;dsimp only;obtain⟨o,n⟩:=GQ (vf:=vf) inj (a:=p.1) (b:=p.2) (rs:=rs);have l:p.1∉rs.map (·.1):=k _ (by simp);rw[o,n];have m:n6 rs p.1 p.2=rs++[p]:=by unfold n6;rw[if_neg l]
  rw[m,JM inj h.2 (λa i=>?_),cJ]
  ·rfl
  ·rw[bN,eB,aK,aY,dO];rintro(z|z)
   ·exact k a (by rw[aK];exact aX _ i) z
   ·rw[z]at i;exact h.1 i
noncomputable def qb(v:Nat):Key:=.inl (v:Int)
theorem uC(a b:Nat)(h:qb a=qb b):a=b:=by
 have:(a:Int)=b:=Sum.inl.inj h
 lia
def k4(c:Nat)(r:List (Nat×Bool)):T:=.lst (r.map λo=>.cell (pc c o))
def oI(c:Nat)(rs:List (Nat×List (Nat×Bool))):Cl:=(.dk (rs.map λp=>qb p.1),rs.map λp=>k4 c p.2)
theorem yB{C:ab}{v:Nat}(e:C[d]?=some (oI c rs)):eM C (.cell d) (.int v)=some ((lk rs v).map (k4 c)):=by
 unfold eM;rw[wH e];show some (vl _ (qb v))=_;rw[Gf uC]
theorem Q9{C:ab}{v:Nat}{r:List (Nat×Bool)}(e:C[d]?=some (oI c rs))(a:rs.length<lim):dput C (.cell d) (.int v) (k4 c r)=some (C.set d (oI c (n6 rs v r))):=by
 unfold dput;rw[wH e];show(if _ then some (C.set d (.dk (mq (qb v) _),jj (qb v) _ _ _))else none)=_;rw[if_pos (by simpa using a)];obtain⟨f,b⟩:=GQ (vf:=k4 c) uC (a:=v) (b:=r) (rs:=rs);rw[f,b];rfl
end aI
namespace aI
open PySem L2 TL NF
theorem Ux{c d:Type}[DecidableEq c]{rs:List (c×d)}{a:c}{b:d}:(n6 rs a b).length<=rs.length+1:=by
 unfold n6;split
 ·simp
 ·simp
theorem WR{N:Nt}{f:Nat->Int}{c d:Nat}{x:Int}{C:ab}{rs:List (Nat×List (Nat×Bool))}{b:List (Nat×Bool)}(A:jL N f c x C)(e:C[d]?=some (oI c rs))(H:∀o∈b,o.1<N.m)(Z:b.length<90000)(I:∀p∈rs,p.2.length<=1000){Q:T->ab->Prop}
 (q:∀fs:List (Nat×List (Nat×Bool)),(fs.map (·.1)).Nodup->(∀a∈fs.map (·.1),a∉rs.map (·.1))->(∀p∈fs,∃o∈b,∃g,(rt N o,g)∈rs/\p=(rh N o,g++[o]))->(∀o∈b,rt N o∈rs.map (·.1)->rh N o∉rs.map (·.1)->rh N o∈fs.map (·.1))->Q (.cell C.length) (C++[oI c fs])):
 aJ (nP [.cell d,.lst (b.map λo=>.cell (pc c o))] C) Q:=by
 have U:=A.len;have L:=mW e
 refine j0 ?_
 unfold tO;walk_at "a"
 refine fJ (fQ (LG.mpr (fL (fN (fJ (j4 (fF rfl ⟨_,rfl,?_⟩)))))))
 refine k7 (xs:=b) (en:=λo=>T.cell (pc c o)) (λj s v=>∃fs a,s=[some (.cell d),some (.lst (b.map λo=>.cell (pc c o))),some (.cell C.length),a]/\v=C++[oI c fs]/\fs.length<=j/\(fs.map (·.1)).Nodup/\(∀a∈fs.map (·.1),a∉rs.map (·.1))/\
  (∀p∈fs,∃o∈b,∃g,(rt N o,g)∈rs/\p=(rh N o,g++[o]))/\∀o∈b.take j,rt N o∈rs.map (·.1)->rh N o∉rs.map (·.1)->rh N o∈fs.map (·.1)) ?_ ?_ ?_
 ·exact⟨[],_,rfl,rfl,bE _,by simp,by simp,by simp,by simp⟩
 ·rintro j o s v u ⟨fs,a,rfl,rfl,O,n,m,l,h⟩;have i:=aZ u;have K:j<b.length:=(fA u).1;have X:jL N f c x (C++[oI c fs]):=A.app U;obtain⟨f1,f2,f3,f4,E⟩:=X.fld (H o i);have B:(C++[oI c fs])[d]?=some (oI c rs):=by rw[aW L];exact e
  have S:(C++[oI c fs])[C.length]?=some (oI c fs):=by simp
  have w:=yB (v:=rt N o) B;have G:=yB (v:=rh N o) B;have tk:∀P:Nat×Bool->Prop,(∀o∈b.take j,P o)->P o->∀o∈b.take (j+1),P o:=λP k M z hz=>by
   rw[eQ,u]at hz;rcases fY hz with hz|hz
   ·exact k z hz
   ·have:z=o:=by simpa using hz
    rw[this];exact M
  unfold qZ
  refine fL (hX (xQ.mpr (gC (fD ?_))))
  refine gK (kQ (t:=.cell (pc c o)) rfl f1) (fF rfl (Gq.mpr ⟨_,w,_,rfl,?_⟩))
  cases r:lk rs (rt N o)with
  |none=>
   rw[if_neg (by simp),if_neg (by simp)]
   refine gL ⟨trivial,fs,_,rfl,rfl,by lia,n,m,l,tk _ h λz=>?_⟩
   have:=qH.mpr z;rw[r]at this;cases this
  |some g=>
   rw[if_pos (by simp)]
   refine gC (fD ?_)
   refine gK (kQ (t:=.cell (pc c o)) rfl f2) (fF rfl (Gq.mpr ⟨_,G,_,rfl,?_⟩))
   cases y:lk rs (rh N o)with
   |some Y=>
    rw[if_neg (by simp)]
    refine gL ⟨trivial,fs,_,rfl,rfl,by lia,n,m,l,tk _ h λ_ z=>?_⟩
    exact absurd (qH.mp (by rw[y];rfl)) z
   |none=>
    rw[if_pos (by simp)];have J:rh N o∉rs.map (·.1):=λz=>by
     have:=qH.mpr z;rw[y]at this;cases this
    have cy:g.length<=1000:=I _ (DI r)
    refine KU (fV (mJ (fD (fF rfl ?_))))
    refine gK (kQ (t:=.cell (pc c o)) rfl f1) (mM ⟨k4 c g,by rw[w,r];rfl,?_⟩)
    refine fV (gS (eX (fF rfl (fE ⟨by simp[lim],?_⟩))))
    refine m4 ⟨_,rfl,_,rfl,by simp[lim];lia,fF rfl ?_⟩
    refine gK (kQ (t:=.cell (pc c o)) rfl f2) ?_
    have R:(.lst ((g.map λo=>T.cell (pc c o))++[T.cell (pc c o)]):T)=k4 c (g++[o]):=by unfold k4;rw[bN];rfl
    refine⟨_,by rw[R];exact Q9 S (by simp[lim];lia),trivial,n6 fs (rh N o) (g++[o]),_,rfl,?_,?_,Rz n,?_,?_,?_⟩
    ·rw[bY _ _ (bE _),c7];rfl
    ·exact bV Ux (by lia)
    ·intro a k;rcases GY.mp k with rfl|k
     ·exact J
     ·exact m a k
    ·intro p t;rcases Sg t with rfl|t
     ·exact⟨o,i,g,DI r,rfl⟩
     ·exact l p t
    ·exact tk _ (λz hz F D=>GY.mpr (.inr (h z hz F D))) λ_ _=>GY.mpr (.inl rfl)
 ·rintro s v ⟨fs,a,rfl,rfl,O,n,m,l,h⟩;rw[cO]at h
  exact fN (fZ (fF rfl (q fs n m l h)))
end aI
namespace aI
open PySem L2 TL NF
variable{Q:T->ab->Prop}{N:Nt}{p:Nat->Int}
theorem Vh{g:aD}{C:ab}{l k:FE}{c1:Nat}(h:aC l g C λi f=>i=.cell c1/\ic f i=true/\aC k g f λj b=>∃c2 a ks' c d,j=.cell c2/\b[c1]?=some (.dk a,c)/\b[c2]?=some (.dk ks',d)/\c1≠c2/\a.length+ks'.length<=lim/\
 Q .aH (b.set c1 (.dk (dd ks' d (a,c)).1,(dd ks' d (a,c)).2))):aC (zQ l k) g C Q:=by
 obtain⟨i,f,u,rfl,o,j,b,t,c2,a,ks',c,d,rfl,s,r,m,n,q⟩:=h
 exact Ti ⟨_,f,u,rfl,o,_,b,t,rfl,s,r,m,n,q⟩
theorem rO:∀(n:Nat)(l:List Nat),l.Nodup->(∀a∈l,a<n)->l.length<=n
 |0,l,_,h=>by
  cases l with
  |nil=>exact bE _
  |cons a l=>exact absurd (h a bC) (by lia)
 |n+1,l,c,h=>by
  have d:=rO n (l.erase n) (c.erase n) λa f=>by
   have b:=(List.Nodup.mem_erase_iff c).mp f;have:=h a b.2;have:=b.1
   lia
  by_cases b:n∈l
  ·rw[aRF b]at d;lia
  ·rw[List.erase_of_not_mem b]at d;lia
structure D1(N:Nt)(n:Nat)(f p:Nat->Int)(rs:List (Nat×List (Nat×Bool))):Prop where
 nd:(rs.map (·.1)).Nodup
 lt:∀a∈rs.map (·.1),a<n
 z:0∈rs.map (·.1)
 BB:∀x∈rs,ub N f p x.2 x.1/\(∀v∈x.2.map (rh N),v∈rs.map (·.1))
theorem D1.len{n:Nat}{f:Nat->Int}{rs:List (Nat×List (Nat×Bool))}(R:D1 N n f p rs){x:Nat×List (Nat×Bool)}(b:x∈rs):x.2.length<=n:=by
 obtain⟨g,d⟩:=R.BB x b;have:=rO n _ (i7 g.nd).2 λa c=>R.lt a (d a c)
 simpa using this
theorem yJ{f:Nat->Int}{c n l:Nat}{J:Int}{C:ab}(A:jL N f c J C)(hm:N.m<40000)(hi:In N n)(hn:n<40)(Z:0<n)(mf:C[l]?=some (.l,lI n p))
 (reach:∀R:Nat->Prop,R 0->(∀o,ft N f o->R (rt N o)->p (rt N o)+rd N o=p (rh N o)->R (rh N o))->R 1)(q:∀r G,ub N f p r 1->Q (k4 c r) (C++G)):
 aJ (nS [.lst ((tv N f).map λo=>.cell (pc c o)),.cell l] C) Q:=by
 have ag:=A.len;have P:lc C l=some (lI n p):=hZ mf;have S:∀o:Nat×Bool,o.1<N.m->rt N o<n/\rh N o<n:=λo h=>by
  obtain⟨k,d⟩:=o;have:=hi k h;unfold rt rh;cases d<;>simp<;>lia
 have D:(tv N f).length<90000:=by
  have:(tv N f).length<=(both N).length:=dR _ _;have s:(both N).length=N.m+N.m:=by simp[both]
  lia
 refine j0 ?_
 unfold tR;walk_at "a"
 refine fJ (fQ (fV (iQ (gP ⟨_,rfl,_,rfl,by simp[lim];lia,?_⟩))))
 refine sZ (xs:=tv N f) (en:=λo=>T.cell (pc c o)) (λo=>decide (p (rt N o)+rd N o=p (rh N o))) (λo=>T.cell (pc c o)) (λo h=>?_) ?_
 ·have u:=lJ h;obtain⟨f1,f2,f3,f4,f5⟩:=A.fld u.1;obtain⟨k1,k2⟩:=S o u.1
  refine fL (gC (fD (fD ?_)))
  refine gK (DU (a:=1) (k:=0) (p:=.cell (pc c o)) rfl rfl P f1 k1) ?_
  refine gK (kQ rfl f3) (f8 ?_)
  refine gK (DU (a:=1) (k:=0) (p:=.cell (pc c o)) rfl rfl P f2 k2) ?_
  refine iZ ⟨_,rfl,rfl,rfl,λ_=>fF rfl ⟨rfl,rfl⟩⟩
 refine fL (fN (fJ (fQ (Vi (k:=qb 0) (x:=k4 c []) ?_))))
 refine fS ⟨rfl,fV (gS (fE ⟨by decide,rfl,by simp,?_⟩))⟩
 have e0:(C++[(Kd.dk [],[])]).set C.length (Kd.dk [qb 0],[k4 c []])=C++[oI c [(0,[])]]:=by
  rw[bY _ _ (bE _),c7];rfl
 rw[e0]
 refine fL (fN (fJ ?_))
 refine zF (λm I Y=>∃rs G,I=[some (.lst ((tv N f).map λo=>.cell (pc c o))),some (.cell l),some (.lst (((tv N f).filter λo=>decide (p (rt N o)+rd N o=p (rh N o))).map λo=>.cell (pc c o))),some (.cell C.length)]/\Y=C++oI c rs::G/\D1 N n f p rs/\n - rs.length<=m) (m:=n) (by lia) ?_ ?_
 ·refine⟨[(0,[])],[],rfl,rfl,⟨by simp,by simpa using Z,by simp,λx g=>?_⟩,by lia⟩
  have:x=(0,[]):=by simpa using g
  subst this
  exact⟨ub.nil,by simp⟩
 rintro m I Y ⟨rs,G,rfl,rfl,R,zg⟩;have t:(C++oI c rs::G)[C.length]?=some (oI c rs):=by simp
 have A':jL N f c J (C++oI c rs::G):=A.app ag
 refine gC (fD (fS (fF rfl (Gq.mpr ⟨_,yB (v:=1) t,_,rfl,?_⟩))))
 cases y:lk rs 1 with
 |some r=>
  rw[if_neg (by simp)]
  refine fN (fZ (fD (fF rfl (fS (mM ⟨k4 c r,?_,?_⟩)))))
  ·have:=yB (v:=1) t;rw[y]at this;exact this
  ·exact q r _ (R.BB _ (DI y)).1
 |none=>
  rw[if_pos (by simp)];unfold qW
  refine mK (Vh (c1:=C.length) (gP ⟨_,rfl,rfl,by unfold ic;rw[wH t];rfl,iA (eX (fF rfl (eX (fF rfl (fE ⟨rfl,?_⟩)))))⟩))
  refine WR A' t (λo h=>(lJ ((iK h).1)).1) (dP (dR _ _) D) (λx g=>bV (R.len g) (by lia)) λfs F s O h4=>?_
  have X:∀a∈fs.map (·.1),a<n:=λa i=>by
   obtain⟨x,g,rfl⟩:=fU i;obtain⟨o,h,E,_,e⟩:=O x g;rw[e];exact(S o (lJ ((iK h).1)).1).2
  have H:D1 N n f p (rs++fs):=by
   refine⟨?_,λa i=>?_,?_,λx g=>?_⟩
   ·rw[bN]
    exact i9 ⟨R.nd,F,λa i b hb z=>s b hb (z ▸ i)⟩
   ·rw[bN]at i;rcases fY i with i|i
    ·exact R.lt a i
    ·exact X a i
   ·rw[bN];exact jQ (.inl R.z)
   ·rcases fY g with g|g
    ·refine⟨(R.BB x g).1,λv j=>?_⟩
     rw[bN];exact jQ (.inl ((R.BB x g).2 v j))
    ·obtain⟨o,h,E,ng,e⟩:=O x g;have u:=lJ ((iK h).1);have B:p (rt N o)+rd N o=p (rh N o):=of_decide_eq_true (iK h).2;have w:=s x.1 (cM g);obtain⟨g1,g2⟩:=R.BB _ ng;rw[e]at w|-
     refine⟨g1.snoc u rfl B λz=>?_,λv j=>?_⟩
     ·rcases fR z with z|z
      ·exact w (by rw[z];exact R.z)
      ·exact w (g2 _ z)
     ·rw[bN]at j;rw[bN];rcases fY j with j|j
      ·exact jQ (.inl (g2 v j))
      ·have:v=rh N o:=by simpa using j
       rw[this]
       exact jQ (.inr (jF ⟨x,g,by rw[e]⟩))
  have ax:fs≠[]:=λz=>by
   subst z;have:=reach (λv=>v∈rs.map (·.1)) R.z λo h h5 h6=>by
    by_cases M:rh N o∈rs.map (·.1)
    ·exact M
    ·exact absurd (h4 o (j9 ⟨Gs.mpr h,decide_eq_true h6⟩) h5 M) (by simp)
   have L:=qH.mpr this;rw[y]at L;cases L
  have hfl:fs.length<=n:=by
   have:=rO n _ F X;simpa using this
  have U:(rs++fs).length<=n:=by
   have:=rO n _ H.nd H.lt;simpa using this
  have K:rs.length<=n:=by rw[bF]at U;lia
  have hf1:0<fs.length:=jG ax
  refine⟨_,rs.map (λx=>qb x.1),fs.map (λx=>qb x.1),rs.map (λx=>k4 c x.2),fs.map (λx=>k4 c x.2),rfl,?_,?_,?_,?_,?_⟩
  ·exact(by simp:(C++oI c rs::G++[oI c fs])[C.length]?=some (oI c rs))
  ·exact(by simp:(C++oI c rs::G++[oI c fs])[(C++oI c rs::G).length]?=some (oI c fs))
  ·simp
  ·rw[aN,aN];simp[lim];lia
  ·rw[JM uC F s]
   refine⟨n - (rs++fs).length,?_,rs++fs,G++[oI c fs],rfl,?_,H,bE _⟩
   ·rw[bF]at U|-;lia
   ·rw[cJ,bY _ _ (bE _),c7];rfl
end aI
namespace aI
open PySem L2 TL NF
variable{N:Nt}{r:List (Nat×Bool)}{o:Nat×Bool}{c:Nat}{d:Int}
def mo(N:Nt)(f:Nat->Int)(r:List (Nat×Bool)):Int:=vT (r.map (rr N f))
theorem zJ:∀{ns:List Int},ns≠[]->vT ns∈ns/\∀a∈ns,vT ns<=a:=by
 have key:∀(ns:List Int)(n:Int),(ns.foldl (λa b=>if b<a then b else a) n=n\/ns.foldl (λa b=>if b<a then b else a) n∈ns)/\ns.foldl (λa b=>if b<a then b else a) n<=n/\∀a∈ns,ns.foldl (λa b=>if b<a then b else a) n<=a:=by
  intro ns;induction ns with
  |nil=>intro n;exact⟨.inl rfl,bM _,λa h=>nomatch h⟩
  |cons m ns ih=>
   intro n;rw[aRR];obtain⟨h1,i,g⟩:=ih (if m<n then m else n);by_cases j:m<n
   ·rw[if_pos j]at h1 i g|-
    refine⟨?_,by lia,λa f=>?_⟩
    ·rcases h1 with h1|h1
     ·rw[h1];simp
     ·exact .inr (aX _ h1)
    ·rcases fR f with rfl|f
     ·exact i
     ·exact g a f
   ·rw[if_neg j]at h1 i g|-
    refine⟨?_,i,λa f=>?_⟩
    ·rcases h1 with h1|h1
     ·exact .inl h1
     ·exact .inr (aX _ h1)
    ·rcases fR f with rfl|f
     ·lia
     ·exact g a f
 intro ns k;cases ns with
 |nil=>exact absurd rfl k
 |cons n ns=>
  obtain⟨h1,i,g⟩:=key ns n
  refine⟨?_,λa f=>?_⟩
  ·rcases h1 with h1|h1
   ·show aSI (λa b=>if b<a then b else a) n ns∈n::ns;rw[h1];simp
   ·exact aX _ h1
  ·rcases fR f with rfl|f
   ·exact i
   ·exact g a f
theorem SL{f:Nat->Int}(a:o∈r):mo N f r<=rr N f o:=
 (zJ (ns:=r.map (rr N f)) (by rintro z;have:=aRT.mp z;subst this;cases a)).2 _ (cM a)
theorem Uv{f:Nat->Int}(a:r≠[])(b:∀o∈r,ft N f o):0<mo N f r:=by
 obtain⟨g,i⟩:=zJ (ns:=r.map (rr N f)) (by rintro z;exact a (aRT.mp z));obtain⟨o,h,e⟩:=fU g;unfold mo;rw[<-e];exact(b o h).2
theorem Vw{f:Nat->Int}{C:ab}(A:jL N f c d C)(a:r≠[])(b:∀o∈r,o.1<N.m)(h:r.length<1000){Q:T->ab->Prop}(q:Q (.int (mo N f r)) C):aJ (sX [k4 c r] C) Q:=by
 refine j0 ?_
 unfold LY;walk_at "a"
 refine fZ (fK (eX (fV (iQ (gP ⟨_,rfl,_,rfl,by simp[lim];lia,?_⟩)))))
 refine iG (xs:=r) (en:=λo=>T.cell (pc c o)) (λo=>T.int (rr N f o)) (λo g=>fL (gK (kQ (t:=.cell (pc c o)) rfl (A.fld (b o g)).2.2.2.1) ⟨rfl,rfl⟩)) ?_
 refine fE (mI ⟨_,rfl,_,n5 (f:=rr N f),?_,q⟩)
 cases r with
 |nil=>exact absurd rfl a
 |cons o r=>rfl
theorem jL.BI{f:Nat->Int}{C:ab}(A:jL N f c d C)(h:o.1<N.m)(x:Int):
 jL N (up f o.1 (f o.1+if o.2 then x else -x)) c d ((C.set (pc c o) (.o "Pipe" eW,[.int (rt N o),.int (rh N o),.int (rd N o),.int (rr N f o - x),.cell (pc c (o.1,!o.2))])).set (pc c (o.1,!o.2)) (.o "Pipe" eW,[.int (rt N (o.1,!o.2)),.int (rh N (o.1,!o.2)),.int (rd N (o.1,!o.2)),.int (rr N f (o.1,!o.2)+x),.cell (pc c (o.1,!!o.2))])):=by
 have s:=mW (A.km o h);have q:=mW (A.km (o.1,!o.2) h);obtain⟨k,b⟩:=o;have v:pc c (k,b)≠pc c (k,!b):=by unfold pc;cases b<;>simp
 have low:∀i,i<c+2->i≠pc c (k,b)/\i≠pc c (k,!b):=λi w=>by unfold pc;constructor<;>lia
 refine⟨?_,?_,λm t=>?_⟩
 ·rw[aT (Ne.symm (low c (by lia)).2),aT (Ne.symm (low c (by lia)).1)];exact A.net
 ·rw[aT (Ne.symm (low (c+1) (by lia)).2),aT (Ne.symm (low (c+1) (by lia)).1)];exact A.lst
 ·obtain⟨g,a⟩:=m;by_cases j:g=k
  ·subst j;by_cases u:a=b
   ·subst u;rw[aT (Ne.symm v),oQ s];unfold h7 rr;rw[A6];cases a<;>simp<;>lia
   ·have l:a= !b:=by cases b<;>cases a<;>simp_all
    subst l;rw[oQ (by rw[cA];exact q)];unfold h7 rr;rw[A6];cases b<;>simp<;>lia
  ·have p:pc c (g,a)≠pc c (k,b):=by unfold pc;dsimp only;split<;>split<;>lia
   have n:pc c (g,a)≠pc c (k,!b):=by unfold pc;dsimp only;split<;>split<;>lia
   rw[aT (Ne.symm n),aT (Ne.symm p),A.km (g,a) t];unfold h7 rr;rw[z6 j]
theorem QB{x:Int}:∀{r:List (Nat×Bool)}{f:Nat->Int}{C:ab},jL N f c d C->(∀o∈r,o.1<N.m)->∀{Q:T->ab->Prop},(∀g,jL N (pr r x f) c d g->g.length=C.length->(∀i,i<c\/c+2+2*N.m<=i->g[i]?=C[i]?)->Q .aH g)->aJ (DY [k4 c r,.int x] C) Q:=by
 intro r f C A v Q q
 refine j0 ?_
 unfold Js;walk_at "a"
 refine j4 (fF rfl ⟨_,rfl,?_⟩)
 refine k7 (xs:=r) (en:=λo=>T.cell (pc c o)) (λj m g=>∃a,m=[some (k4 c r),some (.int x),a]/\jL N (pr (r.take j) x f) c d g/\g.length=C.length/\∀i,i<c\/c+2+2*N.m<=i->g[i]?=C[i]?) ⟨_,rfl,A,rfl,λ_ _=>rfl⟩ ?_ ?_
 ·rintro j o m g t ⟨a,rfl,h,s,n⟩;have l:=v o (aZ t);obtain⟨f1,f2,H,z,G⟩:=h.fld l;have D:=h.BI l x;have F:=mW (h.km (o.1,!o.2) l);have B:pc c o≠pc c (o.1,!o.2):=by obtain⟨k,b⟩:=o;unfold pc;cases b<;>simp
  have p:∀(r:List (Nat×Bool))(f:Nat->Int),pr (r++[o]) x f=up (pr r x f) o.1 (pr r x f o.1+if o.2 then x else -x):=λr=>by
   induction r with
   |nil=>intro f;rfl
   |cons e r ih=>intro f;show pr (r++[o]) x _=_;rw[ih];rfl
  unfold Lm
  refine fL (fJ (y0 (i:=rr N (pr (r.take j) x f) o) (j:=x) (fF rfl ⟨z,fF rfl ⟨rfl,_,mY (h.km o l) (by decide) rfl rfl,?_⟩⟩)))
  have y:p7 "Pipe" "back" (g.set (pc c o) (.o "Pipe" eW,[.int (rt N o),.int (rh N o),.int (rd N o),.int (rr N (pr (r.take j) x f) o - x),.cell (pc c (o.1,!o.2))])) (.cell (pc c o))=some (.cell (pc c (o.1,!o.2))):=mN (oQ (mW (h.km o l))) rfl;have u:(g.set (pc c o) (.o "Pipe" eW,[.int (rt N o),.int (rh N o),.int (rd N o),.int (rr N (pr (r.take j) x f) o - x),.cell (pc c (o.1,!o.2))]))[pc c (o.1,!o.2)]?=some (h7 N (pr (r.take j) x f) c (o.1,!o.2)):=by
   rw[aT B];exact h.km (o.1,!o.2) l
  refine fN (y0 (i:=rr N (pr (r.take j) x f) (o.1,!o.2)) (j:=x) (gK (kQ (t:=.cell (pc c o)) rfl y) ⟨mN u rfl,fF rfl ⟨rfl,_,mY u (by decide) rfl rfl,trivial,_,rfl,?_,?_,?_⟩⟩))
  ·rw[eQ,t,dD,p]
   exact D
  ·rw[cA,cA];exact s
  ·intro i w;rw[aT (by unfold pc;split<;>lia),aT (by unfold pc;split<;>lia)]
   exact n i w
 ·rintro m g ⟨a,rfl,h,s,n⟩;rw[cO]at h
  exact q g h s n
end aI
namespace aI
open PySem L2 TL NF
variable{w:Wk}{es:List (Nat×Nat)}{P:Int}{p:Nat->Int}{c:Nat}{Q:T->ab->Prop}
structure yu(w:Wk)(n:Nat)(es:List (Nat×Nat))(P:Int):Prop where
 n8:n<=8
 m:(net w n es P).m<40000
 tx:∀e∈es,e.1<n/\e.2<n
 rk:∃r:Nat->Int,(∀i,i<n->0<=r i/\r i<n)/\∀e∈es,r e.1<r e.2
 l0:∀i,i<n->0<=w.l i
 pP:sm n w.p<P
 AN:sm n w.p<10^199
theorem yu.open{n:Nat}(W:yu w n es P){f:Nat->Int}{a:Int}(G:Good w n es P f a p)(g:a<P):∀k,k<(net w n es P).m->eD n k=false->f k<(net w n es P).c k:=λk d b=>by
 obtain⟨r,i,h⟩:=W.rk
 exact NF.plenty G.mr G.ko i h W.tx g d b
theorem FF:kf 0=λ_=>0:=by funext v;unfold kf;split<;>rfl
theorem Nl{n:Nat}:sm n (λ_=>0)=0:=pI λ_ _=>rfl
theorem kn{n:Nat}(W:yu w n es P){f:Nat->Int}{a:Int}{C:ab}(A:jL (net w n es P) f c (2*n+2:Nat) C)(G:Good w n es P f a p)(i:sm (2*n+2) p<10^199)
 (q:∀b,gz (net w n es P) (2*n+2) f (λ_=>0) b->Good w n es P f a b->(∀v,v<2*n+2->b v<=p v)->Q (.cell C.length) (C++[(.l,lI (2*n+2) b)])):aJ (jN [.cell c,.int 0] C) Q:=by
 refine MC A W.m (yS W.tx) (by lia) (by have:=W.n8;lia) (y:=p) (λv d=>by rw[FF];exact G.ge v d) G.jd (by rw[FF,Nl];lia) λb L=>?_
 rw[FF]at L;obtain⟨g,h⟩:=G.least L
 exact q b L g h
structure hQ(w:Wk)(n:Nat)(es:List (Nat×Nat))(P:Int)(e:Int)(f0:Nat->Int)(a0:Int)(p0 f p:Nat->Int)(a:Int):Prop where
 good:Good w n es P f a p
 least:gz (net w n es P) (2*n+2) f (λ_=>0) p
 le:∀v,v<2*n+2->p v<=p0 v
 ready:p 1<=e
 how:f=f0\/a0<a/\∃q,Good w n es P f a q/\e<q 1/\∀v,v<2*n+2->q v<=p0 v
theorem RK{n:Nat}(W:yu w n es P){E e:Int}{b:Nat->Int}(TM:yv n es E b w.l)(hE:E<=e)(ut:0<=e){y t:Nat->Int}{h:Int}(G0:Good w n es P y h t)(iz:h<=sm n w.p)(a00:0<=h)(hb:sm (2*n+2) t<10^199)
 {C:ab}(A:jL (net w n es P) y c (2*n+2:Nat) C)
 (q:∀f p a g,hQ w n es P e y h t f p a->a<=sm n w.p->h<=a->jL (net w n es P) f c (2*n+2:Nat) g->C.length<=g.length->(∀i,i<C.length->(i<c\/c+2+2*(net w n es P).m<=i)->g[i]?=C[i]?)->Q .aH g):
 aJ (qO [.cell c,.int e] C) Q:=by
 have ag:=A.len;have hn8:=W.n8
 refine j0 ?_
 unfold MA;walk_at "a"
 refine fJ (fQ (nZ (fF rfl ⟨o6 A.net rfl,eX (fS (fE ⟨rfl,kn W A G0 hb λp1 L1 G1 h1=>?_⟩))⟩)))
 refine fL (fN ?_)
 refine zF (λm X g=>∃f p a D x,X=[some (.cell c),some (.int e),some (.cell D),x]/\g[D]?=some (.l,lI (2*n+2) p)/\jL (net w n es P) f c (2*n+2:Nat) g/\Good w n es P f a p/\gz (net w n es P) (2*n+2) f (λ_=>0) p/\(∀v,v<2*n+2->p v<=t v)/\
  a<=sm n w.p/\h<=a/\(f=y\/h<a/\∃q,Good w n es P f a q/\e<q 1/\∀v,v<2*n+2->q v<=t v)/\C.length<=g.length/\(∀i,i<C.length->(i<c\/c+2+2*(net w n es P).m<=i)->g[i]?=C[i]?)/\sm n w.p+1 - a<=(m:Int)) (m:=(sm n w.p+1 - h).toNat) ?_ ?_ ?_
 ·have h2:=W.AN;have h3:(sm n w.p+1 - h).toNat<=10^199:=by lia
  exact dP h3 (Nat.pow_lt_pow_right (by decide) (by decide))
 ·refine⟨y,p1,h,C.length,_,rfl,by simp,A.app ag,G1,L1,h1,iz,bM _,.inl rfl,by simp,λi M _=>aW M,by lia⟩
 rintro m X g ⟨f,p,a,D,x,rfl,mf,s,G,L,j,ha,zv,J,S,Z,zg⟩;have gw:lc g D=some (lI (2*n+2) p):=hZ mf
 refine gC (fD (fD (fF rfl (fS (gF ⟨_,gw,_,xL (v:=1) (by lia),fF rfl (f8 ⟨_,rfl,?_⟩)⟩)))))
 by_cases I:e<p 1
 ·rw[if_pos (decide_eq_true I)];have ze:0<n:=by
   rcases Nat.eq_zero_or_pos n with z|z
   ·exfalso;have hm0:(net w n es P).m=0:=by
     show 4*n+es.length=0;have:es=[]:=by
      cases es with
      |nil=>rfl
      |cons x r=>have:=(W.tx x bC).1;lia
     rw[this,z];rfl
    have:=L.le (λ_=>0) (λ_ _=>bM _) (λk hk=>by lia) 1 (by lia)
    lia
   ·exact z
  have ho:=W.open G (cU ha W.pP);have ug:=s.len;unfold uG
  refine fJ (fQ (iA (eX (nZ (fF rfl ⟨o6 s.net rfl,fE ⟨rfl,tJ s W.m ?_⟩⟩)))))
  refine eX (fF rfl (fE ⟨rfl,?_⟩))
  refine yJ s W.m (yS W.tx) (by lia) (by lia) mf (λR r0 hc=>G.route L ho W.tx W.l0 ze R r0 hc) λr G2 l=>?_
  have A2:jL (net w n es P) f c (2*n+2:Nat) (g++G2):=s.app ug;have ax:r≠[]:=λz=>by
   subst z;have:=l.wk
   exact absurd (show(0:Nat)=1 from this) (by decide)
  have Y:∀o∈r,o.1<(net w n es P).m:=λo B=>(l.op o B).1
  have gn:=yS (w:=w) (P:=P) W.tx;have cy:r.length<1000:=by
   have h5:=rO (2*n+2) _ (i7 l.nd).2 λv F=>by
    obtain⟨⟨k,d⟩,B,rfl⟩:=fU F;have:=gn k (l.op _ B).1;unfold rh;cases d<;>simp<;>lia
   rw[aN]at h5
   lia
  refine fL (fN (fJ (mK (iA (eX (fF rfl (eX (iA (eX (fF rfl (fE ⟨rfl,Vw A2 ax Y cy (fE ⟨rfl,?_⟩)⟩)))))))))))
  refine QB A2 Y λC3 H K N=>?_
  have hx:=Uv ax l.op;have U:Good w n es P (pr r (mo (net w n es P) f r) f) (a+mo (net w n es P) f r) p:=G.pour l.wk l.pipes l.tg (by lia) λo B=>SL B
  have O:=U.bound TM (by lia);have iy:sm (2*n+2) p<10^199:=cU (wP j) hb
  refine fN (fQ (nZ (fF rfl ⟨o6 H.net rfl,eX (fS (fE ⟨rfl,kn W H U iy λp4 L4 G4 h4=>?_⟩))⟩)))
  have hl5:g.length<=C3.length:=by rw[K];simp
  refine fL ⟨(sm n w.p+1 - (a+mo (net w n es P) f r)).toNat,by lia,_,p4,_,C3.length,_,rfl,by simp,H.app H.len,G4,L4,λv F=>cL (h4 v F) (j v F),O,by lia,.inr ⟨by lia,p,U,I,j⟩,by rw[bF];lia,λi M u=>?_,by lia⟩
  rw[aW (by lia),N i u,aW (by lia)]
  exact Z i M u
 ·rw[if_neg (by rw[decide_eq_false I];simp)]
  exact q f p a g ⟨G,L,j,by lia,J⟩ ha zv s S Z
end aI
namespace aI
open PySem L2 TL NF
variable{d:Nat}{s:Nat×Nat}{L:NF.Fl}{Q:T->ab->Prop}
def ue(s:Nat×Nat):List Key:=[qb s.1,qb s.2]
theorem JQ(a b:Nat×Nat)(h:ue a=ue b):a=b:=by
 have c:=aSE.inj h;have f:=aSE.inj c.2
 exact aTw (uC _ _ c.1) (uC _ _ f.1)
noncomputable def fi(s:Nat×Nat):T:=.tup [.int s.1,.int s.2]
def n9(L:NF.Fl):Cl:=(.dt (L.map λp=>ue p.1),L.map λp=>.int p.2)
def Df(L:NF.Fl):Cl:=(.dz (L.map λp=>ue p.1),L.map λp=>.int p.2)
theorem yC{C:ab}(e:C[d]?=some (n9 L)\/C[d]?=some (Df L)):eM C (.cell d) (fi s)=some ((lk L s).map T.int):=by
 unfold eM;rw[Jt e,IE e];show some (vl _ (ue s))=_;rw[Gf (vf:=λi:Int=>T.int i) JQ]
theorem J4{C:ab}{v:Int}(e:C[d]?=some (n9 L))(a:L.length<lim):dput C (.cell d) (fi s) (.int v)=some (C.set d (n9 (n6 L s v))):=by
 unfold dput;rw[Jt (.inl e),Jr e];show(if _ then some (C.set d (.dt (mq (ue s) _),jj (ue s) _ _ _))else none)=_;rw[if_pos (by simpa using a)];obtain⟨c,b⟩:=GQ (vf:=λi:Int=>T.int i) JQ (a:=s) (b:=v) (rs:=L);rw[c,b];rfl
theorem tK:(lk L s).getD 0=at_ L s:=by
 unfold at_;congr 1;induction L with
 |nil=>rfl
 |cons e L ih=>
  obtain⟨k,v⟩:=e;rw[oE,bT];by_cases h:k=s
  ·rw[if_pos h,show(s==k)=true from beq_iff_eq.mpr h.symm]
  ·rw[if_neg h,show(s==k)=false from beq_eq_false_iff_ne.mpr (Ne.symm h)];exact ih
theorem WA{p:(Nat×Nat)×Int}{v:Int}(h:¬p.1=s):n6 (p::L) s v=p::n6 L s v:=by
 unfold n6;rw[aK];by_cases a:s∈L.map (·.1)
 ·rw[if_pos (aX _ a),if_pos a,aK,if_neg h]
 ·rw[if_neg (fun z=>by rcases fR z with z|z;·exact h z.symm
                       ·exact a z),if_neg a];rfl
theorem FM{g:(Nat×Nat)×Int->(Nat×Nat)×Int}(h:s∉L.map (·.1)):L.map (λp=>if p.1=s then g p else p)=L:=by
 induction L with
 |nil=>rfl
 |cons e L ih=>
  rw[aK,bU,not_or]at h;rw[aK,ih h.2,if_neg (λz=>h.1 z.symm)]
theorem JL{s:Nat×Nat}{v:Int}:∀{L:NF.Fl},(L.map (·.1)).Nodup->n6 L s (at_ L s+v)=ad s v L
 | [],_=>by simp[n6,ad,at_]
 | (k,x)::L,a=>by
   rw[aK,cH]at a;unfold ad;by_cases h:k=s
   ·subst h;have e:at_ ((k,x)::L) k=x:=by rw[<-tK,oE,if_pos rfl];rfl
    rw[e,if_pos rfl];unfold n6;rw[if_pos (by simp),aK,if_pos rfl,FM a.1]
   ·have e:at_ ((k,x)::L) s=at_ L s:=by rw[<-tK,oE,if_neg h,tK]
    rw[e,if_neg h,WA h,JL a.2]
theorem Rv{x:Int}(a:(L.map (·.1)).Nodup)(b:s∈L.map (·.1)):n6 L s (at_ L s - x)=tk x s L:=by
 unfold n6;rw[if_pos b];unfold tk;induction L with
 |nil=>rfl
 |cons e L ih=>
  obtain⟨k,y⟩:=e;rw[aK,cH]at a;rw[aK,aK];by_cases h:k=s
  ·subst h;have e:at_ ((k,y)::L) k=y:=by rw[<-tK,oE,if_pos rfl];rfl
   rw[e,if_pos rfl,FM a.1,FM (g:=λe=>(e.1,e.2 - x)) a.1]
  ·have e:at_ ((k,y)::L) s=at_ L s:=by rw[<-tK,oE,if_neg h,tK]
   rw[aK]at b;rw[e,if_neg h,if_neg h,ih a.2 ((fR b).resolve_left (Ne.symm h))]
theorem Ie{e:(Nat×Nat)×Int}(a:(L.map (·.1)).Nodup)(he:e∈L):lk L e.1=some e.2:=by
 induction L with
 |nil=>cases he
 |cons p L ih=>
  rw[aK,cH]at a;rw[oE];rcases fR he with rfl|he
  ·rw[if_pos rfl]
  ·rw[if_neg (λz=>a.1 (by rw[z];exact cM he)),ih a.2 he]
noncomputable def outs(L:NF.Fl)(v:Nat):List (Nat×Nat):=(L.filter λe=>decide (e.1.1=v)&&decide (0<e.2)).map (·.1)
theorem tF{C:ab}{v:Nat}(e:C[d]?=some (n9 L))(g:(L.map (·.1)).Nodup)(j:L.length<90000)(q:Q (.lst ((outs L v).map fi)) C):aJ (mV [.int v,.cell d] C) Q:=by
 have i:=mW e
 refine j0 ?_
 unfold uS;walk_at "a"
 refine fZ (fV (UT (c:=d) (ks:=L.map λp:(Nat×Nat)×Int=>ue p.1) (ts:=L.map λp:(Nat×Nat)×Int=>T.int p.2) (gP ⟨_,rfl,rfl,e,by simp,by simp[lim];lia,?_⟩)))
 have c:(C.set d (Df L))[d]?=some (Df L):=oQ i;rw[bR,show(Cc ∘ λp:(Nat×Nat)×Int=>ue p.1)=λp=>fi p.1 from rfl]
 refine sZ (xs:=L) (en:=λp=>fi p.1) (λe=>decide (e.1.1=v)&&decide (0<e.2)) (λp=>fi p.1) (λx f=>?_) ?_
 ·refine fL (xQ.mpr (gC (fD (fD ?_))))
  refine gP ⟨fi x.1,rfl,?_⟩
  refine fS (gF ⟨[.int x.1.1,.int x.1.2],rfl,.int x.1.1,rfl,?_⟩)
  refine gP ⟨.int v,rfl,?_⟩
  refine iZ ⟨_,rfl,?_⟩
  have a:((x.1.1:Int)=v)↔x.1.1=v:=by lia
  by_cases h:x.1.1=v
  ·rw[if_pos (decide_eq_true (a.mpr h))];have b:=yC (s:=x.1) (L:=L) (C:=C.set d (Df L)) (.inr c);rw[Ie g f]at b
   refine gC (fD (fD (fF rfl (fF rfl (mM ⟨_,b,fS (f8 ⟨_,rfl,rfl,?_,λ_=>fF rfl ⟨rfl,rfl⟩⟩)⟩)))))
   rw[decide_eq_true h,Bool.true_and]
  ·rw[if_neg (by rw[decide_eq_false (λz=>h (a.mp z))];simp)]
   refine⟨rfl,by rw[decide_eq_false h,aSu],λz=>?_⟩
   rw[decide_eq_false h,aSu]at z;cases z
 ·have:(L.filter λe=>decide (e.1.1=v)&&decide (0<e.2)).map (λp=>fi p.1)=(outs L v).map fi:=by unfold outs;rw[bR];rfl
  rw[this]
  exact⟨rfl,q⟩
theorem KO{x:Int}{s:Nat×Nat}:∀{r:List (Nat×Nat)}{L:NF.Fl},gb x (r++[s]) L=tk x s (gb x r L)
 | [],L=>rfl
 |a::r,L=>by show gb x (r++[s]) (tk x a L)=_;rw[KO];rfl
theorem V6{C:ab}{a:Nat}{r:List (Nat×Nat)}(e:C[d]?=some (n9 L))(f:C[a]?=some (.l,r.map fi))(B:(L.map (·.1)).Nodup)(G:L.length<90000)(A:r≠[])(J:r.length<1000)(m:∀s∈r,s∈L.map (·.1))
 (q:Q (.int (vT (r.map (at_ L)))) (C.set d (n9 (gb (vT (r.map (at_ L))) r L)))):aJ (qR [.cell d,.cell a] C) Q:=by
 have D:=mW e;have t:d≠a:=λz=>by subst z;rw[e]at f;cases f
 have o:lc C a=some (r.map fi):=hZ f;have b:∀(g:NF.Fl)(s:Nat×Nat),s∈g.map (·.1)->lk g s=some (at_ g s):=λg s c=>by
  obtain⟨v,l⟩:=iR (qH.mpr c);rw[l,<-tK,l];rfl
 generalize w:vT (r.map (at_ L))=x at q
 refine j0 ?_
 unfold Mq;walk_at "a"
 refine fJ (fQ (fK (eX (fV (iQ (gP ⟨_,rfl,_,o,by simp[lim];lia,?_⟩))))))
 refine iG (xs:=r) (en:=fi) (λs=>T.int (at_ L s)) (λs c=>fL (fD (fF rfl (fF rfl (mM ⟨_,by rw[yC (.inl e),b L s (m s c)];rfl,rfl,rfl⟩))))) ?_
 refine fE (mI ⟨_,rfl,_,n5 (f:=at_ L),?_,?_⟩)
 ·cases r with
  |nil=>exact absurd rfl A
  |cons s r=>rfl
 rw[show vT (r.map (at_ L))=x from w]
 refine fL (fN (fJ (j4 (fF rfl ⟨_,o,?_⟩))))
 refine k7 (xs:=r) (en:=fi) (λj h i=>∃y,h=[some (.cell d),some (.cell a),some (.int x),y]/\i=C.set d (n9 (gb x (r.take j) L))) ⟨_,rfl,?_⟩ ?_ ?_
 ·obtain⟨H,F⟩:=fA e;show C=C.set d (n9 L);rw[<-F,eK]
 ·rintro j s h i n ⟨y,rfl,rfl⟩;have c:=m s (aZ n);have k:s∈(gb x (r.take j) L).map (·.1):=by rw[pQ];exact c
  have u:((gb x (r.take j) L).map (·.1)).Nodup:=by rw[pQ];exact B
  have I:(gb x (r.take j) L).length<90000:=by
   have:=congrArg aS8 (pQ (x:=x) (r:=r.take j) (L:=L));rw[aN,aN]at this;lia
  have p:(C.set d (n9 (gb x (r.take j) L)))[d]?=some (n9 (gb x (r.take j) L)):=oQ D;unfold uL
  refine fL (S7 (i:=at_ (gb x (r.take j) L) s) (j:=x) (fF rfl (gP ⟨_,rfl,by rw[yC (.inl p),b _ s k];rfl,fF rfl ⟨rfl,_,J4 p (by simp[lim];lia),?_,_,rfl,?_⟩⟩)))
  ·show lc _ a=_;rw[nM,d9,aT t];exact f
  ·rw[d9,Rv u k,eQ,n,dD,KO]
 ·rintro h i ⟨y,rfl,rfl⟩;rw[cO]
  exact fN (fZ (fF rfl q))
end aI
namespace aI
open PySem L2 TL NF
variable{L:NF.Fl}{e:(Nat×Nat)×Int}
structure tm(L:NF.Fl)(a:Int)(ρ:Nat->Int):Prop where
 con:vu L a
 nn:∀e∈L,0<=e.2
 nd:(L.map (·.1)).Nodup
 hz:∀e∈L,e.1.2≠0
 rk:∀e∈L,ρ e.1.1<ρ e.1.2
 h1:∀e∈L,ρ e.1.2<=ρ 1
 h0:∀e∈L,ρ 0<=ρ e.1.1
 small:ρ 1 - ρ 0<=30
 le:ρ 0<=ρ 1
 len:L.length<90000
theorem IZ{x:T}{l:List T}:dh (x::l) 0=some x:=JT (j:=0) rfl
theorem SW.snoc:∀{r:List (Nat×Nat)}{u v:Nat}{s:Nat×Nat},SW r u v->s.1=v->SW (r++[s]) u s.2
 | [],u,v,s,h,e=>by cases h;exact⟨e,rfl⟩
 |a::r,u,v,s,⟨c,b⟩,e=>⟨c,SW.snoc b e⟩
theorem Us{v:Nat}{s:Nat×Nat}(h:s∈outs L v):∃e∈L,e.1=s/\s.1=v/\0<e.2:=by
 unfold outs at h;obtain⟨e,b,rfl⟩:=fU h;obtain⟨c,a⟩:=iK b;rw[eN,decide_eq_true_iff,decide_eq_true_iff]at a
 exact⟨e,c,rfl,a.1,a.2⟩
theorem Ls{v:Nat}(h:outs L v=[])(c:e∈L)(a:e.1.1=v):¬0<e.2:=λb=>by
 have:e.1∈outs L v:=by
  unfold outs
  refine cM (j9 ⟨c,?_⟩)
  rw[eN,decide_eq_true_iff,decide_eq_true_iff]
  exact⟨a,b⟩
 rw[h]at this;cases this
theorem Cv(a:(L.map (·.1)).Nodup)(b:e∈L):at_ L e.1=e.2:=by rw[<-tK,Ie a b];rfl
theorem Mu{a:Int}{b:Nat->Int}(F:tm L a b){C:ab}{d:Nat}(e:C[d]?=some (n9 L)){Q:T->ab->Prop}
 (q:∀r:List (Nat×Nat),(r=[]/\a<=0)\/(r≠[]/\SW r 0 1/\r.Nodup/\r.length<1000/\∀s∈r,s∈L.map (·.1)/\0<at_ L s)->Q (.cell C.length) (C++[(.l,r.map fi)])):aJ (lK [.cell d] C) Q:=by
 have M:=mW e;have H:∀x:Cl,(C++[x])[d]?=some (n9 L):=λx=>by rw[aW M];exact e
 refine j0 ?_
 unfold q9;walk_at "a"
 refine fJ (fQ (jC (gS (fE ⟨by decide,?_⟩))))
 refine fL (fN (fJ (fQ (iA (eX (fS (eX ?_)))))))
 refine fF rfl (fE ⟨rfl,?_⟩)
 refine tF (v:=0) (H _) F.nd F.len (fL (fN (fJ ?_)))
 refine zF (λm p I=>∃r u,p=[some (.cell d),some (.cell C.length),some (.lst ((outs L u).map fi))]/\I=C++[(.l,r.map fi)]/\SW r 0 u/\(r=[]/\u=0\/r≠[]/\∃e∈L,e.1.2=u/\0<e.2)/\(∀s∈r,s∈L.map (·.1)/\0<at_ L s)/\r.Nodup/\(∀s∈r,b s.1<b u)/\
  (r.length:Int)<=b u - b 0/\b u<=b 1/\b 1 - b u<=(m:Int)) (m:=30) (by decide) ?_ ?_
 ·exact⟨[],0,rfl,rfl,rfl,.inl ⟨rfl,rfl⟩,by simp,by simp,by simp,by simp,F.le,F.small⟩
 rintro m p I ⟨r,u,rfl,rfl,o,O,B,A,w,U,S,R⟩
 refine iU (fF rfl ⟨_,rfl,?_⟩)
 have J:=F.small;cases n:outs L u with
 |nil=>
  rw[aY];rw[if_neg (by simp)]
  refine fN (fZ (fF rfl (q r ?_)))
  rcases O with⟨rfl,rfl⟩| ⟨P,x,c,v,K⟩
  ·refine .inl ⟨rfl,?_⟩
   by_cases N:0<a
   ·obtain⟨y,f,k,j⟩:=Q3 F.con F.nn F.hz N
    exact absurd j (Ls n f k)
   ·lia
  ·refine .inr ⟨P,?_,A,by lia,B⟩
   have l:u=1:=by
    by_cases z:u=1
    ·exact z
    ·obtain⟨y,f,k,j⟩:=R0 F.con F.nn (v:=u) (by rw[<-v];exact F.hz x c) z c v K
     exact absurd j (Ls n f k)
   rw[l]at o;exact o
 |cons s os=>
  obtain⟨x,c,h,i,g⟩:=Us (L:=L) (v:=u) (s:=s) (by rw[n];exact bC);have G:=F.rk x c;have t:=F.h1 x c;rw[h,i]at G;rw[h]at t;rw[aK,if_pos (by simp)];have D:lc (C++[(Kd.l,r.map fi)]) C.length=some (r.map fi):=hZ (by simp);unfold o5
  refine fJ (kO (fF rfl (eX (fD ?_))))
  refine fF rfl (fS (gF ⟨fi s::os.map fi,rfl,fi s,IZ,?_⟩))
  refine fE ⟨_,rfl,by rw[D];rfl,_,D,lT ⟨by simp[lim];lia,?_⟩⟩
  have es:(C++[(Kd.l,r.map fi)]).set C.length (Kd.l,r.map fi++[fi s])=C++[(Kd.l,(r++[s]).map fi)]:=by
   rw[bY _ _ (bE _),c7,bN];rfl
  rw[es]
  refine fN (fQ (iA (eX (fD (fD ?_)))))
  refine fF rfl (fS (gF ⟨fi s::os.map fi,rfl,fi s,IZ,?_⟩))
  refine fS (gF ⟨[.int s.1,.int s.2],rfl,.int s.2,rfl,eX ?_⟩)
  refine fF rfl (fE ⟨rfl,?_⟩)
  refine tF (v:=s.2) (H _) F.nd F.len (fL ⟨(b 1 - b s.2).toNat,by lia,r++[s],s.2,rfl,rfl,SW.snoc o i,.inr ⟨by simp,x,c,by rw[h],g⟩,λz hz=>?_,?_,λz hz=>?_,?_,t,by lia⟩)
  ·rcases fY hz with hz|hz
   ·exact B z hz
   ·have:z=s:=by simpa using hz
    subst this
    exact⟨by rw[<-h];exact cM c,by rw[<-h,Cv F.nd c];exact g⟩
  ·refine i9 ⟨A,by simp,λy f z hz=>?_⟩
   have:z=s:=by simpa using hz
   subst this;rintro rfl;have:=w y f;rw[i]at this;lia
  ·rcases fY hz with hz|hz
   ·have:=w z hz;lia
   ·have:z=s:=by simpa using hz
    subst this;rw[i];exact G
  ·rw[bF];simp;lia
end aI
namespace aI
open PySem L2 TL NF
variable{r:List (Nat×Nat)}{L:NF.Fl}
theorem Ja{c d:Type}{g:c->d}:∀{l:List c},TL.od (l.map g)=(NF.od l).map g
 | []=>by simp[TL.od,NF.od]
 | [_]=>by simp[TL.od,NF.od]
 |a::b::r=>by
  have ih:=Ja (g:=g) (l:=r);simp only[aK,TL.od,NF.od];rw[ih]
theorem E5{c:Type}:∀{l:List c},(NF.od l).length<=l.length
 | []=>by simp[NF.od]
 | [_]=>by simp[NF.od]
 |a::b::r=>by
  have ih:=E5 (l:=r);simp only[NF.od,aM]
  lia
theorem Wr{C:ab}{a:Nat}{is:List Nat}(e:C[a]?=some (.l,r.map fi))(f:r.length<1000)(b:NF.od r=is.map iq){Q:T->ab->Prop}(q:Q (.lst (is.map λi:Nat=>T.int (i:Int))) C):aJ (qG [.cell a] C) Q:=by
 have d:is.length<1000:=by
  have c:=E5 (l:=r);rw[b,aN]at c
  lia
 refine j0 ?_
 unfold yQ;walk_at "a"
 refine fZ (fV (iQ (fV (SH.mpr (fF rfl ⟨_,hZ e,?_⟩)))))
 rw[Ja,b,bR]
 refine⟨_,rfl,by simp[lim];lia,?_⟩
 refine iG (xs:=is) (en:=fi ∘ iq) (λi:Nat=>T.int (i:Int)) (λi _=>?_) q
 refine iO ⟨_,rfl,rfl,?_⟩
 refine fK (eX (gP ⟨.int ((2*i+2:Nat):Int),rfl,fE ?_⟩))
 rw[show((2*i+2:Nat):Int)=2*(i:Int)+2 by lia]
 exact(f7 V8 rfl rfl).mpr ⟨rfl,rfl⟩
theorem xO{x:Int}:∀{r:List (Nat×Nat)}{L:NF.Fl},gb x r L=L.map λe=>(e.1,e.2 - x*(r.count e.1:Int))
 | [],L=>by simp[gb]
 |s::r,L=>by
  unfold gb;rw[xO];unfold tk;rw[bR];apply cF;intro e _;simp only[dN];by_cases h:e.1=s
  ·rw[if_pos h];dsimp only;rw[h,List.count_cons_self,aS4,aS9,aSv];congr 1;lia
  ·rw[if_neg h,List.count_cons_of_ne (Ne.symm h)]
theorem tm.take{a:Int}{i:Nat->Int}(F:tm L a i){x:Int}(w:SW r 0 1)(k:r.Nodup)(j:∀s∈r,s∈L.map (·.1)/\x<=at_ L s):tm (gb x r L) (a - x) i:=by
 have key:∀b∈gb x r L,∃e∈L,e.1=b.1/\b.2=e.2 - x*(r.count e.1:Int):=λb c=>by
  rw[xO]at c;obtain⟨e,d,rfl⟩:=fU c
  exact⟨e,d,rfl,rfl⟩
 refine⟨F.con.take F.nd (λs g=>(j s g).1) w,λb c=>?_,by rw[pQ];exact F.nd,λb c=>?_,λb c=>?_,λb c=>?_,λb c=>?_,F.small,F.le,?_⟩
 ·obtain⟨e,d,f,h⟩:=key b c;have l:=F.nn e d;rw[h];by_cases g:e.1∈r
  ·rw[k.count,if_pos g];have:=(j e.1 g).2;rw[Cv F.nd d]at this;simp;lia
  ·rw[List.count_eq_zero.mpr g];simp;exact l
 ·obtain⟨e,d,f,h⟩:=key b c;rw[<-f];exact F.hz e d
 ·obtain⟨e,d,f,h⟩:=key b c;rw[<-f];exact F.rk e d
 ·obtain⟨e,d,f,h⟩:=key b c;rw[<-f];exact F.h1 e d
 ·obtain⟨e,d,f,h⟩:=key b c;rw[<-f];exact F.h0 e d
 ·rw[xO,aN];exact F.len
theorem tm.BR{a:Int}{c:Nat->Int}(F:tm L a c){e:(Nat×Nat)×Int}(b:e∈L):e.2<=a:=
 QQ F.con F.nn c F.rk b (by have:=F.rk e b;have:=F.h0 e b;lia) (F.h1 e b)
theorem Nq{s:Nat×Nat}(h:s∉L.map (·.1)):at_ L s=0:=by
 rw[<-tK];cases e:lk L s with
 |none=>rfl
 |some v=>exact absurd (qH.mp (by rw[e];rfl)) h
theorem tm.zero{a:Int}{c:Nat->Int}(F:tm L a c)(d:a<=0)(s:Nat×Nat):at_ L s=0:=by
 by_cases h:s∈L.map (·.1)
 ·obtain⟨e,b,rfl⟩:=fU h;rw[Cv F.nd b];have:=F.BR b;have:=F.nn e b
  lia
 ·exact Nq h
end aI
namespace aI
open PySem L2 TL NF
variable{L:NF.Fl}{s:Nat×Nat}
theorem IS{s:Nat×Nat}{v:Int}:∀{L:NF.Fl},(ad s v L).length<=L.length+1
 | []=>by simp[ad]
 |e::L=>by
  have:=IS (s:=s) (v:=v) (L:=L);unfold ad;split<;>simp<;>lia
theorem xW{N:Nt}{f:Nat->Int}:∀{k:Nat},(fc N f k).length<=k
 |0=>by simp[fc]
 |k+1=>by
  have b:=xW (N:=N) (f:=f) (k:=k);have a:=IS (s:=(N.t k,N.h k)) (v:=f k) (L:=fc N f k);unfold fc;lia
theorem Ra:((lk L s).map T.int).getD (.int 0)=.int (at_ L s):=by
 rw[<-tK];cases lk L s<;>rfl
theorem Mj{f:Type}{p q:f->Bool}:∀{l:List f},(∀e∈l,q e=true->p e=true)->(l.filter q).length<=(l.filter p).length/\((∃e∈l,p e=true/\q e=false)->(l.filter q).length<(l.filter p).length)
 | [],_=>⟨bE _,fun⟨e,he,_⟩=>by cases he⟩
 |a::l,h=>by
  obtain⟨k,i⟩:=Mj (p:=p) (q:=q) (l:=l) λe he=>h e (aX _ he)
  have j:=h a bC;rw[aS5,aS5];cases g:q a<;>cases d:p a
  ·simp only[bZ,if_false]
   refine⟨k,fun⟨e,he,c,b⟩=>?_⟩
   rcases fR he with rfl|he
   ·rw[d]at c;cases c
   ·exact i ⟨e,he,c,b⟩
  ·simp only[bZ,if_false,if_true,aM]
   exact⟨by lia,λ_=>by lia⟩
  ·rw[j g]at d;cases d
  ·simp only[if_true,aM]
   refine⟨by lia,fun⟨e,he,c,b⟩=>?_⟩
   rcases fR he with rfl|he
   ·rw[g]at b;cases b
   ·have:=i ⟨e,he,c,b⟩;lia
noncomputable def q5(L:NF.Fl):Nat:=(L.filter λe=>decide (0<e.2)).length
theorem UR{r:List (Nat×Nat)}{x:Int}(f:(L.map (·.1)).Nodup)(d:r.Nodup)(j:0<x)(c:s∈r)(g:s∈L.map (·.1))(a:at_ L s=x):q5 (gb x r L)<q5 L:=by
 unfold q5;rw[xO,List.filter_map,aN]
 refine(Mj λe i h=>?_).2 ?_
 ·simp only[dN,decide_eq_true_eq]at h|-;have:0<=x*(r.count e.1:Int):=dQ (by lia) (by lia)
  lia
 ·obtain⟨e,b,rfl⟩:=fU g;rw[Cv f b]at a
  refine⟨e,b,decide_eq_true (by lia),?_⟩
  simp only[dN,decide_eq_false_iff_not];rw[d.count,if_pos c,a];simp
structure yL(n:Nat)(es:List (Nat×Nat))(L0:NF.Fl)(a0:Int)(rl:List (Nat×Int×List Nat))(L:NF.Fl)(a:Int):Prop where
 ok:∀z∈rl,1<=z.2.1/\z.2.2≠[]/\(∀i∈z.2.2,i<n)/\NF.D5 es none z.2.2/\∀i,z.2.2.count i<=1
 sum:(rl.map λz=>z.2.1).sum=a0 - a
 tq:∀i,(rl.map λz=>z.2.1*(z.2.2.count i:Int)).sum=at_ L0 (iq i) - at_ L (iq i)
noncomputable def u0(z:Nat×Int×List Nat):Cl:=(.l,.int z.2.1::z.2.2.map λi:Nat=>T.int (i:Int))
theorem Vl{N:Nt}{f:Nat->Int}{c n:Nat}{es:List (Nat×Nat)}{Z h:Int}{X:Nat->Int}{C:ab}(A:jL N f c Z C)(hm:N.m<40000)(F0:tm (fc N f N.m) h X)(S:∀s∈(fc N f N.m).map (·.1),Ky n es s)(iz:0<=h)(mm:h<10^199){Q:T->ab->Prop}
 (q:∀d rw b,d.length<=N.m->yL n es (fc N f N.m) h d [] 0->b[rw]?=some (.l,d.map λz=>.cell z.1)->(∀z∈d,b[z.1]?=some (u0 z))->Q (.cell rw) b):aJ (oG [.cell c] C) Q:=by
 have ag:=A.len;have hf:p7 "Net" "pipes" C (.cell c)=some (.cell (c+1)):=mN A.net rfl
 refine j0 ?_
 unfold u5;walk_at "a"
 refine fJ (fQ (LG.mpr (fL (fN (fJ (j4 ?_))))))
 have H:∀x:Cl,jL N f c Z (C++[x]):=λx=>A.app ag
 have mh:∀x:Cl,lc (C++[x]) (c+1)=some ((bH N.m).map λj=>.cell (pc c (j,true))):=λx=>hZ (H x).lst
 refine gK (kQ rfl (mN (H _).net rfl)) ⟨_,mh _,?_⟩
 refine k7 (xs:=bH N.m) (en:=λj=>T.cell (pc c (j,true))) (λj p b=>∃x y,p=[some (.cell c),some (.cell C.length),x,y,none,none]/\b=C++[n9 (fc N f j)]) ⟨_,_,rfl,rfl⟩ ?_ ?_
 ·rintro j k p b hj ⟨x,y,rfl,rfl⟩;have hk:k=j/\j<N.m:=by
   obtain⟨u,G⟩:=fA hj;rw[d4]at G
   exact⟨G.symm,by simpa using u⟩
  obtain⟨rfl,Y⟩:=hk;obtain⟨f1,f2,f3,f4,f5⟩:=(H (n9 (fc N f k))).fld (o:=(k,true)) Y;obtain⟨g1,g2,g3,g4,g5⟩:=(H (n9 (fc N f k))).fld (o:=(k,false)) Y;have w:(C++[n9 (fc N f k)])[C.length]?=some (n9 (fc N f k)):=by simp
  have hsl:=xW (N:=N) (f:=f) (k:=k);unfold rY
  refine fL (fJ (fQ (mL (eX ?_))))
  refine gK (kQ (t:=.cell (pc c (k,true))) rfl f1) (eX ?_)
  refine gK (kQ (t:=.cell (pc c (k,true))) rfl f2) (fE ⟨by simp[lim],fL (fN ?_)⟩)
  refine KU (fD (Ue (gP ⟨_,rfl,by unfold ic;rw[IE (.inl w)];simp,gP ⟨fi (N.t k,N.h k),rfl,fS ⟨_,yC (.inl w),?_⟩⟩⟩)))
  rw[Ra]
  refine Gi.mpr (Gi.mpr (fF rfl ⟨_,f5,_,g4,f8 ?_⟩))
  refine fF rfl (gP ⟨fi (N.t k,N.h k),rfl,_,J4 w (by simp[lim];lia),?_,_,_,rfl,?_⟩)
  ·show lc _ (c+1)=_;rw[nM,aT (by lia)];exact(H _).lst
  ·rw[bY _ _ (bE _),c7];show C++[n9 (n6 (fc N f k) (N.t k,N.h k) (at_ (fc N f k) (N.t k,N.h k)+rr N f (k,false)))]=_;rw[show rr N f (k,false)=f k from rfl,JL v3];rfl
 ·rintro p b ⟨x,y,rfl,rfl⟩;rw[eL];have w:∀z:Cl,(C++[n9 (fc N f N.m)]++[z])[C.length]?=some (n9 (fc N f N.m)):=λz=>by simp
  refine fN (fJ (fQ (jC (gS (fE ⟨by decide,?_⟩)))))
  refine fL (fN (fJ (fQ (iA (eX ?_)))))
  refine fF rfl (fE ⟨rfl,Mu F0 (w _) λr0 ng=>?_⟩)
  refine fL (fN (fJ ?_))
  refine zF (λm p b=>∃d L a r t x y,p=[some (.cell c),some (.cell C.length),x,y,some (.cell (C.length+1)),some (.cell t)]/\b[C.length]?=some (n9 L)/\b[C.length+1]?=some (.l,d.map λz=>.cell z.1)/\b[t]?=some (.l,r.map fi)/\C.length+1<t/\
   (∀z∈d,C.length+1<z.1/\b[z.1]?=some (u0 z))/\d.length+q5 L<=N.m/\tm L a X/\L.map (·.1)=(fc N f N.m).map (·.1)/\yL n es (fc N f N.m) h d L a/\((r=[]/\a<=0)\/(r≠[]/\SW r 0 1/\r.Nodup/\r.length<1000/\∀s∈r,s∈L.map (·.1)/\0<at_ L s))/\0<=a/\a<=(m:Int)) (m:=h.toNat) ?_ ?_ ?_
  ·have:h.toNat<10^199:=by lia
   exact bL this (aRP (by decide) (by decide))
  ·refine⟨[],fc N f N.m,h,r0,C.length+2,x,y,by simp,?_,?_,?_,by lia,by simp,?_,F0,rfl,⟨by simp,by simp,by simp⟩,ng,iz,by lia⟩
   ·rw[aW (by simp)];exact w _
   ·rw[cJ,cJ,bD (by lia),show C.length+1 - C.length=1 by lia];rfl
   ·rw[cJ,cJ,bD (by lia),show C.length+2 - C.length=2 by lia];rfl
   ·have u:q5 (fc N f N.m)<=(fc N f N.m).length:=dR _ _;have G:=xW (N:=N) (f:=f) (k:=N.m);simp;lia
  rintro m p b ⟨d,L,a,r,t,x,y,rfl,e1,K,J,hrc,md,nh,F,E,B,hr,ha,zg⟩
  refine iU (gP ⟨_,rfl,!(r.map fi).isEmpty,by show(lc b t).map _=_;rw[hZ J];rfl,?_⟩)
  rcases hr with⟨rfl,ck⟩| ⟨U,iw,M,cy,l⟩
  ·rw[if_neg (by simp)]
   refine fN (fZ (fF rfl (q d (C.length+1) b (by lia) ⟨B.ok,?_,λi=>?_⟩ K λz hz=>(md z hz).2)))
   ·rw[B.sum];lia
   ·rw[B.tq i,F.zero ck];rfl
  ·rw[if_pos (by cases r with|nil=>exact absurd rfl U|cons s r=>rfl)];obtain⟨m1,m2⟩:=zJ (ns:=r.map (at_ L)) (by rintro z;exact U (aRT.mp z));generalize hx:vT (r.map (at_ L))=v at m1 m2;obtain⟨s0,I,P⟩:=fU m1;have hv:0<v:=by rw[<-P];exact(l s0 I).2
   have R:∀s∈r,s∈L.map (·.1)/\v<=at_ L s:=λs g=>⟨(l s g).1,m2 _ (cM g)⟩
   have hva:v<=a:=by
    obtain⟨e,he,rfl⟩:=fU (l s0 I).1;rw[<-P,Cv F.nd he];exact F.BR he
   have F':=F.take iw M R;have nq:(gb v r L).map (·.1)=(fc N f N.m).map (·.1):=by rw[pQ];exact E
   obtain⟨is,i1,i2,i3,i4,i5⟩:=IM (n:=n) (es:=es) r none iw λs g=>S s (by rw[<-E];exact(l s g).1)
   have hpt:=UR F.nd M hv I (l s0 I).1 P;have l1:=mW e1;have l2:=mW K;have l3:=mW J;have k3:(b.set C.length (n9 (gb v r L)))[t]?=some (.l,r.map fi):=by rw[aT (by lia)];exact J
   unfold rM
   refine fJ (kO (fF rfl (eX (jC (mJ (fV (gS (eX (iA (eX ?_))))))))))
   refine fF rfl (eX (fF rfl (fE ⟨rfl,V6 e1 J F.nd F.len U cy (λs g=>(l s g).1) ?_⟩)))
   rw[hx]
   refine fE ⟨by simp[lim],iA (eX (fF rfl (fE ⟨rfl,Wr k3 cy i1 ?_⟩)))⟩
   have zl:is.length<1000:=by
    have u:=E5 (l:=r);rw[i1,aN]at u
    lia
   refine m4 ⟨_,rfl,_,rfl,by simp[lim];lia,fE ⟨_,rfl,by rw[hZ K];rfl,_,hZ (?_ :_=some (Kd.l,d.map λz=>T.cell z.1)),lT ⟨by simp[lim];lia,?_⟩⟩⟩
   ·rw[aW (by rw[cA];exact l2),aT (by lia)];exact K
   generalize D:(b.set C.length (n9 (gb v r L))++[(Kd.l,[T.int v]++is.map λi:Nat=>T.int (i:Int))]).set (C.length+1) (Kd.l,(d.map λz=>T.cell z.1)++[T.cell (b.set C.length (n9 (gb v r L))).length])=o;have lC2:o.length=b.length+1:=by rw[<-D];simp
   have O:∀i,i<b.length->i≠C.length->i≠C.length+1->o[i]?=b[i]?:=λi hi u G=>by
    rw[<-D,aT (Ne.symm G),aW (by rw[cA];exact hi),aT (Ne.symm u)]
   have c1:o[C.length]?=some (n9 (gb v r L)):=by
    rw[<-D,aT (by lia),aW (by rw[cA];exact l1)];exact oQ l1
   have c2:o[C.length+1]?=some (Kd.l,(d++[(b.length,v,is)]).map λz=>T.cell z.1):=by
    rw[<-D,bK (by simp;lia),bN,cA];rfl
   have c3:o[b.length]?=some (u0 (b.length,v,is)):=by
    rw[<-D,aT (by lia),bD (by simp)];simp[u0]
   refine fN (fQ (iA (eX (fF rfl (fE ⟨rfl,Mu F' c1 λr2 wj=>?_⟩)))))
   refine fL ⟨(a - v).toNat,by lia,d++[(b.length,v,is)],gb v r L,a - v,r2,o.length,x,y,rfl,?_,?_,?_,by lia,λz hz=>?_,?_,F',nq,⟨λz hz=>?_,?_,λi=>?_⟩,wj,by lia,by lia⟩
   ·rw[aW (by lia)];exact c1
   ·rw[aW (by lia)];exact c2
   ·simp
   ·rcases fY hz with hz|hz
    ·obtain⟨g1,g2⟩:=md z hz
     refine⟨g1,?_⟩
     rw[aW (by have:=mW g2;lia),O _ (mW g2) (by lia) (by lia)];exact g2
    ·have:z=(b.length,v,is):=by simpa using hz
     subst this
     refine⟨by show C.length+1<b.length;lia,?_⟩
     rw[aW (by show b.length<o.length;lia)];exact c3
   ·rw[bF];simp;lia
   ·rcases fY hz with hz|hz
    ·exact B.ok z hz
    ·have:z=(b.length,v,is):=by simpa using hz
     subst this
     refine⟨by show 1<=v;lia,i4 rfl,i2,i3,λi=>?_⟩
     show is.count i<=1;rw[<-i5 i];exact List.nodup_iff_count.mp M _
   ·rw[bN,aRH,B.sum];simp;lia
   ·rw[bN,aRH,B.tq i,Jw (λs g=>(l s g).1)];have:=i5 i;simp;rw[this];lia
end aI
namespace aI
open PySem L2 TL
variable{i z u b c:Int}{Q:Fl->aD->ab->Prop}
def Nb(n:Int):Prop:=0<=n/\n<2^140
def rB(w:Int×Int×Int):Prop:=0<=w.2.1/\w.2.1<=w.1/\0<=w.2.2/\w.1<2^252/\w.2.2<2^252
def tV(w:Int×Int×Int):Prop:=0<=w.2.1/\w.2.1<=w.1/\0<=w.2.2/\w.1<2^240/\w.2.2<2^240
theorem tV.bd{w:Int×Int×Int}(h:tV w):rB w:=⟨h.1,h.2.1,h.2.2.1,cD h.2.2.2.1 (by decide),cD h.2.2.2.2 (by decide)⟩
theorem FJ{B:FS}{m:Nat}{a:List T}{P:T->Prop}(h:∀Q:Fl->aD->ab->Prop,(∀r d C t,dr 3 C r=some t->P t->Q (.rt r) d C)->wpS B (gp m a) [] Q):∃t,jM B m a=some t/\P t:=
 m8 (h _ λ_ _ _ _ e p=>⟨_,e,p⟩)
theorem hU{a:FE}{i:Nat}{G:FS}{t:T}{d:aD}{C:ab}(h:aC a d C λx f=>x=t/\f=C)(g:wpS G (d.set i (some t)) C Q):wpS (f9 (gR a (gN i)) G) d C Q:=by
 obtain⟨x,f,e,rfl,rfl⟩:=h
 exact fJ (fQ ⟨_,_,e,fL (fN g)⟩)
theorem BK{x y:Int}:∃t∈[x,y,z],dh [T.int x,T.int y,T.int z] (i%3)=some (.int t):=by
 have a:=jJ (x:=i) (m:=3) (by decide);obtain⟨t,d,f⟩:=GG (xs:=[x,y,z]) a.1 a.2
 exact⟨t,d,by rw[show[T.int x,T.int y,T.int z]=[x,y,z].map T.int from rfl,xM,f];rfl⟩
theorem rf{x y:Int}:∃t∈[x,y,z,u],dh [T.int x,T.int y,T.int z,T.int u] (i%4)=some (.int t):=by
 have a:=jJ (x:=i) (m:=4) (by decide);obtain⟨t,d,f⟩:=GG (xs:=[x,y,z,u]) a.1 a.2
 exact⟨t,d,by rw[show[T.int x,T.int y,T.int z,T.int u]=[x,y,z,u].map T.int from rfl,xM,f];rfl⟩
theorem Hq{j k:Int}{a:aD}{C:ab}{F:FS}(h:a[3]?=some (some (.int k)))(f:wpS F a C Q)(d:Q .nx a C):wpS (er (jD (jx Y3 (fC (.int j)))) F jK) a C Q:=
 Gc.mpr (Gx.mpr (GB.mpr (x9.mpr ⟨_,h,Ft.mpr (Gz.mpr ⟨_,rfl,by
  generalize decide (k=j)=q;cases q
  ·exact(if_neg bJ).mpr (gL d)
  ·exact(if_pos rfl).mpr f⟩)⟩)))
theorem Eo{x m:Int}(h:0<m)(a:m<2^100):Nb (x%m):=⟨(jJ h).1,cD (jJ h).2 (cD a (by decide))⟩
theorem Ep{x r:Int}(a:Sm x)(d:0<=u)(f:u<=2^100)(g:0<=r/\r<100):Nb (x*u+r):=by
 have j:0<=x*u:=dQ a.1 d;have h:x*u<=2147483587*2^100:=aTi (eA a.2) f d (by decide);clear a d f
 exact⟨by lia,by lia⟩
theorem MX{x:Int}{q:Bool}(d:Sm x)(f:0<=u)(a:u<=2^100):Nb (x*u*(if q then 1 else 0)):=by
 cases q
 ·exact⟨by simp,by simp⟩
 ·have:=Ep d f a (r:=0) (by decide);simpa using this
theorem MU{l m p:Int}(f:Nb l)(d:Nb m)(a:Nb p):tV (l+m,l,p):=⟨f.1,by show l<=l+m;have:=d.1;lia,a.1,by show l+m<2^240;have:=f.2;have:=d.2;lia,cD a.2 (by decide)⟩
theorem MW:Nb (b%3*(b/3%50)):=by
 have d:=jJ (x:=b) (m:=3) (by decide);have a:=jJ (x:=b/3) (m:=50) (by decide)
 exact⟨dQ d.1 a.1,cU (aTi (eA d.2) (eA a.2) a.1 (by decide)) (by decide)⟩
theorem MV:∃z:Int,dh [T.int 0,T.int 3,T.int 3,T.int (1+c%40)] (c/64%4)=some (.int z)/\Nb z:=by
 obtain⟨t,a,e⟩:=rf (x:=0) (y:=3) (z:=3) (u:=1+c%40) (i:=c/64)
 refine⟨t,e,?_⟩
 have h:=jJ (x:=c) (m:=40) (by decide);have:0<=t/\t<=41:=by
  simp only[bU,b4,or_false]at a;rcases a with rfl|rfl|rfl|rfl
  ·decide
  ·decide
  ·decide
  ·lia
 exact⟨this.1,cU this.2 (by decide)⟩
theorem U5{a k:Int}(r:Sm a)(o:Sm b)(n:Sm c)(j:0<=u)(h:u<=2^100):∃t,uT [.int a,.int b,.int c,.int k,.int u]=some t/\∃w,t=w3 w/\tV w:=by
 refine FJ λQ q=>?_
 unfold Kz
 refine hU ⟨_,_,rfl,rfl,rfl⟩ (hU ⟨_,_,rfl,rfl,rfl⟩ (hU ⟨_,_,rfl,rfl,rfl⟩ ?_))
 have st:∀F:FS,(∀s:Fl->aD->ab->Prop,∀l m p:Int,Nb l->Nb m->Nb p->(∀l m p:Int,Nb l->Nb m->Nb p->s .nx [some (.int a),some (.int b),some (.int c),some (.int k),some (.int u),some (.int l),some (.int m),some (.int p)] [])->wpS F [some (.int a),some (.int b),some (.int c),some (.int k),some (.int u),some (.int l),some (.int m),some (.int p)] [] s)->∀{l m p:Int}{G:FS},Nb l->Nb m->Nb p->(∀l m p:Int,Nb l->Nb m->Nb p->wpS G [some (.int a),some (.int b),some (.int c),some (.int k),some (.int u),some (.int l),some (.int m),some (.int p)] [] Q)->wpS (f9 F G) [some (.int a),some (.int b),some (.int c),some (.int k),some (.int u),some (.int l),some (.int m),some (.int p)] [] Q:=λF e l m p G g f d y=>fJ (e _ l m p g f d λl m p g f d=>fN (y l m p g f d))
 refine st _ (λQ l m p g f d q=>Hq rfl (hU (fD (fD ⟨_,_,rfl,⟨_,_,rfl,f6 ⟨jS (r.bt.mono (by decide)),⟨_,_,rfl,f8 ⟨rfl,rfl⟩⟩⟩⟩⟩)) (hU (fD (fD ⟨_,_,rfl,⟨_,_,rfl,f6 ⟨jS (o.bt.mono (by decide)),⟨_,_,rfl,f6 ⟨?_,rfl,rfl⟩⟩⟩⟩⟩)) (fQ (fD (fD ⟨_,_,rfl,⟨_,_,rfl,f6 ⟨jS (n.bt.mono (by decide)),⟨_,_,rfl,f8 (fL (q _ _ _ (Ep r j h ?_) (MX o j h) (Ep n j h ?_)))⟩⟩⟩⟩))))) (q l m p g f d)) (Eo (by decide) (by decide)) (Eo (by decide) (by decide)) (Eo (by decide) (by decide)) λl m p g f d=>?_
 ·split<;>walk_at "b"
 ·have:=jJ (x:=b) (m:=97) (by decide);exact⟨this.1,cD this.2 (by decide)⟩
 ·have:=jJ (x:=a) (m:=89) (by decide);exact⟨this.1,cD this.2 (by decide)⟩
 obtain⟨z,A,v⟩:=MV (c:=c)
 refine st _ ?_ g f d λl m p g f d=>?_
 ·exact λQ l m p g f d q=>Hq rfl (hU (t:=.int (b%3*(b/3%50))) (fD ⟨_,_,rfl,⟨_,_,rfl,f6 ⟨jS ((Bt.mod (k:=10) (by decide) (by decide)).mono (by decide)),rfl,rfl⟩⟩⟩) (fQ (fD ⟨_,_,rfl,⟨_,_,rfl,gF ⟨_,rfl,_,A,fL (q _ _ _ g MW v)⟩⟩⟩))) (q l m p g f d)
 refine st _ (λQ l m p g f d q=>hX (xQ.mpr (gC (fD (fF rfl (fS (iZ ⟨_,rfl,?_⟩))))))) g f d λl m p g f d=>?_
 ·generalize decide (k=3)=x;cases x
  ·exact(if_neg bJ).mpr ((if_neg bJ).mpr (gL (q l m p g f d)))
  ·refine(if_pos rfl).mpr (gC (fD ⟨_,_,rfl,fS (iZ ⟨_,rfl,?_⟩)⟩))
   generalize decide (a%3=0)=x;cases x
   ·exact(if_neg bJ).mpr (gL (q l m p g f d))
   ·exact(if_pos rfl).mpr (fQ (fS (fL (q 0 m p ⟨by decide,by decide⟩ f d))))
 exact fZ ⟨_,_,rfl,q _ _ _ _ (iH (by walk_at "c")) ⟨(l+m,l,p),rfl,MU g f d⟩⟩
def CK(M:Nat)(t:T):Prop:=∃(a:List (Int×Int×Int))(d:List (Int×Int)),t=.tup [.lst (a.map w3),.lst (d.map pT)]/\a.length<=M/\d.length<=20/\(∀w∈a,tV w)/\∃rs,Rk a.length rs/\∀p∈d,Al rs p
abbrev EA(k:Int):FE:=aA (gT (iN (fB (fC (.int k)) (fB Y3 fP)))) (qX (fB (jw Y3 (fI 1)) fP))
theorem AJ{x y:T}:[x,y].length<=lim:=by show 2<=lim;decide
theorem M6{x y z:T}:[x,y,z].length<=lim:=by show 3<=lim;decide
section
variable {k b d z i:Int}{f:aD}{C:ab}{Q:T->ab->Prop}{QS:Fl->aD->ab->Prop}{G:FS}{n c v:Nat}{ns:List Int}{a:FE}
theorem He(h:f[3]?=some (some (.int b)))(e:dh [T.int k,T.int b] (if decide (1<b)=true then 1 else 0)=some (.int d))(q:Q (.int d) C):aC (EA k) f C Q:=
 fD (fV (gS (eX (fS (eX (fF h (fE ⟨AJ,fK (eX (fD (fF h (fS (f8 (fE (wF.mpr (gF ⟨_,rfl,_,e,q⟩))))))))⟩)))))))
theorem EI(j:f[6]?=some (some (.int z)))(h:f[3]?=some (some (.int b)))(e:dh [T.int k,T.int b] (if decide (1<b)=true then 1 else 0)=some (.int d))(g:0<d)(q:Q (.int (z%d)) C):aC (kH Y6 (EA k)) f C Q:=
 fD (fF j (He h e (f6 ⟨l6 g,q⟩)))
theorem Bj(j:f[6]?=some (some (.int z)))(h:f[3]?=some (some (.int b)))(e:dh [T.int k,T.int b] (if decide (1<b)=true then 1 else 0)=some (.int d))(g:0<d/\d<2^250)(q:Q (.int (z/d)) C):aC (Cs Y6 (EA k)) f C Q:=
 fD (fF j (He h e (f6 ⟨l6 g,q⟩)))
theorem yn(j:f[v]?=some (some (.lst (ns.map T.int))))(h:aC a f C λt l=>t=.int i/\l=C)(g:0<=i)(q:Q (.int (oA ns i)) C):aC (gG 2 iW (fB (k8 v) (fB a fP))) f C Q:=by
 obtain⟨_,_,e,rfl,rfl⟩:=h
 exact fK (eX (fF j (eX ⟨_,_,e,fE ((uZ g).mpr q)⟩)))
theorem C5(h:wpS G (f.set n (some (.cell C.length))) (C++[(.l,[])]) QS):wpS (f9 (gR (jW (iN fP)) (gN n)) G) f C QS:=
 fJ (fQ (jC (gS (fE ⟨by decide,fL (fN h)⟩))))
end
theorem En{i:Nat}:(0:Int)<=0+(i:Int):=by lia
theorem Em{i:Nat}:(0:Int)<0+(i:Int)+1:=by lia
theorem MT{i:Nat}:(0:Int)<=3+(0+(i:Int)):=by lia
theorem M5{x y z u:T}:[x,y,z,u].length<=lim:=by show 4<=lim;decide
theorem Jl{a:List (Int×Int×Int)}{d:List (Int×Int)}:CF (T.tup [.lst (a.map w3),.lst (d.map pT)])=true:=by rw[lE,fW,fW,hJ,gY,gY,nA,kA];rfl
theorem ON{m:Nat}{r:Int}(h:m<=8)(a:0<=r/\r<4): -(2^62)<=(24:Int)/\(24:Int)<2^62/\ -(2^62)<=24+min 14 ((m:Int)+r)/\24+min 14 ((m:Int)+r)<2^62:=by lia
theorem OW(z:Int):(24+min 14 z - 24).toNat<=20:=by lia
theorem Pt{i:Nat}{z:Int}(h:i<(24+min 14 z - 24).toNat):i<14:=by lia
theorem Ag{p:Prop}[Decidable p]{y k:Int}(f:0<=k)(d:k<1+y):∃a:Int,(if p then 1+y - 1 - k else k)=a/\0<=a/\a<1+y:=⟨_,rfl,by split<;>lia⟩
theorem Ex{i:Nat}{x:Int}(h:i<14)(a:0<=x/\x<(i:Int)+1): -(2^63)<=x/\x<2^63:=by lia
theorem BY{i:Nat}{x:Int}(h:i<5)(a:0<=x/\x<0+(i:Int)+1): -(2^63)<=x/\x<2^63:=by lia
theorem r4{m:Nat}(h:m<=5): -(2^62)<=(m:Int)/\(m:Int)<2^62:=by lia
theorem D7{x y z d e:Int}(f:0<=x/\x<d)(j:0<=y/\y<e)(a:0<=z/\z<d)(h:d<2^200)(g:e<2^200):tV (x+y,x,z):=
 ⟨f.1,by show x<=x+y;lia,a.1,by show x+y<2^240;lia,by show z<2^240;lia⟩
theorem ny{d:Type}{xs:List d}{y:d}{p:d->Prop}(h:∀x∈xs,p x)(f:p y):∀x∈xs++[y],p x:=λx a=>by
 rcases fY a with a|a
 ·exact h x a
 ·rw[gJ a];exact f
theorem DO{a d:Type}{xs:List a}{f:a->d}{k:Nat}(h:xs.length<=k)(g:k<lim):(xs.map f).length<lim:=by rw[aN];lia
theorem Vk{ns:List Int}{m M:Nat}{u:Int}(lz:0<u)(hu:u<=10^20)(s:m<=5)(hM:m<=M):∃t,qQ [.lst (ns.map T.int),.int m,.int u]=some t/\CK M t:=by
 obtain⟨b,Y,L,N⟩:∃b:Int,(if oA ns 1/576%2=0 then(1:Int)else u*10^eU 9)=b/\0<b/\b<2^200:=by
  refine⟨_,rfl,?_⟩
  clear s hM;split
  ·decide
  ·rw[show(10:Int)^eU 9=1000000000 from rfl];lia
 have l:∀k:Int,0<k->k<10->∃d:Int,dh [T.int k,T.int b] (if decide (1<b)=true then 1 else 0)=some (.int d)/\0<d/\d<2^200:=by
  intro k h1 h2;split
  ·exact⟨b,rfl,L,N⟩
  ·exact⟨k,rfl,h1,cD h2 (by decide)⟩
 obtain⟨d5,J,D,B⟩:=l 5 (by decide) (by decide);obtain⟨d6,R,I,A⟩:=l 6 (by decide) (by decide);have X:d5<2^250:=cD B (by decide);have U:d6<2^250:=cD A (by decide);clear l L N
 refine FJ λQ q=>?_
 unfold zC
 refine hU (t:=.int b) (fD (fV (gS (eX (fS (eX (fD (fF rfl ⟨.int (10^eU 9),_,rfl,(f6 ⟨kB (Bt.of_lt (by decide) (by decide)),fE ⟨AJ,fD (fD (yn rfl ⟨_,_,rfl,rfl,rfl⟩ (by decide) (fS (f6 ⟨by decide,fS (f6 ⟨by decide,gF ⟨_,rfl,_,LV,congrArg T.int Y,rfl⟩⟩)⟩))))⟩⟩)⟩)))))))) ?_
 refine C5 (fJ (kI (fF rfl ⟨_,rfl,r4 s,vA (λi g C=>∃a1 a2 d e:Option T,g=[some (.lst (ns.map T.int)),some (.int m),some (.int u),some (.int b),some (.cell 0),a1,a2,d,e,none,none,none]/\∃h:List (Int×Int×Int),C=[(.l,h.map w3)]/\h.length=i/\∀w∈h,tV w) ⟨_,_,_,_,rfl,[],rfl,rfl,by simp⟩ ?_ ?_⟩)))
 ·rintro i g C P ⟨_,_,_,_,rfl,h,rfl,G,K⟩ Q q;unfold uE
  refine fL (hU (yn rfl ⟨_,_,rfl,rfl,rfl⟩ MT ⟨rfl,rfl⟩) ?_)
  generalize oA ns _=z
  refine hU (EI rfl rfl J D ⟨rfl,rfl⟩) (hU (Bj rfl rfl J ⟨D,X⟩ ⟨rfl,rfl⟩) (hU (EI rfl rfl R I ⟨rfl,rfl⟩) (hU (Bj rfl rfl R ⟨I,U⟩ ⟨rfl,rfl⟩) (kO (fF rfl (eX (fV (gS (eX (fD (fF rfl (fF rfl (f8 (eX (fF rfl (eX (EI rfl rfl J D (fE ⟨M6,?_⟩))))))))))))))))))
  exact fE ⟨0,rfl,rfl,_,rfl,lT ⟨DO (k:=5) (by lia) (by decide),q _ _ trivial ⟨_,_,_,_,rfl,_,congrArg (λx=>[(Kd.l,x)]) RG,by rw[bF,G];rfl,ny K (D7 (jJ D) (jJ I) (jJ D) B A)⟩⟩⟩
 rintro g C ⟨_,_,_,_,rfl,h,rfl,G,K⟩
 refine fN (hU (yn rfl ⟨_,_,rfl,rfl,rfl⟩ (by decide) ⟨rfl,rfl⟩) (C5 (fJ (kI (fF rfl ⟨_,rfl,r4 s,vA (λi g C=>∃(a F d:Option T)(z:Int),g=[some (.lst (ns.map T.int)),some (.int m),some (.int u),some (.int b),some (.cell 0),a,some (.int z),F,d,some (.cell 1),none,none]/\∃rs:List Int,C=[(.l,h.map w3),(.l,rs.map T.int)]/\Rk i rs) ⟨_,_,_,_,rfl,[],rfl,⟨rfl,.nil,by simp⟩⟩ ?_ ?_⟩)))))
 ·rintro i g C P ⟨_,_,_,z,rfl,rs,rfl,r⟩ Q q;have Z:=BY (bL P (by simpa using s)) (jJ (x:=z) (Em (i:=i)));unfold uJ
  refine fL (fJ (kO (fF rfl (eX (fD (fF rfl ⟨_,_,rfl,f6 ⟨l6 Em,eX (fF rfl (fE ⟨1,rfl,rfl,_,rfl,GN.mpr ⟨⟨DO (k:=5) (by rw[r.len];lia) (by decide),Z⟩,fN (fQ (fD (fF rfl ⟨_,_,rfl,f6 ⟨l6 ⟨Em,?_⟩,fL ?_⟩⟩)))⟩⟩))⟩⟩))))))
  ·show(0:Int)+i+1<2^250;lia
  ·exact q _ _ trivial ⟨_,_,_,_,rfl,cc rs _ (i:Int),by show[(Kd.l,h.map w3),(Kd.l,cc (rs.map T.int) _ (T.int (0+(i:Int))))]=_;rw[dF,vO],r.ins⟩
 rintro g C ⟨_,_,_,z,rfl,rs,rfl,r⟩
 refine fN (C5 (fJ (kI (fF rfl ⟨_,rfl,r4 s,vA (λi g C=>∃(a F d e:Option T)(z:Int),g=[some (.lst (ns.map T.int)),some (.int m),some (.int u),some (.int b),some (.cell 0),a,some (.int z),F,d,some (.cell 1),some (.cell 2),e]/\∃f:List (Int×Int),C=[(.l,h.map w3),(.l,rs.map T.int),(.l,f.map pT)]/\f.length<=i*4/\∀p∈f,Al rs p) ⟨_,_,_,_,_,rfl,[],rfl,by simp,by simp⟩ ?_ ?_⟩))))
 ·rintro k g C O ⟨_,_,_,_,z,rfl,f,rfl,n,o⟩ Q q;have O:k<m:=by simpa using O
  have ag:rs.length=m:=by simpa using r.len
  unfold uF
  refine fL (j4 (fV (F6.mpr (fF rfl (F7.mpr (yN.mpr (fF rfl ⟨_,rfl,_,rfl,_,rfl,?_⟩)))))))
  rw[GW,Ru En,show(0+(k:Int)).toNat=k by lia]
  refine Tj (λj g C=>∃(F d e:Option T)(z:Int),g=[some (.lst (ns.map T.int)),some (.int m),some (.int u),some (.int b),some (.cell 0),some (.int (0+(k:Int))),some (.int z),F,d,some (.cell 1),some (.cell 2),e]/\∃f:List (Int×Int),C=[(.l,h.map w3),(.l,rs.map T.int),(.l,f.map pT)]/\f.length<=k*4+j/\∀p∈f,Al rs p) ⟨_,_,_,_,rfl,f,rfl,n,o⟩ ?_ ?_
  ·rintro j x g C E ⟨_,_,_,z,rfl,f,rfl,n,o⟩ Q q;obtain⟨H,v⟩:=fA E;have S:j<k:=by rw[c8]at H;lia
   rw[List.getElem_take]at v;have e1:=Ax (ns:=rs) (i:=0+(k:Int)) En (by lia);unfold uV
   refine fL (fJ (hX (gC (fD ⟨_,_,rfl,fS (iZ ⟨_,rfl,?_⟩)⟩))))
   generalize decide (z%2=1)=b2;cases b2
   ·exact(if_neg bJ).mpr (gL (fN (fQ ⟨_,_,rfl,fL (q _ _ trivial ⟨_,_,_,_,rfl,f,rfl,aR7 n,o⟩)⟩)))
   ·refine(if_pos rfl).mpr (kO (fF rfl (eX (fV (gS (eX (fF rfl (eX (fD (fF rfl (fF rfl (gF ⟨_,rfl,_,e1,fE ⟨AJ,fE ⟨2,rfl,rfl,_,rfl,lT ⟨DO (k:=30) (by lia) (by decide),fN (fQ ⟨_,_,rfl,fL (q _ _ trivial ⟨_,_,_,_,rfl,_,?_,?_,ny o (y:=(x,rs[(0+(k:Int)).toNat])) ?_⟩)⟩)⟩⟩⟩⟩))))))))))))
    ·exact congrArg (λy=>[(Kd.l,h.map w3),(Kd.l,rs.map T.int),(Kd.l,y)]) Rg
    ·rw[bF];exact aS6 n
    ·exact⟨j,k,S,by rw[<-v];exact aO (by lia),by rw[aO (by lia)];congr 2;lia⟩
  ·rintro g C ⟨_,_,_,z,rfl,f,rfl,n,o⟩
   exact q _ _ trivial ⟨_,_,_,_,_,rfl,f,rfl,by rw[c8]at n;lia,o⟩
 rintro g C ⟨_,_,_,_,z,rfl,f,rfl,n,o⟩;simp only[cB]at n r G
 exact fZ (mL (eX (fF rfl (eX (fF rfl (fE ⟨AJ,q _ _ _ _ (PU (us:=[.lst (h.map w3),.lst (f.map pT)]) (iC (yA rfl nA) (iC (KL rfl) rfl))) ⟨h,f,rfl,by lia,by lia,K,rs,by rw[G];exact r,o⟩⟩))))))
theorem Bz{m:Nat}(h:m<=8):(m:Int)<400000/\ -(2^62)<=(m:Int):=by lia
theorem Ny{M:Nat}{a z f d:Int}(r:4<=M)(k:0<=a/\a<min 6 ((M:Int)+1))(j:z∈[(0:Int),0,1,2])(l:d∈[a,(M:Int) - z,a,min (M:Int) (3+f%3)]):∃m:Nat,d=m/\m<=M:=by
 have n:a<=M:=by have:=aR0 k.2 (Int.min_le_right _ _);lia
 have o:=k.1;have p:=(jJ (x:=f) (m:=3) (by decide)).1;have g:0<=z/\z<=2:=by
  simp only[bU,b4,or_false]at j;rcases j with rfl|rfl|rfl|rfl<;>decide
 clear k j;have q:0<=d/\d<=M:=by
  simp only[bU,b4,or_false]at l;rcases l with h|h|h|h
  ·rw[h];exact⟨o,n⟩
  ·rw[h];exact⟨by lia,by lia⟩
  ·rw[h];exact⟨o,n⟩
  ·rw[h];exact⟨Int.le_min.mpr ⟨by lia,by lia⟩,aTd _ _⟩
 clear l g p o n
 exact⟨d.toNat,by lia,by lia⟩
section
variable {k b d z i x:Int}{f:aD}{C:ab}{Q:T->ab->Prop}{g:List T}{a:Nat}{f1 f2:FE}
theorem Cg{m:Int}(h:f[a]?=some (some (.int x)))(l:0<k/\k<1073741824)(j:0<m)(q:Q (.int (x/k%m)) C):aC (kH (rC (k8 a) (fC (.int k))) (fC (.int m))) f C Q:=
 fD (fD (fF h (fS (f6 ⟨l6 l,fS (f6 ⟨l6 j,q⟩)⟩))))
theorem Ck(l:aC f1 f C λt h=>t=.int x/\h=C)(j:aC f2 f C λt h=>t=.int d/\h=C)(q:Q (.int (min x d)) C):aC (tM (fB f1 (fB f2 fP))) f C Q:=by
 obtain⟨_,_,n,rfl,rfl⟩:=l;obtain⟨_,_,m,rfl,rfl⟩:=j
 exact fK (eX ⟨_,_,n,eX ⟨_,_,m,fE (GT.mpr q)⟩⟩)
theorem Ah{j:Nat}{t:T}(h:f[a]?=some (some (.lst g)))(l:f[j]?=some (some (.int i)))(e:dh g i=some t)(q:Q t C):aC (aA (k8 a) (k8 j)) f C Q:=
 fD (fF h (fF l (gF ⟨_,rfl,_,e,q⟩)))
end
theorem QV{ns:List Int}(hl:ns.length<=63){M:Nat}(h4:4<=M)(h8:M<=8){u:Int}(E:0<u)(hu:u<=10^20):∃t,Ba [.lst (ns.map T.int),.int M,.int u]=some t/\CK M t:=by
 obtain⟨_,e1,xs,rfl,ki,ef⟩:=WK hl;have n:∀{C Q},aJ (jZ 1 oZ [.lst (ns.map T.int)] C) Q↔Q (.lst (xs.map T.int)) C:=f7 e1 rfl (by walk_at "c");have g:∀i:Int,0<=i->i<40->∃x,dh (xs.map T.int) i=some (.int x)/\Sm x:=λi G h2=>⟨_,Ax G (by rw[ki];exact h2),ef _ (c9 _)⟩
 clear hl ki ef e1
 refine FJ λQ q=>?_
 unfold Ic
 refine hU (fK (eX (fF rfl (fE (n.mpr ⟨rfl,rfl⟩))))) (hU (yn rfl ⟨_,_,rfl,rfl,rfl⟩ (by decide) ⟨rfl,rfl⟩) ?_)
 generalize oA ns 0=first
 have h6:0<min 6 ((M:Int)+1):=aTE.mpr ⟨by decide,by lia⟩;have S:=jJ (x:=first/4) h6
 refine hU (fD (fD (fF rfl (fS (f6 ⟨by decide,Ck ⟨_,_,rfl,rfl,rfl⟩ ⟨_,_,rfl,rfl,rfl⟩ (f6 ⟨l6 h6,rfl,rfl⟩)⟩))))) ?_
 generalize first/4%min 6 ((M:Int)+1)=s at S
 obtain⟨z,hz,v⟩:=rf (x:=0) (y:=0) (z:=1) (u:=2) (i:=first/4);obtain⟨mi,D,em⟩:=rf (x:=s) (y:=(M:Int) - z) (z:=s) (u:=min (M:Int) (3+first/4%3)) (i:=first);obtain⟨m,rfl,hm⟩:=Ny h4 S hz D;clear hz D S h6;have R:m<=8:=bV hm h8
 refine hU (t:=.int m) (fD (fV (gS (eX (fF rfl (eX (fD (fF rfl (fD ⟨_,_,rfl,Cg rfl (by decide) (by decide) (gF ⟨_,rfl,_,v,f8 (eX (fF rfl (eX (Ck ⟨_,_,rfl,rfl,rfl⟩ ⟨_,_,rfl,rfl,rfl⟩ (fE ⟨M5,fD (fF rfl (fS (f6 ⟨by decide,gF ⟨_,rfl,_,em,rfl,rfl⟩⟩)))⟩)))))⟩)⟩))))))))) (hU (yn rfl ⟨_,_,rfl,rfl,rfl⟩ (by decide) ⟨rfl,rfl⟩) ?_)
 generalize oA ns 1=c;clear v em
 refine fJ (hX (gC (fD (Cg rfl (by decide) (by decide) (fS (iZ ⟨_,rfl,?_⟩))))))
 generalize decide (c/288%2=1)=bb;cases bb
 rotate_left
 ·obtain⟨k5,I,hk5⟩:∃k:Int,dh [T.int 5,T.int 3] (if decide ((M:Int)<5)=true then 1 else 0)=some (.int k)/\0<=k/\k<=5:=by
   split
   ·exact⟨3,rfl,by decide⟩
   ·exact⟨5,rfl,by decide⟩
  obtain⟨j,hj,hj5,wu⟩:∃j:Nat,min (m:Int) k5=j/\j<=5/\j<=M:=by
   clear E hu h4 h8 R n g I
   exact⟨(min (m:Int) k5).toNat,by lia,by lia,by lia⟩
  obtain⟨t,et,ws,ps,rfl,ht⟩:=Vk (ns:=ns) E hu hj5 wu;rw[<-hj]at et
  refine(if_pos rfl).mpr (fZ (fK (eX (fF rfl (eX (Ck (d:=k5) ⟨_,_,rfl,rfl,rfl⟩ (fD ⟨_,_,rfl,⟨_,_,rfl,gF ⟨_,rfl,_,I,rfl,rfl⟩⟩⟩) (eX (fF rfl (fE ((f7 (n:=3) et rfl (by walk_at "c")).mpr ?_))))))))))
  exact q _ _ _ _ (iH Jl) ⟨ws,ps,rfl,ht⟩
 refine(if_neg bJ).mpr (gL (fN ?_))
 have F:∀i:Nat,∃w:Int×Int×Int,i<m->(∃x y z:Int,dh (xs.map T.int) (0+(i:Int))=some (.int x)/\dh (xs.map T.int) (8+(0+(i:Int)))=some (.int y)/\dh (xs.map T.int) (16+(0+(i:Int)))=some (.int z)/\uT [.int x,.int y,.int z,.int (c%4),.int u]=some (w3 w))/\tV w:=by
  intro i;by_cases l:i<m
  ·obtain⟨x,ex,Y⟩:=g (0+(i:Int)) En (by clear n g;lia);obtain⟨y,ey,sy⟩:=g (8+(0+(i:Int))) (by lia) (by clear n g;lia);obtain⟨z,v,sz⟩:=g (16+(0+(i:Int))) (by lia) (by clear n g;lia);obtain⟨_,ew,w,rfl,K⟩:=U5 (k:=c%4) (u:=u) Y sy sz (eA E) (cL hu (by decide))
   exact⟨w,λ_=>⟨⟨x,y,z,ex,ey,v,ew⟩,K⟩⟩
  ·exact⟨(0,0,0),λh=>absurd h l⟩
 obtain⟨f,hf⟩:=aTo F;obtain⟨U,H,_⟩:=g 39 (by decide) (by decide);obtain⟨_,en,rs,rfl,eh⟩:=Ua (c:=U) (m:=m) (by lia);have ag:=eh.len
 refine hU (t:=.lst (((bH m).map f).map w3)) (fV (qS.mpr (fF rfl ⟨_,rfl,Bz R,?_⟩))) ?_
 ·rw[pX,cB]
  refine iG (λi=>w3 (f i)) (λi l=>?_) ⟨by rw[bR];rfl,rfl⟩
  obtain⟨⟨x,y,z,ex,ey,v,ew⟩,K⟩:=hf i (iY l)
  exact fL (fK (eX (Ah rfl rfl ex (eX (fD (fF rfl ⟨_,_,rfl,gF ⟨_,rfl,_,ey,eX (fD (fF rfl ⟨_,_,rfl,gF ⟨_,rfl,_,v,eX ⟨_,_,rfl,eX (fF rfl (fE ((f7 (n:=5) ew rfl (by walk_at "c")).mpr ⟨rfl,rfl⟩)))⟩⟩⟩))⟩⟩))))))
 have L:∀w∈(bH m).map f,tV w:=λw K=>by
  obtain⟨i,l,rfl⟩:=fU K
  exact(hf i (iY l)).2
 have iu:((bH m).map f).length=m:=by rw[aN,eL]
 generalize (bH m).map f=ws at L iu;clear hf F;have q4:=jJ (x:=c/4) (m:=4) (by decide)
 refine hU (fK (eX (fD (fF rfl (fS (gF ⟨_,rfl,_,H,eX (fF rfl (fE ((f7 (n:=2) en rfl (by walk_at "c")).mpr ⟨rfl,rfl⟩)))⟩)))))) (C5 (fJ (LX.mpr ?_)))
 refine⟨_,_,rfl,fD (fS (Ck (d:=(m:Int)+c/4%4) ⟨_,_,rfl,rfl,rfl⟩ ⟨_,_,rfl,rfl,rfl⟩ (f8 ⟨_,_,rfl,rfl,ON R q4,vA (λi O C=>∃(a b d e:Option T),O=[some (.lst (ns.map T.int)),some (.int M),some (.int u),some (.lst (xs.map T.int)),some (.int first),some (.int s),some (.int m),some (.int c),some (.lst (ws.map w3)),some (.lst (rs.map T.int)),some (.cell 0),a,b,d,e]/\∃ps:List (Int×Int),C=[(.l,ps.map pT)]/\ps.length<=i/\∀p∈ps,Al rs p) ⟨_,_,_,_,rfl,[],rfl,by simp,by simp⟩ ?_ ?_⟩)))⟩
 ·rintro i O C l ⟨_,_,_,_,rfl,ps,rfl,A,B⟩ Q q;have um:i<14:=Pt l;obtain⟨x,ex,Y⟩:=g (24+(i:Int)) (by lia) (by clear g n B L;lia);clear g n L Y l;unfold JY
  refine fL (hX (gC ⟨_,_,rfl,_,rfl,?_⟩))
  by_cases G:(1:Int)<m
  rotate_left
  ·rw[decide_eq_false G]
   exact(if_neg bJ).mpr (gL (q _ _ trivial ⟨_,_,_,_,rfl,ps,rfl,aR7 A,B⟩))
  rw[l6 G];have X:0<(m:Int) - 1:=Int.sub_pos_of_lt G;have b1:=jJ (x:=x) X
  refine(if_pos rfl).mpr (hU (fD (fS (fD (Ah rfl rfl ex ⟨_,_,rfl,f6 ⟨l6 X,f8 ⟨rfl,rfl⟩⟩⟩)))) ?_)
  generalize x%((m:Int) - 1)=y at b1;obtain⟨e3,P,J⟩:=BK (x:=1) (y:=2) (z:=8) (i:=c/16);have Z:0<min (1+y) e3:=aTE.mpr ⟨aSD b1.1 |> λh=>by rw[Int.add_comm];exact h,by
   simp only[bU,b4,or_false]at P;rcases P with rfl|rfl|rfl<;>decide⟩
  have N:=jJ (x:=x/16) Z
  refine hU (fD (fD (Ah rfl rfl ex (fS (f6 ⟨by decide,Ck (d:=e3) ⟨_,_,rfl,rfl,rfl⟩ (fD ⟨_,_,rfl,Cg rfl (by decide) (by decide) (gF ⟨_,rfl,_,J,rfl,rfl⟩)⟩) (f6 ⟨l6 Z,rfl,rfl⟩)⟩))))) ?_
  generalize x/16%min (1+y) e3=bk at N;have xa:bk<1+y:=aR0 N.2 (aTd _ _);have uw:=N.1;clear N Z P J X;obtain⟨o,il,h0,bh⟩:∃o:Int,(if c/48%2=0 then 1+y - 1 - bk else bk)=o/\0<=o/\o<1+y:=Ag uw xa
  refine hU (t:=.int o) (fD ⟨_,_,rfl,Cg rfl (by decide) (by decide) (gF ⟨_,rfl,_,LV,congrArg T.int il,rfl⟩)⟩) ?_
  clear il uw xa;have hy:1+y<rs.length:=by rw[ag];clear B A um h0 bh;lia
  have jq:0<(ps.length:Int)+1:=aSD (aSL _);have b3:=jJ (x:=x/256) jq;have hq:=Ex (dP A um) b3
  refine kO (fF rfl (eX (fD (fD (Ah rfl rfl ex (fS (f6 ⟨by decide,fD (fK (eX (fF rfl (fE (kL ⟨_,rfl,fS (f8 (f6 ⟨?_,?_⟩))⟩)))))⟩)))))))
  ·rw[aN];exact l6 jq
  rw[aN];generalize x/256%((ps.length:Int)+1)=at9 at b3 hq
  refine eX (fV (gS (eX (Ah rfl rfl (Ax (ns:=rs) h0 (cD bh hy)) (eX (Ah rfl rfl (Ax (ns:=rs) (cL h0 (eA bh)) hy) (fE ⟨AJ,fE ⟨0,rfl,rfl,_,rfl,GN.mpr ⟨⟨DO (k:=14) (by lia) (by decide),hq⟩,q _ _ trivial ⟨_,_,_,_,rfl,cc ps at9 (rs[o.toNat]'(by lia),rs[(1+y).toNat]'(by lia)),congrArg (λy=>[(Kd.l,y)]) (vO (f:=pT) (y:=(_,_))),by rw[zH];exact aS6 A,λp r=>?_⟩⟩⟩⟩)))))))
  rcases fR (wK.mem_iff.mp r)with r|r
  ·rw[r]
   exact⟨o.toNat,(1+y).toNat,by clear hy;lia,aO (by lia),aO (by lia)⟩
  ·exact B p r
 ·rintro O C ⟨_,_,_,_,rfl,ps,rfl,A,B⟩;have wy:(tA ps (some (c/96%3)) none).length<=20:=bV Uu (bV A (OW _))
  refine fN (fZ (mL (eX (fF rfl (eX (fV (F6.mpr (fF rfl (yN.mpr (Cg rfl (by decide) (by decide) ⟨_,rfl,F7.mpr ⟨_,rfl,fE ⟨AJ,?_⟩⟩⟩))))))))))
  rw[GW]
  exact q _ _ _ _ (iH Jl) ⟨ws,_,rfl,by rw[iu];exact hm,wy,L,rs,by rw[iu];exact eh,λp r=>B p (TX r)⟩
end aI
namespace aI
open PySem L2 TL NF
variable{ws:List (Int×Int×Int)}{ps:List (Int×Int)}{nd:List (List Int)}{bonus:Int}
theorem Kn{a:Type}{g:a->Int}{d:a}{ws:List a}:∀{k:Nat},k<=ws.length->sm k (λi=>g ((ws[i]?).getD d))=((ws.take k).map g).sum
 |0,_=>by simp[sm]
 |k+1,b=>by
  have ih:=Kn (g:=g) (d:=d) (ws:=ws) (k:=k) (by lia);show sm k _+g ((ws[k]?).getD d)=_;rw[ih,eQ,aO (by lia),dD,bN,aRH];simp
theorem JI{a:Type}{g:a->Int}{d:a}{ws:List a}:sm ws.length (λi=>g ((ws[i]?).getD d))=(ws.map g).sum:=by rw[Kn (bE _),cO]
theorem KS{n:Nat}{x:Int}:sm n (λ_=>x)=n*x:=by
 induction n with
 |zero=>simp[sm]
 |succ n ih=>show sm n _+x=_;rw[ih,aS4,d0,aSb]
theorem pZ{P:Int×Int×Int->Prop}(h:∀w∈ws,P w){i:Nat}(a:i<ws.length):P ((ws[i]?).getD (0,0,0)):=by
 rw[aO a]
 exact h _ (c9 a)
theorem A3{m:Nat}(f:ji m ps)(h:Nd ps m nd){e:Nat×Nat}(g:e∈j7 0 nd):((e.1:Int),(e.2:Int))∈ps/\e.1<m/\e.2<m:=by
 obtain⟨b,l,a,d,i,rfl⟩:=TY g;have c:=((h.2 b l d).2 a).mp i;have:=f _ c
 refine⟨?_,by show a.toNat<m;have:=this.1;dsimp only at this;lia,by show 0+b<m;have:=(fA d).1;rw[h.1]at this;lia⟩
 show((a.toNat:Int),((0+b:Nat):Int))∈ps;rw[dX,bG this.1.1];exact c
theorem DB{m:Nat}(b:ji m ps)(h:Nd ps m nd){p:Int×Int}(a:p∈ps):(p.1.toNat,p.2.toNat)∈j7 0 nd:=by
 have:=b p a;have c:p.2.toNat<nd.length:=by rw[h.1];lia
 have e:=aO c
 refine Rq e (((h.2 _ _ e).2 p.1).mpr ?_)
 rw[bG this.2.1];exact a
theorem Rm{m:Nat}{o:List Int}(t:u1 ps m o):∃r:Nat->Int,(∀i,i<m->0<=r i/\r i<m)/\∀a b:Nat,((a:Int),(b:Int))∈ps->b<m->r a<r b:=by
 refine⟨λi=>(o.idxOf (i:Int):Int),λi c=>⟨aSL _,?_⟩,λa b h j=>?_⟩
 ·have:=aRU (t.all i c);rw[t.len]at this;show((o.idxOf (i:Int):Nat):Int)<m
  lia
 ·have d:=aRU (t.all b j);have g:o[o.idxOf (b:Int)]?=some (b:Int):=by
   rw[aO d,List.getElem_idxOf]
  have k:=t.top _ _ g _ h;obtain⟨i,c⟩:=fT k;have f:=(fA c).1;rw[c8]at f;rw[List.getElem?_take,if_pos (by lia)]at c;obtain⟨n,l⟩:=fA c;have:o.idxOf (a:Int)=i:=by rw[<-l];exact t.nd.idxOf_getElem i n
  show((o.idxOf (a:Int):Nat):Int)<((o.idxOf (b:Int):Nat):Int)
  lia
structure gf(ws:List (Int×Int×Int))(ps:List (Int×Int))(nd:List (List Int)):Prop where
 l8:ws.length<=8
 pl:ps.length<=1000
 gc:ji ws.length ps
 qh:tp ps
 oD:Nd ps ws.length nd
 need:iS [.int ws.length,.lst (ps.map pT)]=some (.lst (nd.map iT))
 ok:∀w∈ws,rB w
theorem gf.ex(g:ws.length<=8)(b:ps.length<=1000)(a:ji ws.length ps)(f:tp ps)(d:∀w∈ws,rB w):∃nd,gf ws ps nd:=by
 obtain⟨_,e,nd,rfl,c⟩:=vX (by lia) b a
 exact⟨nd,g,b,a,f,c,e,d⟩
theorem gf.rank(G:gf ws ps nd):∃r:Nat->Int,(∀i,i<ws.length->0<=r i/\r i<ws.length)/\∀e∈j7 0 nd,r e.1<r e.2:=by
 obtain⟨_,_,o,_,b,f⟩:=pS G.l8 G.pl G.gc G.qh;obtain⟨r,d,c⟩:=Rm (f.qj b)
 exact⟨r,d,λe a=>c _ _ (A3 G.gc G.oD a).1 (A3 G.gc G.oD a).2.2⟩
theorem gf.price:sm ws.length (gM ws).p=plenty ws bonus - bonus - 1:=by
 show sm ws.length (λi=>((ws[i]?).getD (0,0,0)).2.2)=_;rw[JI (g:=λw:Int×Int×Int=>w.2.2)];unfold plenty;lia
theorem gf.sP(G:gf ws ps nd):sm ws.length (gM ws).p<=8*2^252:=by
 have b:sm ws.length (gM ws).p<=sm ws.length λ_=>2^252:=wP λi a=>eA (pZ (P:=rB) G.ok a).2.2.2.2
 rw[KS]at b;have c:(ws.length:Int)*2^252<=8*2^252:=cP (by have:=G.l8;lia) (by decide)
 lia
theorem gf.AH(G:gf ws ps nd)(a:0<=bonus):yu (gM ws) ws.length (j7 0 nd) (plenty ws bonus):=by
 refine⟨G.l8,?_,λe f=>(A3 G.gc G.oD f).2,G.rank,λi d=>(pZ G.ok d).1,?_,?_⟩
 ·have:=Lo (nd:=nd) (z:=1000) (λl c=>?_) (s:=0)
  ·rw[G.oD.1]at this;have h:ws.length*1000<=8*1000:=aSC _ G.l8;have g:=G.l8;show 4*ws.length+(j7 0 nd).length<40000
   lia
  ·obtain⟨b,a⟩:=fT c
   exact bV (G.oD.2 b l a).1 G.pl
 ·rw[gf.price (bonus:=bonus)];lia
 ·exact cU G.sP (by decide)
theorem gf.Eb(G:gf ws ps nd){bs:List Int}(b:cu ps (ws.map (·.2.1)) bs):yv ws.length (j7 0 nd) (kS 0 (br bs (ws.map (·.2.1)))) (λi=>bw bs i) (gM ws).l:=by
 have c:∀i:Nat,i<ws.length->bw (ws.map (·.2.1)) i=(gM ws).l i:=λi a=>by
  rw[nU (by simpa using a)];show _=((ws[i]?).getD (0,0,0)).2.1;rw[aO a];simp
 refine⟨λi _=>b.pos _,λi a=>?_,λx d=>?_⟩
 ·rw[<-c i a]
  exact xR ((oK b.len).mpr ⟨i,by simpa using a,rfl⟩)
 ·obtain⟨g,f,h⟩:=A3 G.gc G.oD d;rw[<-c x.1 f]
  exact b.ge _ g
end aI
namespace aI
open PySem L2 TL NF
variable{g:List (Int×Int×Int)}{m:List (Int×Int)}{nd:List (List Int)}{hs bs:List Int}{e P:Int}{s:Nat->Int}{Q:T->ab->Prop}{w:Wk}{l:List (Nat×Nat)}
theorem gf.Ea(G:gf g m nd)(a:cu m hs bs)(c:hs.length=g.length):yv g.length (j7 0 nd) (kS 0 (br bs hs)) (λi=>bw bs i) (λi=>bw hs i):=by
 refine⟨λi _=>a.pos _,λi d=>?_,λx b=>?_⟩
 ·exact xR ((oK a.len).mpr ⟨i,by rw[c];exact d,rfl⟩)
 ·exact a.ge _ (A3 G.gc G.oD b).1
theorem gf.fst(G:gf g m nd)(q:cu m hs bs)(o:hs.length=g.length){B:Nat->Int}(v:0<=e)(A:∀i,i<g.length->0<=B i)(hB:∀p∈m,B p.1.toNat+bw hs p.1<=B p.2.toNat)(x:∀i:Nat,i<g.length->B i+bw hs i<=e):kS 0 (br bs hs)<=e:=by
 obtain⟨r,t,z⟩:=G.rank;have key:∀(k:Nat)(i:Nat),i<g.length->r i<k->bw bs i<=B i:=λk=>by
  induction k with
  |zero=>intro i c u;have:=t i c;lia
  |succ k ih=>
   intro i c u;have:=A i c;rcases q.Hw i (by rw[o];exact c)with h| ⟨a,d,h⟩
   ·lia
   ·have j:=z _ (DB G.gc G.oD d);have n:=(G.gc _ d).1;have f:=hB _ d;dsimp only at n j f;rw[cB]at j f;have y:=ih a.toNat (by lia) (by lia);rw[bG n.1]at y
    lia
 rcases sF (d:=0) (ns:=br bs hs)with⟨_,h⟩|h
 ·rw[h];exact v
 ·obtain⟨w,b,e⟩:=(oK q.len).mp h;rw[o]at b;have j:=key (r w+1).toNat w b (by have:=t w b;lia);have f:=x w b
  lia
theorem gf.sv(G:gf g m nd)(q:cu m hs bs)(o:hs.length=g.length){M:Int}(b:0<=M)(f:∀i:Nat,i<g.length->0<=bw hs i/\bw hs i<=M):kS 0 (br bs hs)<=8*M:=by
 obtain⟨r,k,t⟩:=G.rank;have u:=G.l8
 refine G.fst q o (B:=λi=>r i*M) (by lia) (λi a=>dQ (k i a).1 b) (λp d=>?_) λi a=>?_
 ·have j:=t _ (DB G.gc G.oD d);have n:=(G.gc _ d).1;have h:=f p.1.toNat (by lia);rw[bG n.1]at h;have c:=cP (show r p.1.toNat+1<=r p.2.toNat from j) b;rw[d0,aSb]at c
  lia
 ·have j:=k i a;have h:=f i a;have c:=cP (show r i+1<=8 by lia) b;rw[d0,aSb]at c
  lia
theorem GJ{i:Nat}(a:i<g.length):bw (g.map jV) i=if(gM g).p i=0 then(gM g).l i else(gM g).u i:=by
 rw[nU (by simpa using a)];show _=if((g[i]?).getD (0,0,0)).2.2=0 then((g[i]?).getD (0,0,0)).2.1 else((g[i]?).getD (0,0,0)).1
 rw[aO a,aRA];rfl
theorem gf.free(G:gf g m nd)(u:cu m (g.map jV) bs){bonus:Int}(L:0<=bonus):
 kS 0 (br bs (g.map jV))<=8*2^252/\∃s,Good (gM g) g.length (j7 0 nd) (plenty g bonus) (λ_=>0) 0 s/\sm (2*g.length+2) s<10^198/\s 1=kS 0 (br bs (g.map jV)):=by
 have T:=G.Ea u (by simp);have W:=G.AH L;have R:=G.l8;have n:∀i,i<g.length->rB ((g[i]?).getD (0,0,0)):=λi a=>pZ (P:=rB) G.ok a
 have r:∀i,i<g.length->0<=(gM g).l i/\(gM g).l i<=(gM g).u i/\(gM g).u i<2^252/\0<=(gM g).p i:=λi a=>⟨(n i a).1,(n i a).2.1,(n i a).2.2.2.1,(n i a).2.2.1⟩
 have b:∀i:Nat,i<g.length->0<=bw (g.map jV) i/\bw (g.map jV) i<=2^252/\(gM g).l i<=bw (g.map jV) i:=λi a=>by
  have:=r i a;rw[GJ a];split<;>lia
 have A:=G.sv u (by simp) (M:=2^252) (by decide) λi a=>⟨(b i a).1,(b i a).2.1⟩
 have D:0<=kS 0 (br bs (g.map jV)):=(u.C6 λx F=>by
  obtain⟨w,H,rfl⟩:=fU F;have h:=G.ok w H;unfold jV;split
  ·exact h.1
  ·exact cL h.1 h.2.1).1
 refine⟨A,pf (kS 0 (br bs (g.map jV))) (λi=>bw bs i) (λi=>bw (g.map jV) i),⟨λp=>?_,λk o=>?_,λk o=>⟨λK=>?_,λz=>absurd z (Int.lt_irrefl _)⟩,rfl,λv I=>?_⟩,?_,rfl⟩
 ·rw[cS];exact pI λk _=>cS _
 ·refine⟨bM _,?_⟩
  have q:0<=plenty g bonus:=by
   have:=W.pP;have Y:0<=sm g.length (gM g).p:=sM λi a=>(r i a).2.2.2
   lia
  cases pipe o with
  |src i a e t h d c=>rw[c];exact q
  |g0 i a e t h d c=>rw[c];exact(r i a).2.2.2
  |g6 i a e t h d c=>rw[c];exact q
  |fj i a e t h d c=>rw[c];exact q
  |fk x y j J e t h d c=>rw[c];exact q
 ·cases f:eD g.length k with
  |false=>exact Gh T (λi a=>(b i a).2.2) k o f
  |true=>
   cases pipe o with
   |src i a e=>simp[eD]at f;lia
   |g0 i a e t h d c=>
    rw[t,h,d,AV,AY,GJ a,if_neg (by rw[c]at K;lia)];lia
   |g6 i a e=>simp[eD]at f;lia
   |fj i a e=>simp[eD]at f;lia
   |fk x y j J e=>simp[eD]at f;lia
 ·by_cases C:v=0
  ·rw[C];exact bM _
  ·by_cases B:v=1
   ·rw[B];exact D
   ·by_cases O:v%2=0
    ·obtain⟨i,rfl⟩:∃i,v=2*i+2:=⟨v/2 - 1,by lia⟩;rw[AV];exact T.b0 i (by lia)
    ·obtain⟨i,rfl⟩:∃i,v=2*i+3:=⟨v/2 - 1,by lia⟩;rw[AY];have:=T.b0 i (by lia);have:=(b i (by lia)).1;lia
 ·have N:sm (2*g.length+2) (pf (kS 0 (br bs (g.map jV))) (λi=>bw bs i) (λi=>bw (g.map jV) i))<=sm (2*g.length+2) λ_=>8*2^252:=wP λv I=>by
   unfold pf;split
   ·decide
   ·split
    ·exact A
    ·have a:v/2 - 1<g.length:=by lia
     have M:=T.e _ a;have S:=b _ a;dsimp only at M|-;split<;>lia
  rw[KS]at N;have X:((2*g.length+2:Nat):Int)*(8*2^252)<=18*(8*2^252):=cP (by lia) (by decide);have U:(18*(8*2^252):Int)<10^198:=by decide
  lia
theorem gf.CU(G:gf g m nd)(c:cu m (g.map (·.2.1)) bs):0<=kS 0 (br bs (g.map (·.2.1))):=
 (c.C6 λx a=>by
  obtain⟨w,b,rfl⟩:=fU a
  exact(G.ok w b).1).1
theorem tE(G:gf g m nd)(b:cu m (g.map (·.2.1)) bs)(k:kS 0 (br bs (g.map (·.2.1)))<=e)(t:Good (gM g) g.length (j7 0 nd) (plenty g 0) (λ_=>0) 0 s)(n:sm (2*g.length+2) s<10^198){C:ab}
 (q:∀f p a c,hQ (gM g) g.length (j7 0 nd) (plenty g 0) e (λ_=>0) 0 s f p a->a<=sm g.length (gM g).p->0<=a->jL (jR g nd 0) f C.length (2*g.length+2:Nat) c->Q (.cell C.length) c):
 aJ (lX [.lst (g.map w3),.lst (m.map pT),.int e] C) Q:=by
 have W:=G.AH (bonus:=0) (by decide);have y:=G.CU b
 refine j0 ?_
 unfold t7;walk_at "a"
 refine fJ (fQ (zD (eX (fF rfl (eX (fF rfl (fE ⟨rfl,?_⟩)))))))
 refine VP (nd:=nd) G.l8 G.pl G.gc G.need G.oD λv r=>⟨rfl,fL (fN (fJ (mK (nZ ?_))))⟩
 have d:jL (jR g nd 0) (λ_=>0) C.length (2*g.length+2:Nat) v:=by
  have:=r.at;rw[show((2*g.length+2:Nat):Int)=2*(g.length:Int)+2 by lia];exact this
 refine fF rfl ⟨o6 d.net rfl,eX (fF rfl (fE ⟨rfl,?_⟩))⟩
 refine RK W (G.Eb b) k (by lia) t (sM λi j=>(pZ (P:=rB) G.ok j).2.2.1) (bM _) (cD n (by decide)) d λf p a u F o h x _ _=>?_
 exact fN (fZ (fF rfl (q f p a u F o h x)))
theorem T2{N:Nt}{a:Int}(h:k0 N (λ_=>0) a):a=0:=by
 have:=h λv=>if v=1 then 1 else 0
 rw[pI λk _=>cS _]at this;simp at this
 lia
theorem DG{n:Nat}{k:Nat}(b:k<(net w n l P).m):(net w n l P).h k≠0/\(net w n l P).t k≠1:=by
 cases pipe b with
 |src i a e t h d c=>rw[t,h];lia
 |g0 i a e t h d c=>rw[t,h];lia
 |g6 i a e t h d c=>rw[t,h];lia
 |fj i a e t h d c=>rw[t,h];lia
 |fk x y i a e t h d c=>rw[t,h];lia
theorem PD{n:Nat}(W:yu w n l P){f:Nat->Int}{a:Int}(D:k0 (net w n l P) f a)(F:oh (net w n l P) f):∃B,tm (fc (net w n l P) f (net w n l P).m) a B:=by
 obtain⟨r,p,G⟩:=W.rk;have H:=W.n8;have A:=Ik (w:=w) (P:=P) p G;have key:∀e∈fc (net w n l P) f (net w n l P).m,∃j,j<(net w n l P).m/\e.1=((net w n l P).t j,(net w n l P).h j):=λe o=>zX (cM o)
 have v:rk n r 1=2*n:=rfl;have z:rk n r 0= -1:=rfl
 refine⟨rk n r,NX D,yV (λk C=>(F k C).1) (bE _),v3,λe o=>?_,λe o=>?_,λe o=>?_,λe o=>?_,by rw[v,z];lia,by rw[v,z];lia,dP xW (by have:=W.m;lia)⟩
 ·obtain⟨j,q,u⟩:=key e o;rw[u];exact(DG q).1
 ·obtain⟨j,q,u⟩:=key e o;rw[u];exact A j q
 ·obtain⟨j,q,u⟩:=key e o;rw[u,v];show rk n r ((net w n l P).h j)<=_;cases pipe q with
  |src i b e t h d c=>rw[h,ta];have:=p i b;lia
  |g0 i b e t h d c=>rw[h,xD];have:=p i b;lia
  |g6 i b e t h d c=>rw[h,xD];have:=p i b;lia
  |fj i b e t h d c=>rw[h,v];lia
  |fk x y i b e t h d c=>rw[h,ta];have:=p y (W.tx _ (aZ b)).2;lia
 ·obtain⟨j,q,u⟩:=key e o;rw[u,z];show _<=rk n r ((net w n l P).t j);cases pipe q with
  |src i b e t h d c=>rw[t,z];lia
  |g0 i b e t h d c=>rw[t,ta];have:=p i b;lia
  |g6 i b e t h d c=>rw[t,ta];have:=p i b;lia
  |fj i b e t h d c=>rw[t,xD];have:=p i b;lia
  |fk x y i b e t h d c=>rw[t,xD];have:=p x (W.tx _ (aZ b)).1;lia
theorem hQ.plan{n:Nat}{f p:Nat->Int}{a:Int}(W:yu w n l P)(F:hQ w n l P e (λ_=>0) 0 s f p a)(N:0<=e)(H:e<10^100)(S:sm (2*n+2) s<10^198){c:Nat}{C:ab}(A:jL (net w n l P) f c (2*n+2:Nat) C)
 (q:∀h,Good w n l P f a h->h 1=e->Q (.cell C.length) (C++[(.l,lI (2*n+2) h)])):aJ (jN [.cell c,.int e] C) Q:=by
 have G:=F.good;have R:=W.n8;have fin:∀y:Nat->Int,(∀v,v<2*n+2->kf e v<=y v)->ja (net w n l P) f y->sm (2*n+2) y<10^199->((∃q,ja (net w n l P) f q/\q 0=0/\e<=q 1)\/∀o,ft (net w n l P) f o->rt (net w n l P) o≠1)->aJ (jN [.cell c,.int e] C) Q:=λy r j x J=>by
  have hs:0<=sm (2*n+2) (kf e):=sM λv _=>by unfold kf;split<;>lia
  refine MC A W.m (yS W.tx) (by lia) (by lia) r j (by lia) λh L=>?_
  obtain⟨g1,K⟩:=ends (N:=net w n l P) L (by lia) G.ge G.jd G.p0 F.ready J
  refine q h ⟨G.mr,G.ko,L.jd,K,λv i=>?_⟩ g1
  have:=L.ge v i;have B:0<=kf e v:=by unfold kf;split<;>lia
  lia
 rcases F.how with rfl| ⟨_,y,t,O,u⟩
 ·have D:∀o,ft (net w n l P) (λ_=>0) o->o.2=true/\o.1<(net w n l P).m:=λo d=>by
   obtain⟨k,b⟩:=o;cases b
   ·exact absurd d.2 (by unfold rr;simp)
   ·exact⟨rfl,d.1⟩
  refine fin (up p 1 e) (λv i=>?_) (lB λo d=>?_) ?_ (.inr λo d=>?_)
  ·unfold kf up;split
   ·exact bM _
   ·exact G.ge v i
  ·obtain⟨r,j⟩:=D o d;have x:=kP G.jd o d;obtain⟨k,b⟩:=o;cases r;have M:=(DG j).2;unfold up;rw[if_neg (show¬rt (net w n l P) (k,true)=1 from M)];split
   ·rename_i z;rw[z]at x;have:=F.ready
    lia
   ·exact x
  ·rw[Jy (by lia)];have B:sm (2*n+2) p<=sm (2*n+2) s:=wP F.le;have U:=G.ge 1 (by lia);have I:(10^198+10^100:Int)<10^199:=by decide
   lia
  ·obtain⟨r,j⟩:=D o d;obtain⟨k,b⟩:=o;cases r
   exact(DG j).2
 ·refine fin y (λv i=>?_) t.jd ?_ (.inl ⟨y,t.jd,t.p0,by lia⟩)
  ·unfold kf;split
   ·rename_i z;subst z;lia
   ·exact t.ge v i
  ·have B:sm (2*n+2) y<=sm (2*n+2) s:=wP u;have I:(10^198:Int)<10^199:=by decide
   lia
end aI
namespace TL
open PySem L2
theorem VO{a:Type}{c:aD}{C0 C:ab}{g:FG}{j:FE}{en:a->T}{xs:List a}{k:List T->ab->Prop}(u:a->List T)(f:C0<+:C)
 (h:∀x∈xs,∀C,C0<+:C->ls g (en x) C c λb=>aC j b C λt l=>t=.cell C.length/\l=C++[(.l,u x)])
 (d:k ((bH xs.length).map λi=>T.cell (C.length+i)) (C++xs.map λx=>(.l,u x))):pk (kD g iI j c (xs.map en) C) k:=by
 refine⟨_,_,?_,d⟩
 clear d;induction xs generalizing C with
 |nil=>simp[kD]
 |cons x xs ih=>
  obtain⟨b,o,t,l,n,rfl,rfl⟩:=h x bC C f;have ih:=ih (C:=C++[(.l,u x)]) (f.trans (aR2 _ _)) (λy m=>h y (aX _ m));rw[aK];unfold kD;rw[o,aS];show(iI b C).bind _=_;simp only[iI,aS,if_true,n];rw[ih,Fs (aR2 _ _)];simp only[dU,bF,aM,aU,cJ,aK];congr 2;rw[d3,aK,bR];simp only[aSR,aSE.injEq,true_and];apply cF;intro i _;simp only[dN];congr 1;lia
theorem sN{B:FS}{m:Nat}{b:List T}{Q:T->ab->Prop}(h:wpS B (gp m b) [] λl d a=>match l with
 | .rt r=>Q r a
 |_=>False):aJ (Bc B m b) Q:=by
 obtain⟨l,d,a,e,q⟩:=h;cases l with
 |rt r=>exact⟨_,a,by unfold Bc;rw[e],q⟩
 |nx=>exact q.elim
 |bk=>exact q.elim
 |ct=>exact q.elim
 |ex c=>exact q.elim
end TL
namespace aI
open PySem L2 TL NF
variable{e:Int}{ws:List (Int×Int×Int)}{ps:List (Int×Int)}{c:List (List Int)}{bs fs:List Int}
noncomputable def gu(pp:Nat->Int)(w:Int×Int×Int)(i:Nat):List Int:=[pp (2*i+2),min w.1 (pp (2*i+3) - pp (2*i+2))]
theorem MF{n:Nat}{x:Nat->Int}:lI n x=((bH n).map x).map T.int:=by rw[bR];rfl
theorem V2{n i:Nat}{a:Nat->Int}{w:Int×Int×Int}(f:i<n):qL [.int i,w3 w,.lst (lI (2*n+2) a)]=some ((gu a w i).map T.int):=by
 apply Q2;unfold My;walk_at "a"
 refine fJ (fQ (fD (fF rfl (gK (o0 rfl) ?_))))
 have d:=xL (n:=2*n+2) (x:=a) (v:=2*i+2) (by lia);have b:=xL (n:=2*n+2) (x:=a) (v:=2*i+3) (by lia);rw[show((2*i+2:Nat):Int)=2*(i:Int)+2 by lia]at d;rw[show((2*i+3:Nat):Int)=2*(i:Int)+3 by lia]at b
 refine gF ⟨_,rfl,_,d,fL (fN (fZ (jC (gS (eX (fF rfl (eX (fK (eX ?_)))))))))⟩
 refine gK (Dp (k:=1) (w:=w) rfl).1 (eX (fD (fD (fF rfl (gK (p9 rfl) (gF ⟨_,rfl,_,b,fF rfl (f8 (fE (GT.mpr (fE ⟨by simp[lim],?_⟩))))⟩))))))
 exact⟨rfl,iX⟩
theorem hQ.EE{w:Wk}{n:Nat}{g:List (Nat×Nat)}{P:Int}{l f p:Nat->Int}{a:Int}(F:hQ w n g P e (λ_=>0) 0 l f p a)(j:0<=e):∃h,Good w n g P f a h/\h 1=e:=by
 rcases F.how with rfl| ⟨_,y,x,A,q⟩
 ·have G:=F.good;have t:∀o,ft (net w n g P) (λ_=>0) o->o.2=true/\o.1<(net w n g P).m:=λo d=>by
   obtain⟨k,b⟩:=o;cases b
   ·exact absurd d.2 (by unfold rr;simp)
   ·exact⟨rfl,d.1⟩
  refine⟨up p 1 e,⟨G.mr,G.ko,lB λo d=>?_,?_,λv m=>?_⟩,A6⟩
  ·obtain⟨s,r⟩:=t o d;have i:=kP G.jd o d;obtain⟨k,b⟩:=o;cases s;have u:=(DG r).2;unfold up;rw[if_neg (show¬rt (net w n g P) (k,true)=1 from u)];split
   ·rename_i z;rw[z]at i;have:=F.ready
    lia
   ·exact i
  ·rw[z6 (by decide)];exact G.p0
  ·unfold up;split
   ·exact j
   ·exact G.ge v m
 ·exact F.good.Ag x F.ready (by lia)
theorem WI(G:gf ws ps c)(w:cu ps (ws.map (·.2.1)) bs)(S:cu ps (ws.map jV) fs)(P:i8 [.lst (ws.map w3),.lst (ps.map pT)]=some (.int (kS 0 (br bs (ws.map (·.2.1)))))):
 (e<kS 0 (br bs (ws.map (·.2.1)))->lP [.lst (ws.map w3),.lst (ps.map pT),.int e]=some (.aH,[]))/\
 (kS 0 (br bs (ws.map (·.2.1)))<=e->∃f a d b rw i,lP [.lst (ws.map w3),.lst (ps.map pT),.int e]=some (.cell rw,i)/\Good (gM ws) ws.length (j7 0 c) (plenty ws 0) f a d/\d 1=e/\a<=sm ws.length (gM ws).p/\b.length<40000/\
  yL ws.length (j7 0 c) (fc (jR ws c 0) f (jR ws c 0).m) a b [] 0/\i[rw]?=some (.l,b.map λz=>.cell z.1)/\(∀z∈b,i[z.1]?=some (u0 z))/\(kS 0 (br fs (ws.map jV))<=e->b=[])):=by
 have hz:=G.CU w;have W:=G.AH (bonus:=0) (by decide);obtain⟨_,E,X,N,L⟩:=G.free S (bonus:=0) (by decide);have D:ei [T.lst (ws.map w3),T.lst (ps.map pT)]=true:=by rw[fW,fW,hJ,gY,gY,nA,kA];rfl
 have g:∀{k:aD}{Q:Bool->ab->Prop},k[0]?=some (some (.lst (ws.map w3)))->k[1]?=some (some (.lst (ps.map pT)))->k[2]?=some (some (.int e))->Q (decide (e<kS 0 (br bs (ws.map (·.2.1))))) []->hA (jD (pa Y2 (gG 2 i8 (fB Y0 (fB Y1 fP))))) k [] Q:=λU j m q=>
  gC (fD (fF m (fK (eX (fF U (eX (fF j (fE ((f7 P rfl D).mpr (f8 ⟨_,rfl,q⟩))))))))))
 constructor
 ·intro h;have:aJ (lP [.lst (ws.map w3),.lst (ps.map pT),.int e]) λr C=>r=.aH/\C=[]:=by
   refine sN ?_
   unfold rE;walk_at "a"
   refine fJ (hX (g rfl rfl rfl ?_))
   rw[if_pos (decide_eq_true h)]
   exact fZ (fS ⟨rfl,rfl⟩)
  obtain⟨_,_,t,rfl,rfl⟩:=this
  exact t
 ·intro h;have:aJ (lP [.lst (ws.map w3),.lst (ps.map pT),.int e]) λr i=>∃f a d b rw,r=.cell rw/\Good (gM ws) ws.length (j7 0 c) (plenty ws 0) f a d/\d 1=e/\a<=sm ws.length (gM ws).p/\b.length<40000/\
   yL ws.length (j7 0 c) (fc (jR ws c 0) f (jR ws c 0).m) a b [] 0/\i[rw]?=some (.l,b.map λz=>.cell z.1)/\(∀z∈b,i[z.1]?=some (u0 z))/\(kS 0 (br fs (ws.map jV))<=e->b=[]):=by
   refine sN ?_
   unfold rE;walk_at "a"
   refine fJ (hX (g rfl rfl rfl ?_))
   rw[if_neg (by rw[decide_eq_false (by lia)];simp)]
   refine gL (fN (fZ (nZ (iA (eX (fF rfl (eX (fF rfl (eX (fF rfl (fE ⟨rfl,?_⟩)))))))))))
   refine tE G w h X N λf p a C' F O K A=>⟨o6 A.net rfl,fE ⟨rfl,?_⟩⟩
   obtain⟨d,u,J⟩:=F.EE (by lia);obtain⟨Y,Fl⟩:=PD W u.mr u.ko
   refine Vl A W.m Fl (λs o=>NI o) K (by have:=W.AN;lia) λb rw C2 H R j m=>?_
   refine⟨f,a,d,b,rw,rfl,u,J,O,dP H W.m,R,j,m,λhy=>?_⟩
   have M:f=λ_=>0:=by
    rcases F.how with j| ⟨_,q,_,m,B⟩
    ·exact j
    ·have:=B 1 (by lia)
     lia
   have Z:a=0:=by
    have:=F.good.mr;rw[M]at this
    exact T2 this
   cases b with
   |nil=>rfl
   |cons z b=>
    exfalso;have o:=R.sum;have I:∀l:List (Nat×Int×List Nat),(∀z∈l,1<=z.2.1)->0<=(l.map λz=>z.2.1).sum:=λl=>by
     induction l with
     |nil=>intro _;simp
     |cons y l ih=>
      intro v;have:=v y bC;have:=ih λx n=>v x (aX _ n)
      rw[aK,dG];lia
    have B:=(R.ok z bC).1;have h4:=I b λx n=>(R.ok x (aX _ n)).1
    rw[aK,dG]at o
    lia
  obtain⟨_,i,t,f,a,d,b,rw,rfl,j⟩:=this
  exact⟨f,a,d,b,rw,i,t,j⟩
theorem Vu(G:gf ws ps c)(t:cu ps (ws.map (·.2.1)) bs)(M:cu ps (ws.map jV) fs)(L:i8 [.lst (ws.map w3),.lst (ps.map pT)]=some (.int (kS 0 (br bs (ws.map (·.2.1))))))(l:e<10^100):
 (e<kS 0 (br bs (ws.map (·.2.1)))->nH [.lst (ws.map w3),.lst (ps.map pT),.int e]=some (.aH,[]))/\
 (kS 0 (br bs (ws.map (·.2.1)))<=e->∃f a pp Cm,nH [.lst (ws.map w3),.lst (ps.map pT),.int e]=some (.cell (Cm.length+ws.length),Cm++(ws.zipIdx.map λx=>(Kd.l,(gu pp x.1 x.2).map T.int))++[(Kd.l,(bH ws.length).map λi=>T.cell (Cm.length+i))])/\
  Good (gM ws) ws.length (j7 0 c) (plenty ws 0) f a pp/\pp 1=e/\a<=sm ws.length (gM ws).p):=by
 have Y:=G.CU t;have W:=G.AH (bonus:=0) (by decide);obtain⟨_,U,R,s,I⟩:=G.free M (bonus:=0) (by decide);have Z:=G.l8;have v:ei [T.lst (ws.map w3),T.lst (ps.map pT)]=true:=by rw[fW,fW,hJ,gY,gY,nA,kA];rfl
 have b:∀{g:aD}{Q:Bool->ab->Prop},g[0]?=some (some (.lst (ws.map w3)))->g[1]?=some (some (.lst (ps.map pT)))->g[2]?=some (some (.int e))->Q (decide (e<kS 0 (br bs (ws.map (·.2.1))))) []->hA (jD (pa Y2 (gG 2 i8 (fB Y0 (fB Y1 fP))))) g [] Q:=λO n m q=>
  gC (fD (fF m (fK (eX (fF O (eX (fF n (fE ((f7 L rfl v).mpr (f8 ⟨_,rfl,q⟩))))))))))
 constructor
 ·intro h;have:aJ (nH [.lst (ws.map w3),.lst (ps.map pT),.int e]) λr C=>r=.aH/\C=[]:=by
   refine sN ?_
   unfold vI;walk_at "a"
   refine fJ (hX (b rfl rfl rfl ?_))
   rw[if_pos (decide_eq_true h)]
   exact fZ (fS ⟨rfl,rfl⟩)
  obtain⟨_,_,d,rfl,rfl⟩:=this
  exact d
 ·intro h;have:aJ (nH [.lst (ws.map w3),.lst (ps.map pT),.int e]) λr u=>∃f a pp Cm,r=.cell (Cm.length+ws.length)/\u=Cm++(ws.zipIdx.map λx=>(Kd.l,(gu pp x.1 x.2).map T.int))++[(Kd.l,(bH ws.length).map λi=>T.cell (Cm.length+i))]/\
   Good (gM ws) ws.length (j7 0 c) (plenty ws 0) f a pp/\pp 1=e/\a<=sm ws.length (gM ws).p:=by
   refine sN ?_
   unfold vI;walk_at "a"
   refine fJ (hX (b rfl rfl rfl ?_))
   rw[if_neg (by rw[decide_eq_false (by lia)];simp)]
   refine gL (fN (fJ (fQ (nZ (iA (eX (fF rfl (eX (fF rfl (eX (fF rfl (fE ⟨rfl,?_⟩))))))))))))
   refine tE G t h R s λf p a j F K X A=>⟨o6 A.net rfl,eX (fF rfl (fE ⟨rfl,?_⟩))⟩
   refine F.plan W (by lia) l s A λpp P B=>?_
   refine fL (fN (fZ (jC (U4.mpr (gP ⟨_,rfl,_,rfl,by rw[LD,aN];simp[lim];lia,?_⟩)))))
   rw[yU]
   refine VO (C0:=j++[(Kd.l,lI (2*ws.length+2) pp)]) (u:=λx:(Int×Int×Int)×Nat=>(gu pp x.1 x.2).map T.int) (aS2 _) (λx D S y=>?_) ?_
   ·have J:x.2<ws.length:=by
     obtain⟨k,o⟩:=fT D;rw[dW]at o;obtain⟨w,H,d⟩:=eZ o;rw[<-d,dX]
     exact(fA H).1
    have z:lc S j.length=some (((bH (2*ws.length+2)).map pp).map T.int):=by
     rw[<-MF]
     exact Ju y (hZ (by simp))
    refine iO ⟨_,rfl,rfl,jC (rR.mpr (eX (gP ⟨.int x.2,rfl,eX (gP ⟨w3 x.1,rfl,eX (gP ⟨.cell j.length,rfl,fE ?_⟩)⟩)⟩)))⟩
    refine VE rfl (iC (iH gW) (iC (iH Be) (iC (nV z) pR))) ?_
    rw[<-MF,V2 J]
    exact⟨_,rfl,by simp[gu,oi],rfl,rfl⟩
   ·refine⟨f,a,pp,j++[(Kd.l,lI (2*ws.length+2) pp)],?_,?_,P,B,K⟩
    ·simp;lia
    ·simp
  obtain⟨_,u,d,f,a,pp,Cm,rfl,rfl,n,m,N⟩:=this
  exact⟨f,a,pp,Cm,d,n,m,N⟩
end aI
namespace aI
open PySem L2 TL NF
variable{w:Wk}{es:List (Nat×Nat)}{P e:Int}{pp:Nat->Int}
noncomputable def hG(pp:Nat->Int)(i:Nat):Int:=pp (2*i+2)
noncomputable def el(w:Wk)(pp:Nat->Int)(i:Nat):Int:=min (w.u i) (pp (2*i+3) - pp (2*i+2))
theorem J1{n:Nat}(W:yu w n es P){f:Nat->Int}{a:Int}(G:Good w n es P f a pp)(o:pp 1=e)(p:a<P)(l:∀i,i<n->w.l i<=w.u i):
 (∀i,i<n->0<=hG pp i/\w.l i<=el w pp i/\el w pp i<=w.u i/\hG pp i+el w pp i<=e)/\(∀x∈es,hG pp x.1+el w pp x.1<=hG pp x.2)/\sm n (λi=>w.p i*(w.u i - el w pp i))=len (net w n es P) f - a*e:=by
 have c:=W.open G p;obtain⟨k,j,h,g⟩:=JP G.jd c G.p0 W.tx
 refine⟨λi b=>?_,λx m=>?_,?_⟩
 ·have d:=k i b;have s:=j i b;have r:=h i b;have q:=l i b;unfold hG el
  refine⟨d,?_,?_,?_⟩<;>lia
 ·have d:=g x m;unfold hG el
  lia
 ·rw[<-o,G.price c]
  refine jU λi _=>?_
  congr 1;unfold el NF.pos;split<;>lia
theorem J9{x u l p:Int}(h:l<=u):(if x<=p then x*u else p*u+(x - p)*l)=min (x*u) (p*(u - l)+x*l):=by
 have c:x*u - (p*(u - l)+x*l)=(x - p)*(u - l):=by rw[aRQ,dA,dA];lia
 have b:p*u+(x - p)*l=p*(u - l)+x*l:=by rw[aRQ,dA];lia
 by_cases a:x<=p
 ·rw[if_pos a];have:(x - p)*(u - l)<=0:=Int.mul_nonpos_of_nonpos_of_nonneg (by lia) (by lia)
  lia
 ·rw[if_neg a,b];have:0<=(x - p)*(u - l):=dQ (by lia) (by lia)
  lia
theorem JE{n:Nat}{g:Nat->Int}{k:Nat}(a:k<n):(sm n λj=>if j=k then g j else 0)=g k:=by
 induction n with
 |zero=>lia
 |succ n ih=>
  show sm n _+(if n=k then g n else 0)=_;by_cases h:n=k
  ·subst h;rw[if_pos rfl,pI λj b=>if_neg (by lia)];lia
  ·rw[if_neg h,ih (by lia)];lia
theorem O9{n:Nat}{f:Nat->Int}{i:Nat}(l:i<n):at_ (fc (net w n es P) f (net w n es P).m) (iq i)=tq f i:=by
 rw[Jj];show sm (4*n+es.length) _=_;have e:∀k,k<4*n+es.length->(if iq i=((net w n es P).t k,(net w n es P).h k)then f k else 0)=(if k=4*i+1 then f k else 0)+if k=4*i+2 then f k else 0:=λk g=>by
  have a:iq i=((net w n es P).t k,(net w n es P).h k)↔(2*i+2=(net w n es P).t k/\2*i+3=(net w n es P).h k):=by unfold iq;rw[aTF.injEq]
  cases pipe (w:=w) (n:=n) (es:=es) (P:=P) (k:=k) g with
  |src j b e t h d c=>rw[if_neg (by rw[a,t,h];lia),if_neg (by lia),if_neg (by lia)];rfl
  |g0 j b e t h d c=>
   by_cases z:j=i
   ·rw[if_pos (by rw[a,t,h];lia),if_pos (by lia),if_neg (by lia)];lia
   ·rw[if_neg (by rw[a,t,h];lia),if_neg (by lia),if_neg (by lia)];rfl
  |g6 j b e t h d c=>
   by_cases z:j=i
   ·rw[if_pos (by rw[a,t,h];lia),if_neg (by lia),if_pos (by lia)];lia
   ·rw[if_neg (by rw[a,t,h];lia),if_neg (by lia),if_neg (by lia)];rfl
  |fj j b e t h d c=>rw[if_neg (by rw[a,t,h];lia),if_neg (by lia),if_neg (by lia)];rfl
  |fk x y j b e t h d c=>rw[if_neg (by rw[a,t,h];lia),if_neg (by lia),if_neg (by lia)];rfl
 rw[jU e,Jg,JE (by lia),JE (by lia)];rfl
theorem V4{n:Nat}{f f2 d:Nat->Int}{a c:Int}(G:Good w n es P f a pp)(j:Good w n es P f2 c d)(l:pp 1=e)(k:d 1=e)(g:∀i,i<n->w.l i<=w.u i){b:List (Nat×Int×List Nat)}(R:yL n es (fc (net w n es P) f2 (net w n es P).m) c b [] 0):
 len (net w n es P) f - a*e=sm n (λi=>min ((b.map λz=>z.2.1*(z.2.2.count i:Int)).sum*w.u i) (w.p i*(w.u i - w.l i)+(b.map λz=>z.2.1*(z.2.2.count i:Int)).sum*w.l i)) - e*(b.map λz=>z.2.1).sum:=by
 rw[Mr G j l k,R9 j g,R.sum,aRz,Int.mul_comm c e];congr 1
 refine jU λi h=>?_
 have:(b.map λz=>z.2.1*(z.2.2.count i:Int)).sum=tq f2 i:=by
  rw[R.tq i,O9 h];show tq f2 i - 0=_
  lia
 rw[this]
 exact J9 (g i h)
end aI
namespace ek
open PySem L2 TL aI
def sV:FS:=
 (iF (An (fB (gT (lA (nE (fB Y0 fP)) 1 [0,1] (gN 0) iI (n4 (aA (aA Y1 Y0) (fI 2)) (pO (aA (aA Y1 Y0) (fI 0)) (aA (aA Y2 Y0) (fI 1)))))) fP)))
def lY:List T->Option T:=jM sV 2
def nN:FS:=
 (f9 (gR (aA Y3 Y4) (gN 5))
  (f9 (er (oC (l9 (mX (vQ "list" Y5))) (oC (jD (Da (nE (fB Y5 fP)) (fI 2))) (oC (l9 (mX (gG 1 nT (fB (aA Y5 (fI 0)) fP)))) (l9 (mX (gG 1 nT (fB (aA Y5 (fI 1)) fP))))))) (iF (fC (.bl false))) jK)
  (er (oC (jD (pa (aA Y5 (fI 0)) (fI 0))) (oC (jD (pa (aA Y5 (fI 1)) (aA (aA Y0 Y4) (fI 1)))) (oC (jD (jw (aA Y5 (fI 1)) (aA (aA Y0 Y4) (fI 0)))) (jD (jw (jH (aA Y5 (fI 0)) (aA Y5 (fI 1))) Y2))))) (iF (fC (.bl false))) jK)))
def pH:FS:=
 (f9 (er (oC (l9 (mX (vQ "list" Y3))) (jD (Da (nE (fB Y3 fP)) (nE (fB Y0 fP))))) (iF (fC (.bl false))) jK)
  (f9 (mC (nE (fB Y0 fP)) (gN 4)
   nN)
  (iF (Cj (fB (gT (kZ Y1 2 [3] (gU [0,1]) iI (EC (aA (aA Y2 Y1) (fI 0)) (jH (aA (aA Y2 Y0) (fI 0)) (aA (aA Y2 Y0) (fI 1)))))) fP)))))
def lV:List T->Option T:=jM pH 6
end ek
namespace ek
open PySem L2 TL aI NF
variable{ws:List (Int×Int×Int)}{i:Nat}{pp:Nat->Int}{row:List T}{j:Int}{r:T}
theorem Fk(a:i<ws.length):(gM ws).u i=ws[i].1/\(gM ws).l i=ws[i].2.1/\(gM ws).p i=ws[i].2.2:=by
 refine⟨?_,?_,?_⟩<;>simp[gM,a]
def qa(ws:List (Int×Int×Int))(pp:Nat->Int):List (List Int):=ws.zipIdx.map λx=>gu pp x.1 x.2
theorem J2(a:i<ws.length):(qa ws pp)[i]?=some [hG pp i,el (gM ws) pp i]:=by
 unfold qa el;rw[(Fk a).1,bA,dW,aO a];show some (gu pp ws[i] (0+i))=_;rw[dX];rfl
theorem DM(a:i<ws.length):dh ((qa ws pp).map iT) (i:Int)=some (iT [hG pp i,el (gM ws) pp i]):=by
 rw[sE,bA,J2 a];rfl
theorem Ih(a:i<ws.length):dh (ws.map w3) (i:Int)=some (w3 ((gM ws).u i,(gM ws).l i,(gM ws).p i)):=by
 obtain⟨d,c,b⟩:=Fk a;rw[sE,bA,aO a,d,c,b];rfl
theorem JS:(qa ws pp).length=ws.length:=by simp[qa]
theorem xT{b:aD}{C:ab}{a k:Nat}{l:List T}{i:Int}{v:T}(h:b[a]?=some (some (.lst l)))(g:b[k]?=some (some (.int i)))(f:dh l i=some r)(d:kl C r=some row)(c:dh row j=some v):aA (aA (k8 a) (k8 k)) (fC (.int j)) b C=some (v,C):=
 tT (fD (fD (fF h (fF g (gF ⟨_,rfl,_,f,fS (gF ⟨_,d,_,c,rfl,rfl⟩)⟩)))))
theorem Ad{b:aD}{C:ab}{a:Nat}{v:T}(f:b[a]?=some (some r))(d:kl C r=some row)(c:dh row j=some v):aA (k8 a) (fC (.int j)) b C=some (v,C):=
 tT (fD (fF f (fS (gF ⟨_,d,_,c,rfl,rfl⟩))))
theorem zY(f:ws.length<=8)(b:∀w∈ws,rB w)(d:∀i,i<ws.length->0<=(gM ws).u i - el (gM ws) pp i/\(gM ws).u i - el (gM ws) pp i<2^252):lY [.lst (ws.map w3),.lst ((qa ws pp).map iT)]=some (.int (sm ws.length λi=>(gM ws).p i*((gM ws).u i - el (gM ws) pp i))):=by
 apply iP;unfold sV;walk_at "a"
 refine fZ (fK (eX (fV (qS.mpr (fK (eX (fF rfl (fE (kL ⟨_,rfl,_,rfl,⟨by rw[aN];lia,by lia⟩,?_⟩)))))))))
 rw[pX,aN,cB]
 refine iG (xs:=bH ws.length) (λi=>T.int ((gM ws).p i*((gM ws).u i - el (gM ws) pp i))) (λi a=>?_) ?_
 ·have a:=iY a;have g1:=Ih (ws:=ws) a;have g2:=DM (pp:=pp) a;have c:=pZ (P:=rB) b a;rw[dF]
  refine fL (fD (gK (xT (k:=0) (a:=1) rfl rfl g1 rfl rfl) (fD (gK (xT (k:=0) (a:=1) rfl rfl g1 rfl rfl) (gK (xT (k:=0) (a:=2) rfl rfl g2 rfl rfl) (f8 (f6 ⟨tZ (m:=252) (n:=252) ?_ ?_ (by decide),rfl,rfl⟩)))))))
  ·exact Bt.of_lt c.2.2.1 c.2.2.2.2
  ·exact Bt.of_lt (d i a).1 (d i a).2
 ·refine fE (mI ⟨_,rfl,_,n5 (f:=λi=>(gM ws).p i*((gM ws).u i - el (gM ws) pp i)),rfl,?_⟩)
  have:∀(g:Nat->Int)(n:Nat),((bH n).map g).sum=sm n g:=λg n=>by
   induction n with
   |zero=>rfl
   |succ n ih=>rw[aSq,bN,aRH,ih];simp[sm]
  rw[this]
  exact iH gW
theorem VJ{ps:List (Int×Int)}{e:Int}(B:ws.length<=8)(q:ps.length<=1000)(n:ji ws.length ps)(u:∀i,i<ws.length->0<=hG pp i/\(gM ws).l i<=el (gM ws) pp i/\el (gM ws) pp i<=(gM ws).u i/\hG pp i+el (gM ws) pp i<=e)
 (l:∀p∈ps,hG pp p.1.toNat+el (gM ws) pp p.1.toNat<=hG pp p.2.toNat):lV [.lst (ws.map w3),.lst (ps.map pT),.int e,.lst ((qa ws pp).map iT)]=some (.bl true):=by
 apply iP;unfold pH;walk_at "a"
 refine fJ (hX (jY (jP (iU (GP.mpr (fF rfl ⟨true,rfl,true,rfl,?_⟩))))))
 rw[if_neg (by simp)]
 refine gC (fD (fK (eX (fF rfl (fE (kL ⟨_,rfl,fK (eX (fF rfl (fE (kL ⟨_,rfl,Gr.mpr ⟨_,rfl,?_⟩⟩))))⟩))))))
 rw[aN,aN,JS,if_neg (by simp)]
 refine gL (fN (fJ (kI (fK (eX (fF rfl (fE (kL ⟨_,rfl,_,rfl,⟨by lia,by rw[aN];lia⟩,?_⟩))))))))
 rw[aN,cB]
 refine pD (λi c C=>C=[]/\∃a b,c=[some (.lst (ws.map w3)),some (.lst (ps.map pT)),some (.int e),some (.lst ((qa ws pp).map iT)),a,b]) ⟨rfl,_,_,rfl⟩ ?_ ?_
 ·rintro i c C k ⟨rfl,a,b,rfl⟩;have g1:=Ih (ws:=ws) k;have g2:=DM (pp:=pp) k;obtain⟨A,z,y,x⟩:=u i k;rw[dF];unfold nN
  refine fL (fJ (fQ (fD (fF rfl (fF rfl (gF ⟨_,rfl,_,g2,fL (fN (fJ (hX ?_)))⟩))))))
  have f:∀{c:aD}{C:ab},c[5]?=some (some (iT [hG pp i,el (gM ws) pp i]))->aA Y5 (fI 0) c C=some (.int (hG pp i),C):=λh=>Ad h rfl rfl
  have d:∀{c:aD}{C:ab},c[5]?=some (some (iT [hG pp i,el (gM ws) pp i]))->aA Y5 (fI 1) c C=some (.int (el (gM ws) pp i),C):=λh=>Ad h rfl rfl
  refine jY (jP (iU (GP.mpr (fF rfl ⟨true,rfl,true,rfl,?_⟩))))
  rw[if_neg (by simp)]
  refine jY (gC (fD (fK (eX (fF rfl (fE (kL ⟨_,rfl,fS (Gr.mpr ⟨_,rfl,?_⟩)⟩)))))))
  rw[if_neg (by simp)]
  refine jY (jP (iU (fK (eX (gK (f rfl) (fE (wE.mpr ⟨true,rfl,?_⟩)))))))
  rw[if_neg (by simp)]
  refine jP (iU (fK (eX (gK (d rfl) (fE (wE.mpr ⟨true,rfl,?_⟩))))))
  rw[if_neg (by simp)]
  refine gL (fN (hX (jY (gC (fD (gK (f rfl) (fS (f8 ⟨_,rfl,?_⟩))))))))
  rw[if_neg (by rw[decide_eq_false (by lia)];simp)]
  refine jY (gC (fD (gK (d rfl) (gK (xT (k:=4) (a:=0) rfl rfl g1 rfl rfl) (f8 ⟨_,rfl,?_⟩)))))
  rw[if_neg (by rw[decide_eq_false (by dsimp only;lia)];simp)]
  refine jY (gC (fD (gK (d rfl) (gK (xT (k:=4) (a:=0) rfl rfl g1 rfl rfl) (f8 ⟨_,rfl,?_⟩)))))
  rw[if_neg (by rw[decide_eq_false (by dsimp only;lia)];simp)]
  refine gC (fD (fD (gK (f rfl) (gK (d rfl) (f8 (fF rfl (f8 ⟨_,rfl,?_⟩)))))))
  rw[if_neg (by rw[decide_eq_false (by lia)];simp)]
  exact gL ⟨trivial,rfl,_,_,rfl⟩
 ·rintro c C ⟨rfl,a,b,rfl⟩
  refine fN (fZ (fK (eX (fV (iQ (gP ⟨_,rfl,_,rfl,by simp[lim];lia,?_⟩))))))
  refine iG (xs:=ps) (en:=pT) (λ_=>T.bl true) (λp g=>?_) ?_
  ·obtain⟨⟨w,H⟩,v,G⟩:=n p g;have t:p.1.toNat<ws.length:=by lia
   have s:p.2.toNat<ws.length:=by lia
   have m:=DM (pp:=pp) t;have o:=DM (pp:=pp) s;rw[bG w]at m;rw[bG v]at o;have D:decide (hG pp p.1.toNat+el (gM ws) pp p.1.toNat<=hG pp p.2.toNat)=true:=decide_eq_true (l p g)
   refine iO ⟨_,rfl,rfl,fD (gK (xT (k:=1) (a:=2) rfl rfl o rfl rfl) (fD (gK (xT (k:=0) (a:=2) rfl rfl m rfl rfl) (gK (xT (k:=0) (a:=2) rfl rfl m rfl rfl) (f8 (f8 ⟨rfl,?_⟩))))))⟩
   have F:=l p g;simp only[T.bl.injEq]
   exact decide_eq_true (by lia)
  ·refine fE (JU.mpr ⟨_,rfl,ps.map λ_=>true,?_,?_⟩)
   ·clear l n q;induction ps with
    |nil=>rfl
    |cons p ps ih=>rw[aK,aK];show(ku (ps.map λ_=>T.bl true)).map _=_;rw[ih];rfl
   ·have:(ps.map λ_=>true).all id=true:=by simp
    rw[this]
    exact iH mB
end ek
namespace ek
open PySem L2 TL aI NF
noncomputable def nI(is:List Nat):List Int:=is.map λi:Nat=>(i:Int)
def rI(z:Nat×Int×List Nat):List Int:=z.2.1::nI z.2.2
end ek
namespace ek
open PySem L2 TL aI NF
end ek
namespace ek
open PySem L2 TL aI NF
variable{Cn:ab}
theorem LZ{k:Nat}:∀{xs:List Nat},ml k (xs.map T.cell)=(xs.map (k+ ·)).map T.cell
 | []=>by simp[ml]
 |x::xs=>by simp[ml,sh,LZ]
theorem LC{k:Nat}:∀{xs:List Int},ml k (xs.map T.int)=xs.map T.int
 | []=>by simp[ml]
 |x::xs=>by simp[ml,sh,LC]
theorem Ii{C:ab}{c:Nat}{x:Cl}(h:Cn[c]?=some x):(C++Cn.map (xj C.length))[C.length+c]?=some (xj C.length x):=by
 rw[bD (by lia),show C.length+c - C.length=c by lia,bA,h];rfl
structure rD(C:ab)(k:Nat)(cs:List Nat)(rows:List (List Int)):Prop where
 at_:C[k]?=some (.l,cs.map T.cell)
 rows:cs.length=rows.length/\∀(i:Nat)(c:Nat)(r:List Int),cs[i]?=some c->rows[i]?=some r->C[c]?=some (.l,r.map T.int)/\c≠k
theorem rD.dr{C:ab}{k:Nat}{d:List Nat}{rows:List (List Int)}(R:rD C k d rows):dr 3 C (.cell k)=some (.lst (rows.map iT)):=by
 have h:cg (TL.dr 2 C) (d.map T.cell)=some (rows.map iT):=KC (by simp[R.rows.1]) λi t u b a=>by
  rw[bA]at b a;obtain⟨c,g,rfl⟩:=eZ b;obtain⟨r,f,rfl⟩:=eZ a
  exact nV (hZ (R.rows.2 i c r g f).1)
 show(lc C k).bind _=_;rw[hZ R.at_];show(cg (TL.dr 2 C) _).map _=_;rw[h];rfl
theorem rD.sh{C:ab}{k:Nat}{b:List Nat}{rows:List (List Int)}(R:rD Cn k b rows):rD (C++Cn.map (xj C.length)) (C.length+k) (b.map (C.length+ ·)) rows:=by
 refine⟨?_,by simp[R.rows.1],λi c r a f=>?_⟩
 ·rw[Ii R.at_];show some (Kd.l,ml C.length _)=_;rw[LZ]
 ·rw[bA]at a;obtain⟨h,d,rfl⟩:=eZ a;obtain⟨g,j⟩:=R.rows.2 i h r d f
  refine⟨?_,by lia⟩
  rw[Ii g];show some (Kd.l,ml C.length _)=_;rw[LC]
theorem Mc{n:Nat}{G:List T->Option (T×ab)}{a:List T}{r:T}{C:ab}{Q:T->ab->Prop}(e:G a=some (r,Cn))(b:a.length=n)(c:ei a=true):aJ (tX n G a C) Q↔Q (TL.sh C.length r) (C++Cn.map (xj C.length)):=by
 have:tX n G a C=some (TL.sh C.length r,C++Cn.map (xj C.length)):=by
  unfold tX;rw[if_pos ⟨b,c⟩,e];rfl
 rw[this];exact qB
theorem UP{ws:List (Int×Int×Int)}{pp:Nat->Int}{Cm:ab}:rD (Cm++(ws.zipIdx.map λx=>(Kd.l,(gu pp x.1 x.2).map T.int))++[(Kd.l,(bH ws.length).map λi=>T.cell (Cm.length+i))]) (Cm.length+ws.length) ((bH ws.length).map (Cm.length+ ·)) (qa ws pp):=by
 refine⟨?_,by simp[JS],λi c r b a=>?_⟩
 ·rw[bD (by simp),bR];simp
 ·rw[bA]at b;obtain⟨j,h,rfl⟩:=eZ b;obtain⟨f,d⟩:=fA h;rw[d4]at d;subst d;rw[eL]at f
  refine⟨?_,by lia⟩
  rw[cJ,bD (by lia),show Cm.length+i - Cm.length=i by lia,aW (by simpa using f)];unfold qa at a;rw[bA]at a|-;obtain⟨x,g,rfl⟩:=eZ a;rw[g];rfl
theorem Wv{a:List (Nat×Int×List Nat)}{rw:Nat}(h:Cn[rw]?=some (.l,a.map λz=>T.cell z.1))(j:∀z∈a,Cn[z.1]?=some (u0 z)):rD Cn rw (a.map (·.1)) (a.map rI):=by
 refine⟨by rw[bR];exact h,by simp,λi c r g d=>?_⟩
 rw[bA]at g d;obtain⟨z,b,rfl⟩:=eZ g;rw[b]at d;cases d;have f:=j z (aZ b)
 refine⟨?_,λe=>?_⟩
 ·rw[f];simp[u0,rI,nI]
 ·rw[e,h]at f;cases a with
  |nil=>simp at b
  |cons y a=>simp[u0]at f
end ek
namespace ek
open PySem L2 TL aI NF
variable{ws:List (Int×Int×Int)}{ps:List (Int×Int)}
theorem FW{e:Int}:ei [.lst (ws.map w3),.lst (ps.map pT),.int e]=true:=by rw[fW,fW,fW,hJ,gY,gY,gW,nA,kA];rfl
theorem HJ:ei [.lst (ws.map w3),.lst (ps.map pT)]=true:=by rw[fW,fW,hJ,gY,gY,nA,kA];rfl
theorem KE{a:List (Nat×Int×List Nat)}{i:Nat}(h:∀z∈a,1<=z.2.1/\∀i,z.2.2.count i<=1):0<=(a.map λz=>z.2.1*(z.2.2.count i:Int)).sum/\(a.map λz=>z.2.1*(z.2.2.count i:Int)).sum<=(a.map λz=>z.2.1).sum:=by
 induction a with
 |nil=>simp
 |cons z a ih=>
  obtain⟨j,g⟩:=ih λy b=>h y (aX _ b)
  obtain⟨f,c⟩:=h z bC;have d:=c i;rw[aK,aK,dG,dG];rcases(show z.2.2.count i=0\/z.2.2.count i=1 by lia)with e|e<;>rw[e]<;>simp<;>lia
end ek
namespace ek
open PySem L2 TL aI NF
theorem FH{ws:List (Int×Int×Int)}:dr 3 C (T.lst (ws.map w3))=some (.lst (ws.map w3)):=iH (by rw[gY,nA])
theorem HB{ps:List (Int×Int)}:dr 3 C (T.lst (ps.map pT))=some (.lst (ps.map pT)):=iH (by rw[gY,kA])
end ek
namespace aI
open PySem L2 TL NF
variable{ws:List (Int×Int×Int)}{ps:List (Int×Int)}{nd:List (List Int)}{bs fs:List Int}{z:Int}
theorem gf.mu(G:gf ws ps nd){hs a:List Int}(m:cu ps hs bs)(c:cu ps a fs)(l:hs.length=ws.length)(o:a.length=ws.length)(f:∀i:Nat,i<ws.length->bw hs i<=bw a i)(b:∀h∈a,0<=h):kS 0 (br bs hs)<=kS 0 (br fs a):=by
 obtain⟨k,j,q⟩:=c.C6 b
 refine G.fst m l (B:=λi=>bw fs i) k (λi _=>c.pos _) (λp b=>?_) λi d=>?_
 ·have t:=c.ge p b;have g:=G.gc _ b;have n:=f p.1.toNat (by lia);rw[bG g.1.1]at n|-;rw[bG g.2.1]
  lia
 ·have s:=f i d;have r:=j _ ⟨i,by rw[o];exact d,rfl⟩
  lia
structure lr(ws:List (Int×Int×Int))(ps:List (Int×Int))(nd:List (List Int))(bs fs:List Int)(z y:Int):Prop where
 g:gf ws ps nd
 AI:ps.length<=63
 e:cu ps (ws.map (·.2.1)) bs
 f:cu ps (ws.map jV) fs
 zz:kS 0 (br bs (ws.map (·.2.1)))=z
 yy:kS 0 (br fs (ws.map jV))=y
 le:i8 [.lst (ws.map w3),.lst (ps.map pT)]=some (.int z)
 fe:zR [.lst (ws.map w3),.lst (ps.map pT)]=some (.int y)
 z0:0<=z
 zy:z<=y
 yb:y<=8*2^252
theorem lr.of(r:ws.length<=8)(u:ps.length<=63)(o:ji ws.length ps)(n:tp ps)(c:∀w∈ws,rB w):∃nd bs fs z y,lr ws ps nd bs fs z y:=by
 obtain⟨nd,G⟩:=gf.ex r (by lia) o n c;have ends:∀f:Int×Int×Int->Int,(∀w∈ws,0<=f w)->∃bs,cu ps (ws.map f) bs/\mE [.lst ((ws.map f).map T.int),.lst (ps.map pT)]=some (.int (kS 0 (br bs (ws.map f)))):=by
  intro f t;have s:∀h∈ws.map f,0<=h:=λh g=>by
   obtain⟨w,a,rfl⟩:=fU g
   exact t w a
  have j:(ws.map f).length=ws.length:=aN _;have a:ji (ws.map f).length ps:=by rw[j];exact o
  obtain⟨_,e,bs,rfl,b⟩:=Wm (hs:=ws.map f) (by lia) (by lia) a n s
  exact⟨bs,b,length_eq e (by rw[b.len];lia)⟩
 have p:∀w∈ws,0<=w.2.1:=λw a=>(c w a).1
 have m:∀w∈ws,0<=jV w:=λw a=>by
  have h:=c w a;unfold jV;split
  ·exact h.1
  ·exact cL h.1 h.2.1
 obtain⟨bs,b,d⟩:=ends (·.2.1) p;obtain⟨fs,l,q⟩:=ends jV m
 refine⟨nd,bs,fs,_,_,G,u,b,l,rfl,rfl,WJ (by lia) d,Wp (by lia) q,G.CU b,?_,(G.free l (bonus:=0) (by decide)).1⟩
 refine G.mu b l (by simp) (by simp) (λi k=>?_) λh g=>?_
 ·have a:=c _ (c9 k);rw[nU (by simpa using k),nU (by simpa using k),aRA,aRA];unfold jV;split
  ·exact bM _
  ·exact a.2.1
 ·obtain⟨w,a,rfl⟩:=fU g;exact m w a
theorem lr.fh{y:Int}(L:lr ws ps nd bs fs z y):∀h∈ws.map jV,0<=h:=λh b=>by
 obtain⟨w,a,rfl⟩:=fU b;have h:=L.g.ok w a;unfold jV;split
 ·exact h.1
 ·exact cL h.1 h.2.1
theorem lr.en{y:Int}(L:lr ws ps nd bs fs z y):sL [.lst (ws.map w3),.lst (ps.map pT)]=some (.tup [.int z,.int y]):=by
 have d:=L.g.l8;have c:=L.AI;rw[<-L.zz,<-L.yy]
 exact Ts (by lia) (zI (by simp;lia) (by lia) (by simpa using L.g.gc) L.g.qh (λh b=>by
  obtain⟨w,a,rfl⟩:=fU b
  exact(L.g.ok w a).1) L.e) (zI (by simp;lia) (by lia) (by simpa using L.g.gc) L.g.qh L.fh L.f)
theorem Et{ns:List Int}(i:ns.length<=63){M:Nat}(k:4<=M)(j:M<=8){u:Int}(d:0<u)(h:u<=10^20):∃ws ps nd bs fs z y,Ba [.lst (ns.map T.int),.int M,.int u]=some (.tup [.lst (ws.map w3),.lst (ps.map pT)])/\lr ws ps nd bs fs z y/\ws.length<=M/\ps.length<=20/\∀w∈ws,tV w:=by
 obtain⟨_,l,ws,ps,rfl,f,m,c,rs,a,b⟩:=QV i k j d h;obtain⟨nd,bs,fs,z,y,L⟩:=lr.of (ws:=ws) (ps:=ps) (by lia) (by lia) (Al.M7 a b) (Al.qh a b) λw g=>(c w g).bd
 exact⟨ws,ps,nd,bs,fs,z,y,l,L,f,m,c⟩
end aI
namespace aI
open PySem L2 TL NF
variable{ws:List (Int×Int×Int)}{e:Int}{c:List (Nat×Int×List Nat)}{d:List (List Int)}
theorem Uj{rows:List (Int×List Int)}(j:ws.length<=100)(o:rows.length<90000)(f:∀r∈rows,∀w∈r.2,0<=w/\w<(ws.length:Int))(g:∀w∈ws,WB w)
 (h:∀i,Bt 1000 (v8 rows i))(l:Bt 1000 (rows.map (·.1)).sum)(k:Bt 1000 e):
 yF [.lst (ws.map w3),.lst (rows.map rT),.int e]=some (.int (FL ws rows e)):=by
 apply iP;unfold Ka;have b:∀{C Q},aJ (jZ 2 oN [.int ws.length,.lst (rows.map rT)] C) Q↔Q (.lst (((bH ws.length).map (v8 rows)).map T.int)) C:=V3 j f;walk_at "a";simp_arith[↓gE,↓gD,↓b,aN,rJ]
 refine⟨zG (by simp;lia),iG (λp=>T.int (g9 p.1 p.2)) (λp a=>?_) ?_⟩
 ·have n:=g p.1 (cY a).1;have m:Bt 1000 p.2:=by
   obtain⟨i,_,e⟩:=fU (cY a).2;rw[<-e];exact h i
  simp only[fw,aP,aK,aY,aV,aR,aQ,bP,bO,b9];simp_arith[↓gE,↓gD,↓yP]
 ·rw[n5]
  refine⟨_,rfl,(by(try simp only[aN]);unfold lim;lia),iG (λr=>T.int r.1) (λr _=>?_) ?_⟩
  ·simp only[fw,aP,aK,aY,aV,aR,aQ,bP,bO,b9];simp_arith[↓gE,↓gD,rT,↓gZ (Bg (α:=T))]
  ·rw[n5]
   refine⟨_,rfl,tZ k l (by decide),?_⟩
   exact iH gW
noncomputable def rws(c:List (Nat×Int×List Nat)):List (Int×List Int):=c.map λz=>(z.2.1,z.2.2.map λi:Nat=>(i:Int))
theorem Oh:(rws c).map rT=(c.map ek.rI).map iT:=by
 unfold rws;rw[bR,bR];rfl
theorem KZ{i:Nat}:∀{is:List Nat},(is.map λi:Nat=>(i:Int)).count (i:Int)=is.count i
 | []=>rfl
 |a::is=>by
  rw[aK,eG,eG,KZ];congr 1;by_cases h:a=i
  ·subst h;simp
  ·rw[if_neg (by simp;lia),if_neg (by simp;lia)]
theorem Kq{i:Nat}:v8 (rws c) i=(c.map λz=>z.2.1*(z.2.2.count i:Int)).sum:=by
 unfold v8 rws;rw[bR];congr 1
 refine cF λz _=>?_
 show z.2.1*_=_;rw[KZ]
theorem Kw:((rws c).map (·.1)).sum=(c.map λz=>z.2.1).sum:=by
 unfold rws;rw[bR];rfl
theorem T4{n:Nat}{g:Nat->Int}:((bH n).map g).sum=sm n g:=by
 induction n with
 |zero=>rfl
 |succ n ih=>rw[aSq,bN,aRH,ih];simp[sm]
theorem T6(h:∀i,i<ws.length->(gM ws).l i<=(gM ws).u i):
 FL ws (rws c) e=sm ws.length (λi=>min ((c.map λz=>z.2.1*(z.2.2.count i:Int)).sum*(gM ws).u i) ((gM ws).p i*((gM ws).u i - (gM ws).l i)+(c.map λz=>z.2.1*(z.2.2.count i:Int)).sum*(gM ws).l i)) - e*(c.map λz=>z.2.1).sum:=by
 unfold FL;rw[Kw];congr 1;rw[<-T4];congr 1;apply List.ext_getElem
 ·simp
 ·intro i k j;have a:i<ws.length:=by simpa using j
  obtain⟨g,f,b⟩:=ek.Fk a;have:=h i a;simp only[aRA,aS7,d4];rw[Kq];generalize (c.map λz=>z.2.1*(z.2.2.count i:Int)).sum=x;rw[<-J9 this];unfold g9;rw[g,f,b];split
  ·rfl
  ·rw[dA,aRQ];lia
def pA(ws:List (Int×Int×Int))(d:List (List Int))(e q:Int):Prop:=∃f a b,Good (gM ws) ws.length (j7 0 d) (plenty ws 0) f a b/\b 1=e/\a<=sm ws.length (gM ws).p/\q=len (jR ws d 0) f - a*e
theorem pA.MM{q b:Int}(h:pA ws d e q)(k:pA ws d e b):q=b:=by
 obtain⟨f,a,pp,G,j,_,rfl⟩:=h;obtain⟨m,n,g,l,i,_,rfl⟩:=k
 exact Mr G l j i
theorem wT{ps:List (Int×Int)}{bs fs:List Int}{z y:Int}(L:lr ws ps d bs fs z y)(M:e<2^300):
 (e<z->oS [.lst (ws.map w3),.lst (ps.map pT),.int e]=some .aH)/\
 (z<=e->∃q,oS [.lst (ws.map w3),.lst (ps.map pT),.int e]=some (.int q)/\pA ws d e q):=by
 have I:=L.z0;have R:=L.g.l8;obtain⟨P,B⟩:=WI L.g L.e L.f (by rw[L.zz];exact L.le) (e:=e);rw[L.zz]at P B;have n:∀{C Q},aJ (jZ 2 i8 [.lst (ws.map w3),.lst (ps.map pT)] C) Q↔Q (.int z) C:=f7 L.le rfl ek.HJ;constructor
 ·intro D;apply iP;unfold tS;walk_at "a"
  refine fJ (hX (gC (fD (fF rfl (fK (eX (fF rfl (eX (fF rfl (fE (n.mpr (f8 ⟨_,rfl,?_⟩))))))))))))
  rw[if_pos (decide_eq_true D)]
  exact fZ (fS (iH rfl))
 ·intro p;obtain⟨f2,O,G,c,rw,X,F,m,g,l,U,b,c1,c2,_⟩:=B p;have s:∀i,i<ws.length->(gM ws).l i<=(gM ws).u i:=λi k=>(pZ (P:=rB) L.g.ok k).2.1
  have H:=V4 m m g g s b;have R2:=(ek.Wv c1 c2).sh (C:=[]);have N:=R2.dr;have a:∀x∈c,1<=x.2.1/\∀i,x.2.2.count i<=1:=λx f=>⟨(b.ok x f).1,(b.ok x f).2.2.2.2⟩
  have K:=L.g.sP;have o:0<=(c.map λz=>z.2.1).sum/\(c.map λz=>z.2.1).sum<2^256:=by
   have v:=ek.KE (i:=0) a;have u:=b.sum
   refine⟨by lia,?_⟩
   have S:(8*2^252:Int)<2^256:=by decide
   lia
  have A:=Uj (ws:=ws) (rows:=rws c) (e:=e) (by lia) (by unfold rws;rw[aN];lia) (λr t w j=>by
   unfold rws at t;obtain⟨x,f,rfl⟩:=fU t;obtain⟨i,k,rfl⟩:=fU j;have:=(b.ok x f).2.2.1 i k
   lia) (λw j=>by
   have h:=L.g.ok w j;have J:0<=w.1:=cL h.1 h.2.1
   exact⟨Bt.mono (Bt.of_lt J (cD h.2.2.2.1 (by decide:(2^252:Int)<2^256))) (by decide),Bt.mono (Bt.of_lt h.1 (cU h.2.1 (cD h.2.2.2.1 (by decide:(2^252:Int)<2^256)))) (by decide),Bt.mono (Bt.of_lt h.2.2.1 (cD h.2.2.2.2 (by decide:(2^252:Int)<2^256))) (by decide)⟩) (λi=>by
   rw[Kq];have v:=ek.KE (i:=i) a;have u:(c.map λz=>z.2.1*(z.2.2.count i:Int)).sum<2^256:=by lia
   exact Bt.mono (Bt.of_lt v.1 u) (by decide)) (by
   rw[Kw]
   exact Bt.mono (Bt.of_lt o.1 o.2) (by decide)) (Bt.mono (Bt.of_lt (by lia) M) (by decide))
  rw[Oh,T6 s,<-H]at A
  refine⟨_,?_,f2,O,G,m,g,l,rfl⟩
  apply iP;unfold tS;walk_at "a"
  refine fJ (hX (gC (fD (fF rfl (fK (eX (fF rfl (eX (fF rfl (fE (n.mpr (f8 ⟨_,rfl,?_⟩))))))))))))
  rw[if_neg (by simpa using p)]
  refine gL (fN (fZ ?_))
  refine fK (eX (fF rfl (eX (fK (eX (fF rfl (eX (fF rfl (eX (fF rfl (fE ((ek.Mc F rfl ek.FW).mpr ?_))))))))))))
  refine eX (fF rfl (fE ?_))
  exact oM rfl (iC (iH (by rw[gY,nA])) (iC N (iC (iH gW) pR))) ⟨_,A,rfl,iH gW⟩
end aI
namespace aI
open PySem L2 TL NF
structure Pl(ws:List (Int×Int×Int))(ps:List (Int×Int))(e:Int)(b h:Nat->Int):Prop where
 b0:∀i,i<ws.length->0<=b i
 lh:∀i,i<ws.length->(gM ws).l i<=h i
 hu:∀i,i<ws.length->h i<=(gM ws).u i
 en:∀i,i<ws.length->b i+h i<=e
 ne:∀p∈ps,b p.1.toNat+h p.1.toNat<=b p.2.toNat
def cst(ws:List (Int×Int×Int))(h:Nat->Int):Int:=sm ws.length λi=>(gM ws).p i*((gM ws).u i - h i)
section
variable {ws:List (Int×Int×Int)}{ps:List (Int×Int)}{nd:List (List Int)}{bs fs:List Int}{z y e q:Int}{b h:Nat->Int}
theorem pA.plan(G:gf ws ps nd)(A:pA ws nd e q):∃b h,Pl ws ps e b h/\cst ws h=q:=by
 obtain⟨f,a,k,g,j,n,rfl⟩:=A;have W:=G.AH (bonus:=0) (by decide);obtain⟨d,m,l⟩:=J1 W g j (cU n W.pP) λi c=>(pZ (P:=rB) G.ok c).2.1
 exact⟨hG k,el (gM ws) k,⟨λi c=>(d i c).1,λi c=>(d i c).2.1,λi c=>(d i c).2.2.1,λi c=>(d i c).2.2.2,λp j=>m _ (DB G.gc G.oD j)⟩,l⟩
theorem Pl.Eb(G:gf ws ps nd)(p:Pl ws ps e b h):yv ws.length (j7 0 nd) e b h:=
 ⟨p.b0,p.en,λx a=>by
  have:=p.ne _ (A3 G.gc G.oD a).1;simpa using this⟩
theorem Pl.best(G:gf ws ps nd)(p:Pl ws ps e b h){P a:Int}{f:Nat->Int}(d:k0 (net (gM ws) ws.length (j7 0 nd) P) f a)(g:oh (net (gM ws) ws.length (j7 0 nd) P) f):len (net (gM ws) ws.length (j7 0 nd) P) f - a*e<=cst ws h:=by
 refine cL (NF.best d g (p.Eb G) p.lh) (aSV (jU λi c=>?_))
 have:=p.hu i c;unfold pos;split
 ·rfl
 ·rw[show(gM ws).u i - h i=0 by lia]
theorem pA.le(G:gf ws ps nd)(A:pA ws nd e q)(p:Pl ws ps e b h):q<=cst ws h:=by
 obtain⟨f,a,pp,g,c,d,rfl⟩:=A
 exact p.best G g.mr g.ko
theorem lr.Ei(L:lr ws ps nd bs fs z y)(p:Pl ws ps e b h)(f:0<=e):z<=e:=by
 have c:∀i:Nat,i<ws.length->bw (ws.map (·.2.1)) i=(gM ws).l i:=λi a=>by
  rw[nU (by simpa using a),aRA];show _=((ws[i]?).getD (0,0,0)).2.1;rw[aO a];rfl
 rw[<-L.zz]
 refine L.g.fst L.e (aN _) f p.b0 (λx d=>?_) λi a=>?_
 ·have n:=p.ne x d;have j:=L.g.gc _ d;have a:x.1.toNat<ws.length:=by lia
  have g:=c _ a;rw[bG j.1.1]at g;have:=p.lh _ a
  lia
 ·have m:=p.en i a;have l:=p.lh i a;have k:=c i a
  lia
end
end aI
namespace aI
open PySem L2 TL NF
section
variable {a c:List (Int×Int×Int)}{d f:List (Int×Int)}{g i:List (List Int)}{bs fs:List Int}{z y e q j t:Int}{b h:Nat->Int}
end
end aI
namespace aI
open PySem L2 TL NF
section
variable {a c:List (Int×Int×Int)}{d f:List (Int×Int)}{g i:List (List Int)}{bs fs:List Int}{z y e q j t:Int}{b h:Nat->Int}{rs:List Int}
noncomputable def bk(rs:List Int)(v:Nat):Nat:=rs.idxOf (v:Int)
end
end aI
namespace aI
open PySem L2 TL NF
section
variable {c d:List (Int×Int)}{m k:Nat}{x y a b:Int}
end
end aI
namespace qi
open PySem L2 TL aI
end qi
namespace qi
open PySem L2 TL aI NF
section
variable {a c:List (Int×Int×Int)}{d f:List (Int×Int)}{g h:List (List Int)}{bs fs i j:List Int}{z y l m:Int}
end
end qi
namespace qi
open PySem L2 TL aI NF
variable{G:FS}{Q:TL.Fl->aD->ab->Prop}{a:FB}
theorem jI{F:FS}{d:aD}{C:ab}(P:aD->ab->Prop)(h:wpS F d C λl b c=>l=.nx/\P b c)(g:∀b c,P b c->wpS G b c Q):wpS (f9 F G) d C Q:=by
 obtain⟨l,b,c,e,rfl,p⟩:=h;obtain⟨f,j,k,i,q⟩:=g b c p
 exact fJ ⟨_,_,_,e,f,j,k,i,q⟩
theorem o9{F:FS}{b:aD}{C:ab}(f:hA a b C λx c=>x=false/\c=C)(d:wpS G b C Q):wpS (er a F G) b C Q:=by
 obtain⟨x,c,e,rfl,rfl⟩:=f
 exact hX ⟨_,_,e,d⟩
theorem yH{F:FS}{b:aD}{C:ab}(f:hA a b C λx c=>x=true/\c=C)(d:wpS F b C Q):wpS (er a F G) b C Q:=by
 obtain⟨x,c,e,rfl,rfl⟩:=f
 exact hX ⟨_,_,e,d⟩
section
variable {c:List (Int×Int×Int)}{d:List (Int×Int)}{f:List (List Int)}{bs fs:List Int}{z y:Int}{g:List Int}
end
end qi
namespace ij
open PySem L2 TL aI
def pK:FS:=
 (f9 (gR (aA Y0 Y5) (gU [6,7,8]))
  (f9 (gR (n4 (gG 2 jE (fB Y2 (fB (jH (fI 140) Y5) fP))) (AZ (gG 2 jE (fB Y2 (fB (jH (fI 150) Y5) fP))) (fI 3))) (gN 9))
  (f9 (gR (n4 (kH (rC Y9 (fI 7)) (jH Y6 (fI 2))) (qX (fB (jx (kH (gG 2 jE (fB Y2 (fB (jH (fI 160) Y5) fP))) (fI 3)) (fI 0)) fP))) (gN 10))
  (f9 (er (jD (jx (kH (gG 2 iW (fB Y3 (fB (fI 61) fP))) (fI 2)) (fI 1))) (f9 (gR (gG 2 iW (fB Y3 (fB (jH (fI 20) Y5) fP))) (gN 9))
  (gR (kH (gG 2 iW (fB Y3 (fB (jH (fI 30) Y5) fP))) (AZ (fI 10) (fI 31))) (gN 10))) jK)
  (xE Y4 (fB (jW (iN (fB AD (fB (jH Y7 (kH Y9 (jH (pO Y6 Y7) (fI 1)))) fP)))) fP))))))
def pM:FS:=
 (sC (Au (fB (aA (aA Y4 CG) (fI 0)) (fB (jH (aA (aA Y4 AC) (fI 0)) (aA (aA Y4 AC) (fI 1))) fP))) (aA Y4 CG) (fI 0))
def tL:FS:=
 (pW Y1 (gU [11,12])
  pM)
def wR:FS:=
 (f9 (gR (jW (iN fP)) (gN 4))
  (f9 (mC (nE (fB Y0 fP)) (gN 5)
   pK)
  (f9 (mC (nE (fB Y0 fP)) (gN 5)
   tL)
  (iF Y4))))
def nX:List T->Option T:=jM wR 13
def Ug:FS:=
 (iF (Hu (gG 1 nK (fB Y0 fP)) Y1))
def l5:List T->Option T:=jM Ug 2
def JX:FS:=
 (iF (zW (EC (aA Y0 (fI 0)) Y1) (AA (gG 2 l5 (fB Y0 (fB Y1 fP))))))
def pE:List T->Option T:=jM JX 2
def rH:FS:=
 (f9 (er (mX (gG 2 pE (fB Y1 (fB Y2 fP)))) (iF (gT (FC (fB Y0 fP)))) jK)
  (f9 (er (mX (gG 2 l5 (fB Y1 (fB Y2 fP)))) (iF (gT (iN (fB (fI 0) (fB (fI 0) (fB (fI 0) fP)))))) jK)
  (f9 (gR (pO (gG 1 nK (fB Y1 fP)) Y2) (gN 3))
  (iF (gT (iN (fB Y3 (fB Y3 (fB (fI 0) fP)))))))))
def nC:List T->Option T:=jM rH 4
def L8:FS:=
 (f9 (oB (gG 2 lW (fB (nE (fB Y0 fP)) (fB Y1 fP))))
  (f9 (gR (gT (oY Y0 Y2 2 [3] (gU [0,1]) iI (gG 3 nC (fB Y0 (fB Y1 (fB Y2 fP)))))) (gN 4))
  (f9 (gR (gT (kZ Y1 1 [2,3] (gN 0) (l9 (mX (gG 2 l5 (fB (aA Y1 (aA Y0 (fI 0))) (fB Y2 fP))))) (gT (FC (fB Y0 fP))))) (gN 5))
  (iF (u4 (fB Y4 (fB Y5 fP)))))))
def l4:List T->Option T:=jM L8 6
def Kh:FS:=
 (f9 (gR (gT (oY Y0 Y1 2 [2] (gU [0,1]) (l9 (mX (gG 2 pE (fB Y1 (fB Y2 fP))))) (gT (iN (fB Y0 (fB Y1 fP)))))) (gN 3))
  (iF (gG 2 qT (fB (gT (kZ Y3 2 [] (gU [0,1]) iI Y0)) (fB (gT (kZ Y3 2 [] (gU [0,1]) iI Y1)) fP)))))
def pG:List T->Option T:=jM Kh 4
def LQ:FS:=
 (f9 (gR (gG 4 l4 (fB Y0 (fB Y1 (fB Y2 (fB Y4 fP))))) (gU [5,6]))
  (iF (jH (gG 3 pG (fB Y0 (fB Y2 (fB Y4 fP)))) (gG 3 oS (fB Y5 (fB Y6 (fB (pO Y3 Y4) fP)))))))
def pY:List T->Option T:=jM LQ 7
def zN:FS:=
 (f9 (gR (gG 2 jE (fB Y2 (fB (fI 170) fP))) (gN 3))
  (f9 (er (oC (jD (jx Y0 (gT (iN fP)))) (jD (jx (kH Y3 (fI 5)) (fI 0)))) (iF (kH (n4 Y3 (AZ (gG 2 jE (fB Y2 (fB (fI 171) fP))) (fI 3))) (jH Y1 (fI 1)))) jK)
  (f9 (gR (aA Y0 (kH (rC Y3 (fI 5)) (nE (fB Y0 fP)))) (gU [4,5]))
  (iF (aA (gT (iN (fB Y4 (fB (jH Y4 Y5) (fB (tM (fB Y1 (fB (jH Y4 (fI 1)) fP))) (fB (Au (fB (fI 0) (fB (pO (jH Y4 Y5) (fI 1)) fP))) fP)))))) (pO (kH Y3 (fI 5)) (fI 1)))))))
def mP:List T->Option T:=jM zN 6
def zL:FS:=
 (f9 (gR (Au (fB (fI 0) (fB (pO (jH Y3 Y4) (Au (fB Y3 (fB Y1 fP)))) fP))) (gN 5))
  (xE Y2 (fB (gT (iN (fB (n4 (Au (fB (fI 0) (fB (pO Y3 Y1) fP))) (qX (fB (A0 (jw Y5 (fI 0)) (jw Y3 Y1)) fP))) (fB Y5 fP)))) fP)))
def KR:FS:=
 (f9 (gR (jW (iN fP)) (gN 2))
  (f9 (pW Y0 (gU [3,4])
   zL)
  (iF Y2)))
def u3:List T->Option T:=jM KR 6
def LR:FS:=
 (f9 (gR (gG 4 l4 (fB Y0 (fB Y1 (fB Y2 (fB Y3 fP))))) (gU [5,6]))
  (f9 (gR (gG 2 u3 (fB Y2 (fB Y3 fP))) (gN 7))
  (f9 (gR (gG 3 pG (fB Y0 (fB Y2 (fB Y3 fP)))) (gN 8))
  (f9 (er (jD (j3 (gG 4 l4 (fB Y5 (fB Y6 (fB Y7 (fB (pO Y4 Y3) fP))))) (gG 4 l4 (fB Y0 (fB Y1 (fB Y2 (fB Y4 fP))))) AO)) (iF (fC (.bl false))) jK)
  (iF (jx (jH Y8 (gG 3 pG (fB Y5 (fB Y7 (fB (pO Y4 Y3) fP))))) (gG 3 pG (fB Y0 (fB Y2 (fB Y4 fP))))))))))
def sQ:List T->Option T:=jM LR 9
def nN:FS:=
 (f9 (gR (aA Y3 Y4) (gN 5))
  (f9 (er (oC (l9 (mX (vQ "list" Y5))) (oC (jD (Da (nE (fB Y5 fP)) (fI 2))) (oC (l9 (mX (gG 1 nT (fB (aA Y5 (fI 0)) fP)))) (l9 (mX (gG 1 nT (fB (aA Y5 (fI 1)) fP))))))) (iF (fC (.bl false))) jK)
  (er (oC (jD (pa (aA Y5 (fI 0)) (fI 0))) (oC (jD (pa (aA Y5 (fI 1)) (aA (aA Y0 Y4) (fI 1)))) (oC (jD (jw (aA Y5 (fI 1)) (aA (aA Y0 Y4) (fI 0)))) (jD (jw (jH (aA Y5 (fI 0)) (aA Y5 (fI 1))) Y2))))) (iF (fC (.bl false))) jK)))
def pH:FS:=
 (f9 (er (oC (l9 (mX (vQ "list" Y3))) (jD (Da (nE (fB Y3 fP)) (nE (fB Y0 fP))))) (iF (fC (.bl false))) jK)
  (f9 (mC (nE (fB Y0 fP)) (gN 4)
   nN)
  (iF (Cj (fB (gT (kZ Y1 2 [3] (gU [0,1]) iI (EC (aA (aA Y2 Y1) (fI 0)) (jH (aA (aA Y2 Y0) (fI 0)) (aA (aA Y2 Y0) (fI 1)))))) fP)))))
def lV:List T->Option T:=jM pH 6
def sV:FS:=
 (iF (An (fB (gT (lA (nE (fB Y0 fP)) 1 [0,1] (gN 0) iI (n4 (aA (aA Y1 Y0) (fI 2)) (pO (aA (aA Y1 Y0) (fI 0)) (aA (aA Y2 Y0) (fI 1)))))) fP)))
def lY:List T->Option T:=jM sV 2
def Im:FS:=
 (f9 (gR (gG 3 Ba (fB Y0 (fB (fI 8) (fB (AZ (fI 10) (fI 20)) fP)))) (gU [1,2]))
  (f9 (gR (gG 2 iW (fB Y0 (fB (fI 2) fP))) (gN 3))
  (f9 (gR (gG 4 nX (fB Y1 (fB Y2 (fB Y3 (fB Y0 fP))))) (gN 4))
  (f9 (gR (Fu (fB (gT (B9 (gT (kZ Y4 2 [] (gU [0,1]) iI (jH Y0 Y1))) (gT (iN (fB (fI 0) fP))))) fP)) (gN 5))
  (f9 (gR (gT (BZ (fB (gT (iN (fB (gG 3 mP (fB Y4 (fB Y5 (fB Y3 fP)))) (fB (gG 3 mP (fB Y4 (fB Y5 (fB (jH Y3 (fI 1)) fP)))) fP)))) fP))) (gN 6))
  (f9 (er (l9 (mX (gG 5 sQ (fB Y1 (fB Y2 (fB Y4 (fB (aA Y6 (fI 0)) (fB (aA Y6 (fI 1)) fP)))))))) (iF (fC (.bl false))) jK)
  (f9 (gR (gG 5 pY (fB Y1 (fB Y2 (fB Y4 (fB Y5 (fB (aA Y6 (fI 1)) fP)))))) (gN 7))
  (f9 (er (oC (l9 (mX (gG 1 nT (fB Y7 fP)))) (jD (jw Y7 (gG 2 lY (fB Y1 (fB Y4 fP)))))) (iF (fC (.bl false))) jK)
  (f9 (gR (gG 2 sL (fB Y1 (fB Y2 fP))) (gU [8,9]))
  (f9 (gR (jH (n4 (gG 2 jE (fB Y3 (fB (fI 70) fP))) (AZ (gG 2 jE (fB Y3 (fB (fI 71) fP))) (fI 3))) (gG 2 iW (fB Y0 (fB (fI 62) fP)))) (gN 10))
  (f9 (gR (jH Y8 (kH AD (jH (pO Y9 Y8) (fI 1)))) (gN 5))
  (f9 (gR (Gd 3 nH (fB Y1 (fB Y2 (fB Y5 fP)))) (gN 4))
  (f9 (er (l9 (mX (gG 4 lV (fB Y1 (fB Y2 (fB Y5 (fB Y4 fP))))))) (iF (fC (.bl false))) jK)
  (f9 (gR (gG 3 mP (fB Y4 (fB Y5 (fB (jH Y3 (fI 2)) fP)))) (gN 11))
  (iF (jx (gG 5 pY (fB Y1 (fB Y2 (fB Y4 (fB Y5 (fB AC fP)))))) (gG 2 lY (fB Y1 (fB Y4 fP)))))))))))))))))))
def Ds:List T->Option T:=jM Im 12
end ij
namespace ij
open PySem L2 TL aI NF
noncomputable abbrev W3:=Int×Int×Int
noncomputable abbrev Rw:=Int×Int
noncomputable def dn(r:Rw)(m:Int):Bool:=decide (r.1+r.2<=m)
def wt(r:Rw)(m:Int):Bool:=decide (m<=r.1)&& !(dn r m)
def jc(w:W3)(r:Rw)(m:Int):W3:=if wt r m=true then w else if dn r m=true then(0,0,0)else(r.1+r.2 - m,r.1+r.2 - m,0)
def lf(m:Int)(r:Rw):Rw:=if wt r m=true then(r.1 - m,r.2)else if dn r m=true then(0,0)else(0,r.1+r.2 - m)
noncomputable def pr(p:W3×Rw):Int:=p.1.2.2*(p.1.1 - p.2.2)
noncomputable def aB(rs:List Rw)(i:Int):Rw:=rs.getD i.toNat (0,0)
def pz(ps rs:List Rw)(m:Int):List Rw:=ps.filter λp=> !(dn (aB rs p.1) m)
def fz(ws:List W3)(rs:List Rw)(m:Int):List W3:=(ws.zip rs).map λp=>jc p.1 p.2 m
def zf(a:List W3)(rs:List Rw)(m:Int):List (W3×Rw):=(a.zip rs).filter λp=> !(wt p.2 m)
def tu(a:List W3)(rs:List Rw)(m:Int):Int:=((zf a rs m).map pr).sum
section
variable {ws:List W3}{ps rs:List Rw}{w:W3}{r:Rw}{m i:Int}{C:ab}{Q:T->ab->Prop}
theorem GD:l5 [pT r,.int m]=some (.bl (dn r m)):=rfl
theorem B2:ei [pT r,T.int m]=true:=by rw[fW,fW,hJ,Dy,gW];rfl
theorem y4:aJ (jZ 2 l5 [pT r,.int m] C) Q↔Q (.bl (dn r m)) C:=f7 GD rfl B2
theorem TH:pE [pT r,.int m]=some (.bl (wt r m)):=by
 have h:∀b:Bool,decide (m<=r.1)=b->pE [pT r,.int m]=some (.bl (b&& !(dn r m))):=λb a=>by
  apply iP;unfold JX;walk_at "a"
  refine fZ (JD.mpr (fD (gK (ek.Ad (a:=0) rfl rfl rfl) (fF rfl (f8 ⟨b,congrArg T.bl a,?_⟩)))))
  cases b
  ·exact(if_neg bJ).mpr (iH mB)
  ·exact(if_pos rfl).mpr (gK (t:=.bl (!(dn r m))) rfl (iH mB))
 exact h _ rfl
theorem MH:aJ (jZ 2 pE [pT r,.int m] C) Q↔Q (.bl (wt r m)) C:=f7 TH rfl B2
theorem U1:aJ (jZ 1 nK [pT r] C) Q↔Q (.int (r.1+r.2)) C:=f7 (show nK [pT r]=_ from rfl) rfl (by rw[fW,hJ,Dy];rfl)
theorem UL:nC [w3 w,pT r,.int m]=some (w3 (jc w r m)):=by
 apply iP;unfold rH jc;walk_at "a";simp_arith[↓gE,↓gD,↓y4,↓MH,↓U1,F9];split
 ·exact iH Be
 ·split
  ·exact⟨by decide,iH (by walk_at "c")⟩
  ·exact⟨by simp[lim],iH (by walk_at "c")⟩
structure yt(ws:List W3)(rs:List Rw):Prop where
 len:rs.length=ws.length
 sd:ws.length<=8
 Bk:∀w∈ws,rB w
 Ez:∀p∈ws.zip rs,p.1.2.1<=p.2.2/\p.2.2<=p.1.1
theorem yt.mul(P:yt ws rs){p:W3×Rw}(a:p∈ws.zip rs):m7 p.1.2.2 (p.1.1 - p.2.2)=true:=by
 obtain⟨g,f,c,d,b⟩:=P.Bk p.1 (cY a).1;obtain⟨f1,f2⟩:=P.Ez p a
 exact tZ (Bt.of_lt (k:=252) c b) (Bt.of_lt (k:=252) (by lia) (by lia)) (by decide)
theorem LL:∀{ps:List (W3×Rw)},(ps.map aTA).zip (ps.map aTB)=ps
 | []=>rfl
 |p::ps=>congrArg (p:: ·) (LL (ps:=ps))
theorem zY{ps:List (W3×Rw)}(c:ps.length<=100)(b:∀p∈ps,m7 p.1.2.2 (p.1.1 - p.2.2)=true):qT [.lst ((ps.map aTA).map w3),.lst ((ps.map aTB).map pT)]=some (.int (ps.map pr).sum):=by
 apply iP;unfold y3;walk_at "a";simp_arith[↓gE,↓gD,rJ,LL]
 refine⟨by simp[lim];lia,iG (λp=>T.int (pr p)) (λp a=>?_) ?_⟩
 ·simp only[fw,aP,aK,aY,aV,aR,aQ,bP,bO,b9];simp_arith[↓gE,↓gD,w3,pT,↓gZ (Bg (α:=T)),↓gZ (Bh (α:=T)),↓gZ (DE (α:=T))]
  exact⟨b p a,rfl⟩
 ·rw[n5]
  exact⟨_,rfl,iH gW⟩
theorem Dg:ei [T.lst (ws.map w3),T.lst (rs.map pT)]=true:=by rw[fW,fW,hJ,gY,gY,nA,kA];rfl
theorem uP(P:yt ws rs):pG [.lst (ws.map w3),.lst (rs.map pT),.int m]=some (.int (tu ws rs m)):=by
 have b:(ws.zip rs).length<=8:=by have:=P.sd;rw[b7];lia
 have d:(zf ws rs m).length<=8:=bV (dR _ _) b;have c:=zY (ps:=zf ws rs m) (by lia) λp a=>P.mul (iK a).1
 apply iP;unfold Kh;walk_at "a"
 refine fJ (fQ (fV (vY.mpr (fF rfl (fF rfl ⟨_,rfl,_,rfl,?_⟩)))))
 rw[rJ]
 refine⟨by rw[aN];simp only[lim];lia,sZ (λp=> !(wt p.2 m)) (λp=>T.lst [w3 p.1,pT p.2]) (λp a=>?_) ?_⟩
 ·exact iO ⟨_,rfl,rfl,jP (iU (fK (eX (fF rfl (eX (fF rfl (fE (MH.mpr ⟨wt p.2 m,rfl,rfl,rfl,λ_=>fV (gS (eX (fF rfl (eX (fF rfl (fE ⟨by simp[lim],rfl,rfl⟩))))))⟩))))))))⟩
 change ls (gN 3) (T.lst ((zf ws rs m).map _)) _ _ _
 refine fL (fN (fZ (fK (eX (fV (iQ (gP ⟨_,rfl,_,rfl,by rw[aN];simp only[lim];lia,iG (λp=>w3 p.1) (λp a=>iO ⟨_,rfl,rfl,fF rfl ⟨rfl,rfl⟩⟩) ?_⟩)))))))
 refine eX (fV (iQ (gP ⟨_,rfl,_,rfl,by rw[aN];simp only[lim];lia,iG (λp=>pT p.2) (λp a=>iO ⟨_,rfl,rfl,fF rfl ⟨rfl,rfl⟩⟩) ?_⟩)))
 rw[show(zf ws rs m).map (λp=>w3 p.1)=((zf ws rs m).map aTA).map w3 by rw[bR];rfl,show(zf ws rs m).map (λp=>pT p.2)=((zf ws rs m).map aTB).map pT by rw[bR];rfl]
 exact fE ((f7 c rfl Dg).mpr (iH gW))
theorem Jf(a:0<=i)(b:i<rs.length):dh (rs.map pT) i=some (pT (aB rs i)):=by
 unfold aB;rw[oO a,bA,bI,aO (by lia)];rfl
theorem Sv(P:yt ws rs)(k:ps.length<=63)(a:ji ws.length ps)(g:tp ps):l4 [.lst (ws.map w3),.lst (ps.map pT),.lst (rs.map pT),.int m]=some (.tup [.lst ((fz ws rs m).map w3),.lst ((pz ps rs m).map pT)]):=by
 obtain⟨_,j,o,rfl,_⟩:=pS (m:=ws.length) (ps:=ps) P.sd (by lia) a g;have f:∀{C Q},aJ (jZ 2 lW [.int ws.length,.lst (ps.map pT)] C) Q↔Q (.lst (o.map T.int)) C:=f7 j rfl (by rw[fW,fW,hJ,gY,gW,kA];rfl);have h:(ws.zip rs).length<=8:=by have:=P.sd;rw[b7];lia
 apply iP;unfold L8;walk_at "a"
 refine qi.jI (λd C=>C=[]/\d=[some (.lst (ws.map w3)),some (.lst (ps.map pT)),some (.lst (rs.map pT)),some (.int m),none,none]) (by simp_arith[↓gE,↓gD,↓f,aN]) ?_
 rintro _ _ ⟨rfl,rfl⟩
 refine fJ (fQ (fV (vY.mpr (fF rfl (fF rfl ⟨_,rfl,_,rfl,?_⟩)))))
 rw[rJ]
 refine⟨by rw[aN];simp only[lim];lia,iG (λp=>w3 (jc p.1 p.2 m)) (λp b=>?_) ?_⟩
 ·exact iO ⟨_,rfl,rfl,fK (eX (fF rfl (eX (fF rfl (eX (fF rfl (fE ((f7 UL rfl (by rw[fW,fW,fW,hJ,Be,Dy,gW];rfl)).mpr ⟨rfl,rfl⟩))))))))⟩
 rw[show(ws.zip rs).map (λp=>w3 (jc p.1 p.2 m))=(fz ws rs m).map w3 by unfold fz;rw[bR];rfl]
 refine fL (fN (fJ (fQ (fV (iQ (gP ⟨_,rfl,_,rfl,by rw[aN];simp only[lim];lia,sZ (λp=> !(dn (aB rs p.1) m)) pT (λp b=>?_) ?_⟩))))))
 ·have c:=a p b
  exact fL (jP (iU (fK (eX (fD (fF rfl (gK (ek.Ad (a:=0) rfl rfl rfl) (gF ⟨_,rfl,_,Jf c.1.1 (by rw[P.len];exact c.1.2),eX (fF rfl (fE (y4.mpr ⟨_,rfl,rfl,rfl,λ_=>fV (rR.mpr (eX (fF rfl (fE (Ll.mpr ⟨_,rfl,rfl,rfl⟩)))))⟩)))⟩))))))))
 exact fL (fN (fZ (mL (eX (fF rfl (eX (fF rfl (fE ⟨by simp[lim],iH (by rw[lE];exact Dg)⟩))))))))
end
end ij
namespace ij
open PySem L2 TL aI NF
section
variable {ws:List W3}{ps rs:List Rw}{m e:Int}{i:Nat}{b' a:Nat->Int}
variable{r:Rw}
theorem uQ:aB rs (i:Int)=rs.getD i (0,0):=by unfold aB;rw[cB]
theorem wA(b:rs.length=ws.length):(fz ws rs m).length=ws.length:=by unfold fz;rw[aN,b7];lia
theorem CA(c:rs.length=ws.length)(b:i<ws.length):(ws.zip rs)[i]?=some ((ws[i]?).getD (0,0,0),aB rs i):=by
 rw[uQ,aO (by rw[b7];lia),aS7,bI,aO b,aO (by lia)];rfl
theorem Ff(b:rs.length=ws.length)(c:i<ws.length):((fz ws rs m)[i]?).getD (0,0,0)=jc ((ws[i]?).getD (0,0,0)) (aB rs i) m:=by
 unfold fz;rw[bA,CA b c];rfl
theorem dg(h:0<=r.2):(wt r m=true/\m<=r.1/\m<r.1+r.2)\/(wt r m=false/\dn r m=true/\r.1+r.2<=m)\/(wt r m=false/\dn r m=false/\r.1<m/\m<r.1+r.2):=by
 by_cases d:r.1+r.2<=m
 ·have b:dn r m=true:=decide_eq_true d
  exact .inr (.inl ⟨by unfold wt;rw[b];simp,b,d⟩)
 ·have b:dn r m=false:=decide_eq_false d;by_cases c:m<=r.1
  ·exact .inl ⟨by unfold wt;rw[b,decide_eq_true c];rfl,c,by lia⟩
  ·exact .inr (.inr ⟨by unfold wt;rw[decide_eq_false c];rfl,b,by lia,by lia⟩)
abbrev rb(rs:List Rw)(i:Nat):Int:=(aB rs i).1
abbrev rh(rs:List Rw)(i:Nat):Int:=(aB rs i).2
theorem E1(b:rs.length=ws.length)(c:i<ws.length)(h:wt (aB rs i) m=true):(gM (fz ws rs m)).u i=(gM ws).u i/\(gM (fz ws rs m)).l i=(gM ws).l i/\(gM (fz ws rs m)).p i=(gM ws).p i:=by
 have e:((fz ws rs m)[i]?).getD (0,0,0)=(ws[i]?).getD (0,0,0):=by rw[Ff b c];exact if_pos h
 exact⟨congrArg (·.1) e,congrArg (·.2.1) e,congrArg (·.2.2) e⟩
theorem HE(b:rs.length=ws.length)(c:i<ws.length)(h:wt (aB rs i) m=false)(d:dn (aB rs i) m=true):(gM (fz ws rs m)).u i=0/\(gM (fz ws rs m)).l i=0/\(gM (fz ws rs m)).p i=0:=by
 have e:((fz ws rs m)[i]?).getD (0,0,0)=(0,0,0):=by rw[Ff b c];unfold jc;rw[if_neg (by rw[h];simp),if_pos d]
 exact⟨congrArg (·.1) e,congrArg (·.2.1) e,congrArg (·.2.2) e⟩
theorem EU(b:rs.length=ws.length)(c:i<ws.length)(h:wt (aB rs i) m=false)(d:dn (aB rs i) m=false):(gM (fz ws rs m)).u i=rb rs i+rh rs i - m/\(gM (fz ws rs m)).l i=rb rs i+rh rs i - m/\(gM (fz ws rs m)).p i=0:=by
 have e:((fz ws rs m)[i]?).getD (0,0,0)=(rb rs i+rh rs i - m,rb rs i+rh rs i - m,0):=by rw[Ff b c];unfold jc;rw[if_neg (by rw[h];simp),if_neg (by rw[d];simp)]
 exact⟨congrArg (·.1) e,congrArg (·.2.1) e,congrArg (·.2.2) e⟩
theorem t6(h:wt r m=true):lf m r=(r.1 - m,r.2):=if_pos h
theorem B8(h:wt r m=false)(b:dn r m=true):lf m r=(0,0):=by unfold lf;rw[if_neg (by rw[h];simp),if_pos b]
theorem Am(h:wt r m=false)(b:dn r m=false):lf m r=(0,r.1+r.2 - m):=by unfold lf;rw[if_neg (by rw[h];simp),if_neg (by rw[b];simp)]
theorem RL(h:rs.length=ws.length)(s:ji ws.length ps)(j:∀i,i<ws.length->0<=rh rs i)(p:Pl ws ps e (rb rs) (rh rs))(B:m<=e):Pl (fz ws rs m) (pz ps rs m) (e - m) (λi=>(lf m (aB rs i)).1) (λi=>(lf m (aB rs i)).2):=by
 have A:=wA (m:=m) h;have key:∀i,i<ws.length->0<=(lf m (aB rs i)).1/\(gM (fz ws rs m)).l i<=(lf m (aB rs i)).2/\(lf m (aB rs i)).2<=(gM (fz ws rs m)).u i/\(lf m (aB rs i)).1+(lf m (aB rs i)).2<=e - m:=λi b=>by
  have z:=p.lh i b;have y:=p.hu i b;have C:=p.en i b;rcases dg (r:=aB rs i) (m:=m) (j i b)with⟨w,c1,c2⟩| ⟨w,d,c1⟩| ⟨w,d,c1,c2⟩
  ·obtain⟨g,f,_⟩:=E1 h b w;rw[t6 w,g,f];dsimp only
   exact⟨by lia,z,y,by lia⟩
  ·obtain⟨g,f,_⟩:=HE h b w d;rw[B8 w d,g,f];dsimp only
   exact⟨by lia,by lia,by lia,by lia⟩
  ·obtain⟨g,f,_⟩:=EU h b w d;rw[Am w d,g,f];dsimp only
   exact⟨by lia,by lia,by lia,by lia⟩
 refine⟨λi b=>(key i (by lia)).1,λi b=>(key i (by lia)).2.1,λi b=>(key i (by lia)).2.2.1,λi b=>(key i (by lia)).2.2.2,λx q=>?_⟩
 obtain⟨k,o⟩:=iK q;have c:=s x k;have n:=p.ne x k;have l:dn (aB rs (x.1.toNat:Int)) m=false:=by rw[bG c.1.1];simpa using o
 have v:=j x.1.toNat (by lia);have u:=j x.2.toNat (by lia);have t:m<rb rs x.1.toNat+rh rs x.1.toNat:=by have:=of_decide_eq_false l;lia
 have wb:wt (aB rs (x.2.toNat:Int)) m=true:=by
  rcases dg (r:=aB rs (x.2.toNat:Int)) (m:=m) u with⟨w,_⟩| ⟨_,_,c1⟩| ⟨_,_,c1,_⟩
  ·exact w
  ·lia
  ·lia
 rw[t6 wb];rcases dg (r:=aB rs (x.1.toNat:Int)) (m:=m) v with⟨w,_⟩| ⟨_,d,_⟩| ⟨w,d,_,_⟩
 ·rw[t6 w];dsimp only;lia
 ·rw[l]at d;cases d
 ·rw[Am w d];dsimp only;lia
def wb(rs:List Rw)(m:Int)(b':Nat->Int)(i:Nat):Int:=if wt (aB rs i) m=true then m+b' i else rb rs i
def wh(rs:List Rw)(m:Int)(a:Nat->Int)(i:Nat):Int:=if wt (aB rs i) m=true then a i else rh rs i
theorem TC(k:rs.length=ws.length)(u:ji ws.length ps)(q:∀i,i<ws.length->0<=rh rs i)(D:0<=m)(p:Pl ws ps e (rb rs) (rh rs))(f:Pl (fz ws rs m) (pz ps rs m) (e - m) b' a):Pl ws ps e (wb rs m b') (wh rs m a):=by
 have C:=wA (m:=m) k;have g:∀i,wt (aB rs (i:Nat)) m=true->wb rs m b' i=m+b' i/\wh rs m a i=a i:=λi w=>⟨if_pos w,if_pos w⟩
 have h:∀i,wt (aB rs (i:Nat)) m=false->wb rs m b' i=rb rs i/\wh rs m a i=rh rs i:=λi w=>⟨if_neg (by rw[w];simp),if_neg (by rw[w];simp)⟩
 have key:∀i,i<ws.length->0<=wb rs m b' i/\(gM ws).l i<=wh rs m a i/\wh rs m a i<=(gM ws).u i/\wb rs m b' i+wh rs m a i<=e:=λi b=>by
  cases w:wt (aB rs (i:Nat)) m
  ·rw[(h i w).1,(h i w).2]
   exact⟨p.b0 i b,p.lh i b,p.hu i b,p.en i b⟩
  ·obtain⟨t,l,_⟩:=E1 k b w;have I:=f.b0 i (by lia);have A:=f.lh i (by lia);have z:=f.hu i (by lia);have H:=f.en i (by lia);rw[(g i w).1,(g i w).2,<-t,<-l]
   exact⟨by lia,A,z,by lia⟩
 refine⟨λi b=>(key i b).1,λi b=>(key i b).2.1,λi b=>(key i b).2.2.1,λi b=>(key i b).2.2.2,λx j=>?_⟩
 have c:=u x j;have n:=p.ne x j;have y:=q x.1.toNat (by lia);have o:=q x.2.toNat (by lia);have F:=f.b0 x.2.toNat (by lia);rcases dg (r:=aB rs (x.1.toNat:Int)) (m:=m) y with⟨w,c1,c2⟩| ⟨w,d,c1⟩| ⟨w,d,c1,c2⟩
 ·have s:=f.ne x (j9 ⟨j,by rw[<-bG c.1.1];exact(aSX _).mpr (decide_eq_false (by lia))⟩);rcases dg (r:=aB rs (x.2.toNat:Int)) (m:=m) o with⟨v,_⟩| ⟨_,_,_⟩| ⟨_,_,_,_⟩
  ·rw[(g _ w).1,(g _ w).2,(g _ v).1];lia
  ·lia
  ·lia
 ·rw[(h _ w).1,(h _ w).2];cases v:wt (aB rs (x.2.toNat:Int)) m
  ·rw[(h _ v).1];exact n
  ·rw[(g _ v).1];lia
 ·have s:=f.ne x (j9 ⟨j,by rw[<-bG c.1.1];exact(aSX _).mpr d⟩);have B:=f.lh x.1.toNat (by lia);have G:=f.b0 x.1.toNat (by lia);obtain⟨_,l,_⟩:=EU k (show x.1.toNat<ws.length by lia) w d;rcases dg (r:=aB rs (x.2.toNat:Int)) (m:=m) o with⟨v,_⟩| ⟨_,_,_⟩| ⟨_,_,_,_⟩
  ·rw[(h _ w).1,(h _ w).2,(g _ v).1];lia
  ·lia
  ·lia
theorem zT{b:Type}{f:b->Bool}{g:b->Int}:∀{zs:List b},((zs.filter f).map g).sum=(zs.map λx=>if f x=true then g x else 0).sum
 | []=>rfl
 |x::zs=>by
  rw[aK,dG,<-zT (zs:=zs)];by_cases h:f x=true
  ·rw[aSg h,aK,dG,if_pos h]
  ·rw[aSh h,if_neg h,dF]
theorem Pz(b:rs.length=ws.length):tu ws rs m=sm ws.length λi=>if wt (aB rs i) m=true then 0 else(gM ws).p i*((gM ws).u i - rh rs i):=by
 unfold tu zf;rw[zT,<-JI (d:=((0,0,0),(0,0))),b7,b,aSQ]
 refine jU λi c=>?_
 rw[CA b c];show(if(!(wt (aB rs i) m))=true then _ else _)=_;cases h:wt (aB rs i) m<;>rfl
theorem P9(b:rs.length=ws.length)(h:∀i,i<ws.length->0<=rh rs i):cst (fz ws rs m) a=sm ws.length λi=>if wt (aB rs i) m=true then(gM ws).p i*((gM ws).u i - a i)else 0:=by
 unfold cst;rw[wA b]
 refine jU λi c=>?_
 rcases dg (r:=aB rs i) (m:=m) (h i c)with⟨w,_⟩| ⟨w,d,_⟩| ⟨w,d,_⟩
 ·obtain⟨g,_,f⟩:=E1 b c w;rw[g,f,if_pos w]
 ·rw[(HE b c w d).2.2,if_neg (by rw[w];simp),cS]
 ·rw[(EU b c w d).2.2,if_neg (by rw[w];simp),cS]
theorem L3(b:rs.length=ws.length)(c:∀i,i<ws.length->0<=rh rs i):cst ws (wh rs m a)=tu ws rs m+cst (fz ws rs m) a:=by
 rw[Pz b,P9 b c,<-Jg]
 refine jU λi d=>?_
 unfold wh;split
 ·rw[dF]
 ·rw[aRK]
theorem OE(b:rs.length=ws.length)(c:∀i,i<ws.length->0<=rh rs i):cst ws (rh rs)=tu ws rs m+cst (fz ws rs m) λi=>(lf m (aB rs i)).2:=by
 rw[<-L3 b c]
 refine jU λi d=>?_
 unfold wh;split
 ·rename_i w;show _=_*(_ - (lf m (aB rs i)).2);rw[t6 w]
 ·rfl
end
end ij
namespace ij
open PySem L2 TL aI NF
section
variable {ws:List W3}{g rs:List Rw}{m e:Int}{i:Nat}
variable{r:Rw}{w:W3}
theorem OJ(h:0<=r.2):(max 0 (r.1 - m)*(if(decide (max 0 (r.1+r.2 - max r.1 m)>0)||decide (r.1>m))=true then 1 else 0),max 0 (r.1+r.2 - max r.1 m))=lf m r:=by
 rcases dg (m:=m) h with⟨w,c1,c2⟩| ⟨w,d,c1⟩| ⟨w,d,c1,c2⟩
 ·rw[t6 w,show max 0 (r.1+r.2 - max r.1 m)=r.2 by lia,show max 0 (r.1 - m)=r.1 - m by lia];by_cases a:r.1>m
  ·rw[decide_eq_true a,Bool.or_true,if_pos rfl,aSv]
  ·rw[show r.1 - m=0 by lia,cS]
 ·rw[B8 w d,show max 0 (r.1+r.2 - max r.1 m)=0 by lia,show max 0 (r.1 - m)=0 by lia,cS]
 ·rw[Am w d,show max 0 (r.1+r.2 - max r.1 m)=r.1+r.2 - m by lia,show max 0 (r.1 - m)=0 by lia,cS]
theorem Qw(o:rs.length<=8)(n:∀r∈rs,0<=r.2):u3 [.lst (rs.map pT),.int m]=some (.lst ((rs.map (lf m)).map pT)):=by
 apply iP;unfold KR;walk_at "a"
 refine qi.jI (λc C=>C=[(.l,[])]/\c=[some (.lst (rs.map pT)),some (.int m),some (.cell 0),none,none,none]) (by simp_arith[↓gE,↓gD];decide) ?_
 rintro _ _ ⟨rfl,rfl⟩
 refine fJ (j4 (fF rfl ⟨_,rfl,k7 (xs:=rs) (en:=pT) (λi c C=>C=[(.l,((rs.take i).map (lf m)).map pT)]/\∃a b d,c=[some (.lst (rs.map pT)),some (.int m),some (.cell 0),a,b,d]) ⟨rfl,_,_,_,rfl⟩ ?_ ?_⟩))
 ·rintro i r c C j ⟨rfl,a,b,d,rfl⟩;have l:=n r (aZ j);unfold zL
  refine iO ⟨_,rfl,rfl,?_⟩
  refine qi.jI (λc C=>C=[(.l,((rs.take i).map (lf m)).map pT)]/\c=[some (.lst (rs.map pT)),some (.int m),some (.cell 0),some (.int r.1),some (.int r.2),some (.int (max 0 (r.1+r.2 - max r.1 m)))]) (fQ (fK (eX (fS (eX (gK (t:=.int (r.1+r.2 - max r.1 m)) (tT (fD (gK (t:=.int (r.1+r.2)) rfl (fK (eX (fF rfl (eX (fF rfl (fE (uM.mpr (f8 ⟨rfl,rfl⟩))))))))))) (fE (uM.mpr (fL ⟨rfl,rfl,rfl⟩))))))))) ?_
  rintro _ _ ⟨rfl,rfl⟩;have f:=OJ (m:=m) l;generalize max 0 (r.1+r.2 - max r.1 m)=L at f;have key:∀v,v=lf m r->[((Kd.l,((rs.take i).map (lf m)).map pT++[pT v]):Cl)]=[(Kd.l,((rs.take (i+1)).map (lf m)).map pT)]:=by
   rintro _ rfl;rw[eQ,j];simp only[bN];rfl
  have k:(((rs.take i).map (lf m)).map pT).length<lim:=by rw[aN,aN,c8];simp only[lim];lia
  simp_arith[↓gE,↓gD];split
  ·rename_i h
   exact⟨kB (Bt.of_lt (k:=64) (by decide) (by decide)),by decide,k,trivial,key (_,_) (by rw[<-f,show decide (L>0)=true from h];rfl),_,_,_,rfl⟩
  ·rename_i h
   refine⟨kB (Bt.of_lt (k:=64) (by split<;>decide) (by split<;>decide)),by decide,k,trivial,key (_,_) (by rw[<-f,show decide (L>0)=false from Bool.eq_false_iff.mpr h];rfl),_,_,_,rfl⟩
 rintro c C ⟨rfl,a,b,d,rfl⟩;rw[cO]
 exact fN (fZ (fF rfl (KL rfl)))
theorem zU(h:wt r m=true):jc w r m=w:=if_pos h
theorem Ct(h:dn r m=true):jc w r m=(0,0,0):=by unfold jc;rw[if_neg (by unfold wt;rw[h];simp),if_pos h]
theorem wM(h:wt r m=false)(a:dn r m=false):jc w r m=(r.1+r.2 - m,r.1+r.2 - m,0):=by unfold jc;rw[if_neg (by rw[h];simp),if_neg (by rw[a];simp)]
section
variable {w:W3}{r:Rw}{n:Int}
theorem HY:dn (r.1 - m,r.2) (n - m)=dn r n:=kX ⟨λh=>by have:r.1 - m+r.2<=n - m:=h;lia,λh=>by show r.1 - m+r.2<=n - m;lia⟩
theorem Fm:wt (r.1 - m,r.2) (n - m)=wt r n:=by
 unfold wt;rw[HY];congr 1
 exact kX ⟨λh=>by have:n - m<=r.1 - m:=h;lia,λh=>by show n - m<=r.1 - m;lia⟩
theorem Gu(a:m<=n)(h:dn r m=true):dn r n=true:=decide_eq_true (cL (of_decide_eq_true h) a)
theorem Iq(h:0<=r.2)(a:m<=n):dn (lf m r) (n - m)=dn r n:=by
 rcases dg (m:=m) h with⟨w,c1,c2⟩| ⟨w,d,c1⟩| ⟨w,d,c1,c2⟩
 ·rw[t6 w,HY]
 ·rw[B8 w d,Gu a d]
  exact decide_eq_true (show(0:Int)+0<=n - m by lia)
 ·rw[Am w d]
  exact kX ⟨λk=>by have:0+(r.1+r.2 - m)<=n - m:=k;lia,λk=>by show 0+(r.1+r.2 - m)<=n - m;lia⟩
theorem Uq(h:0<=r.2)(f:m<=n):jc (jc w r m) (lf m r) (n - m)=jc w r n:=by
 have a:=Iq h f;cases b:dn r n with
 |true=>rw[Ct b,Ct (by rw[a,b])]
 |false=>
  rw[b]at a;rcases dg (m:=m) h with⟨v,c1,c2⟩| ⟨v,d,c1⟩| ⟨v,d,c1,c2⟩
  ·rw[zU v];rw[t6 v]at a|-;cases c:wt r n with
   |true=>rw[zU c,zU (Fm.trans c)]
   |false=>rw[wM c b,wM (Fm.trans c) a,show r.1 - m+r.2 - (n - m)=r.1+r.2 - n by lia]
  ·rw[Gu f d]at b;cases b
  ·have c:wt r n=false:=by unfold wt;rw[decide_eq_false (by lia)];rfl
   rw[wM v d,wM c b];rw[Am v d]at a|-;by_cases e:n=m
   ·rw[zU (show wt (0,r.1+r.2 - m) (n - m)=true by unfold wt;rw[a,decide_eq_true (show n - m<=0 by lia)];rfl),e]
   ·rw[wM (show wt (0,r.1+r.2 - m) (n - m)=false by unfold wt;rw[decide_eq_false (show¬n - m<=0 by lia)];rfl) a,show 0+(r.1+r.2 - m) - (n - m)=r.1+r.2 - n by lia]
end
theorem DQ:∀{ws:List W3}{rs:List Rw},(fz ws rs m).zip (rs.map (lf m))=(ws.zip rs).map λp=>(jc p.1 p.2 m,lf m p.2)
 | [],_=>rfl
 |_::_,[]=>rfl
 |w::ws,r::rs=>congrArg ((jc w r m,lf m r):: ·) (DQ (ws:=ws) (rs:=rs))
theorem S9{n:Int}(b:∀r∈rs,0<=r.2)(c:m<=n):fz (fz ws rs m) (rs.map (lf m)) (n - m)=fz ws rs n:=by
 show((fz ws rs m).zip (rs.map (lf m))).map _=_;rw[DQ,bR]
 exact cF λp a=>Uq (b _ (cY a).2) c
theorem xX{i:Int}(a:0<=i)(h:i<rs.length):aB rs i∈rs:=by
 unfold aB;rw[bI,aO (by lia)]
 exact c9 _
theorem Qj{i:Int}(a:0<=i)(h:i<rs.length):aB (rs.map (lf m)) i=lf m (aB rs i):=by
 unfold aB;rw[bI,bI,bA,aO (by lia)];rfl
theorem S0{n:Int}(b:ji rs.length g)(h:∀r∈rs,0<=r.2)(a:m<=n):pz (pz g rs m) (rs.map (lf m)) (n - m)=pz g rs n:=by
 unfold pz;rw[List.filter_filter]
 refine List.filter_congr λp d=>?_
 have c:=(b p d).1;rw[Qj c.1 c.2,Iq (h _ (xX c.1 c.2)) a];cases f:dn (aB rs p.1) m
 ·rw[aTh,cG]
 ·rw[Gu a f];rfl
theorem Tv{n:Int}(k:∀r∈rs,0<=r.2)(l:m<=n):tu ws rs m+tu (fz ws rs m) (rs.map (lf m)) (n - m)=tu ws rs n:=by
 unfold tu zf;rw[zT,zT,zT,DQ,bR];have:∀{a:List (W3×Rw)},(∀p∈a,0<=p.2.2)->(a.map λp=>if(!(wt p.2 m))=true then pr p else 0).sum+(a.map ((λp=>if(!(wt p.2 (n - m)))=true then pr p else 0) ∘ λp=>(jc p.1 p.2 m,lf m p.2))).sum=(a.map λp=>if(!(wt p.2 n))=true then pr p else 0).sum:=by
  intro a;induction a with
  |nil=>exact λ_=>rfl
  |cons p a ih=>
   intro c;have ih:=ih λq j=>c q (aX _ j)
   have h:=c p bC;rw[aK,aK,aK,dG,dG,dG,<-ih];have:(if(!(wt p.2 m))=true then pr p else 0)+((λp=>if(!(wt p.2 (n - m)))=true then pr p else 0) ∘ λp=>(jc p.1 p.2 m,lf m p.2)) p=if(!(wt p.2 n))=true then pr p else 0:=by
    show _+(if(!(wt (lf m p.2) (n - m)))=true then pr (jc p.1 p.2 m,lf m p.2)else 0)=_;cases v:wt p.2 m
    ·have f:wt p.2 n=false:=by
      rcases dg (r:=p.2) (m:=n) h with⟨u,c1,c2⟩| ⟨u,_⟩| ⟨u,_⟩
      ·rw[show wt p.2 m=true by unfold wt dn;rw[decide_eq_true (show m<=p.2.1 by lia),decide_eq_false (show¬p.2.1+p.2.2<=m by lia)];rfl]at v;cases v
      ·exact u
      ·exact u
     have b:pr (jc p.1 p.2 m,lf m p.2)=0:=by
      cases d:dn p.2 m
      ·rw[wM v d];exact cS _
      ·rw[Ct d];exact cS _
     rw[f,b];simp
    ·rw[t6 v,zU v,Fm];show 0+_=_;rw[dF];rfl
   rw[<-this];lia
 exact this λp b=>k _ (cY b).2
theorem yt.lf(P:yt ws rs)(h:∀r∈rs,0<=r.2)(l:∀r∈rs,0<=m/\0<=r.1/\r.1+r.2<2^252):yt (fz ws rs m) (rs.map (ij.lf m)):=by
 refine⟨by rw[wA P.len,aN,P.len],by rw[wA P.len];exact P.sd,λw j=>?_,λp a=>?_⟩
 ·obtain⟨p,a,rfl⟩:=fU j;have c:=cY a;have b:=l _ c.2;rcases dg (m:=m) (h _ c.2)with⟨v,c1,c2⟩| ⟨v,d,c1⟩| ⟨v,d,c1,c2⟩
  ·rw[zU v];exact P.Bk _ c.1
  ·rw[Ct d];exact⟨by decide,by decide,by decide,by decide,by decide⟩
  ·rw[wM v d];exact⟨by dsimp only;lia,bM _,bM _,by dsimp only;lia,show(0:Int)<2^252 by decide⟩
 ·rw[DQ]at a;obtain⟨p,k,rfl⟩:=fU a;clear a;have a:=k;have c:=cY a;have f:=P.Ez _ a;rcases dg (m:=m) (h _ c.2)with⟨v,c1,c2⟩| ⟨v,d,c1⟩| ⟨v,d,c1,c2⟩
  ·rw[zU v,t6 v];exact f
  ·rw[Ct d,B8 v d];exact⟨bM _,bM _⟩
  ·rw[wM v d,Am v d];exact⟨bM _,bM _⟩
end
end ij
namespace ij
open PySem L2 TL aI NF
section
variable {ws:List W3}{ps rs:List Rw}{m n e:Int}{i:Nat}
structure Row(ws:List W3)(ps rs:List Rw):Prop where
 pl:yt ws rs
 AI:ps.length<=63
 gc:ji ws.length ps
 qh:tp ps
 h0:∀r∈rs,0<=r.2
 b0:∀r∈rs,0<=r.1/\r.1+r.2<2^252
theorem Row.rest(R:Row ws ps rs)(k:0<=m):Row (fz ws rs m) (pz ps rs m) (rs.map (lf m)):=by
 have g:∀p∈pz ps rs m,p∈ps:=λp c=>(iK c).1
 have j:∀r∈rs,0<=(lf m r).2/\0<=(lf m r).1/\(lf m r).1+(lf m r).2<2^252:=λr a=>by
  have h:=R.h0 r a;have b:=R.b0 r a;rcases dg (m:=m) h with⟨v,c1,c2⟩| ⟨v,d,c1⟩| ⟨v,d,c1,c2⟩
  ·rw[t6 v];dsimp only;exact⟨h,by lia,by lia⟩
  ·rw[B8 v d];decide
  ·rw[Am v d];dsimp only;exact⟨by lia,by lia,by lia⟩
 obtain⟨r,a⟩:=R.qh
 refine⟨R.pl.lf R.h0 λr a=>⟨k,R.b0 r a⟩,bV (dR _ _) R.AI,λp c=>by rw[wA R.pl.len];exact R.gc p (g p c),⟨r,λp c=>a p (g p c)⟩,λx f=>?_,λx f=>?_⟩
 ·obtain⟨r,a,rfl⟩:=fU f
  exact(j r a).1
 ·obtain⟨r,a,rfl⟩:=fU f
  exact(j r a).2
theorem Row.eq(R:Row ws ps rs):l4 [.lst (ws.map w3),.lst (ps.map pT),.lst (rs.map pT),.int m]=some (.tup [.lst ((fz ws rs m).map w3),.lst ((pz ps rs m).map pT)]):=Sv R.pl R.AI R.gc R.qh
theorem Dc:ei [.lst (ws.map w3),.lst (ps.map pT),.lst (rs.map pT),.int m]=true:=by rw[fW,fW,fW,fW,hJ,gY,gY,gY,nA,kA,kA];rfl
theorem Dd:ei [.lst (ws.map w3),.lst (rs.map pT),.int m]=true:=by rw[fW,fW,fW,hJ,gY,gY,nA,kA];rfl
theorem TZ{C:ab}{Q:T->ab->Prop}(q:Q (.bl false) C):aJ (AO (.tup [.lst (ws.map w3),.lst (ps.map pT)]) (.tup [.lst (ws.map w3),.lst (ps.map pT)]) C) Q:=by
 have a:CF (T.tup [.lst (ws.map w3),.lst (ps.map pT)])=true:=by rw[lE];exact Dg
 have c:eqT 4 (.lst (ws.map w3)) (.lst (ws.map w3))=some true:=by rw[uD λ_ _=>Qf];simp
 have b:eqT 4 (.lst (ps.map pT)) (.lst (ps.map pT))=some true:=by rw[uD λ_ _=>IH];simp
 refine⟨_,_,?_,q⟩
 unfold AO;rw[iH a,aS,aS];show(if(2:Nat)=2 then(n3 (eqT 4) [T.lst (ws.map w3),.lst (ps.map pT)] [T.lst (ws.map w3),.lst (ps.map pT)]).map _ else none)=_;rw[if_pos rfl];unfold n3 n3 n3;rw[c,b];rfl
theorem Sd(R:Row ws ps rs)(j:0<=m)(a:m<=n):sQ [.lst (ws.map w3),.lst (ps.map pT),.lst (rs.map pT),.int m,.int n]=some (.bl true):=by
 have c:=R.rest j;have o:=R.eq (m:=m);have l:=R.eq (m:=n);have b:=c.eq (m:=n - m);rw[S9 R.h0 a,S0 (by rw[R.pl.len];exact R.gc) R.h0 a]at b;have k:=Qw (m:=m) (by rw[R.pl.len];exact R.pl.sd) R.h0;have h:=uP (m:=m) R.pl;have g:=uP (m:=n) R.pl;have f:=uP (m:=n - m) c.pl;have d:=Tv (ws:=ws) R.h0 a;apply iP;unfold LR;walk_at "a"
 refine fJ (fQ (fK (eX (fF rfl (eX (fF rfl (eX (fF rfl (eX (fF rfl (fE ((f7 o rfl Dc).mpr (iO ⟨_,rfl,rfl,fN ?_⟩)))))))))))))
 refine fJ (fQ (fK (eX (fF rfl (eX (fF rfl (fE ((f7 k rfl (by rw[fW,fW,hJ,gY,kA];rfl)).mpr (fL (fN ?_))))))))))
 refine fJ (fQ (fK (eX (fF rfl (eX (fF rfl (eX (fF rfl (fE ((f7 h rfl Dd).mpr (fL (fN ?_))))))))))))
 refine fJ (qi.o9 ?_ (gL (fN ?_)))
 ·refine gC (fD (fK (eX (fF rfl (eX (fF rfl (eX (fF rfl (eX (gK (t:=.int (n - m)) rfl (fE ((f7 b rfl Dc).mpr ?_))))))))))))
  refine fK (eX (fF rfl (eX (fF rfl (eX (fF rfl (eX (fF rfl (fE ((f7 l rfl Dc).mpr ?_))))))))))
  exact TZ ⟨false,rfl,rfl,rfl⟩
 refine fZ (fD (fD (fF rfl (fK (eX (fF rfl (eX (fF rfl (eX (gK (t:=.int (n - m)) rfl (fE ((f7 f rfl Dd).mpr (f8 ?_)))))))))))))
 refine fK (eX (fF rfl (eX (fF rfl (eX (fF rfl (fE ((f7 g rfl Dd).mpr (iZ ?_)))))))))
 rw[d,decide_eq_true rfl]
 exact iH mB
theorem Lx(R:Row ws ps rs)(g:0<=m)(d:m<=e)(v:e<2^300)(p:Pl ws ps e (rb rs) (rh rs)):∃t,pY [.lst (ws.map w3),.lst (ps.map pT),.lst (rs.map pT),.int e,.int m]=some (.int t)/\t<=cst ws (rh rs)/\∀q,(∀b h,Pl ws ps e b h->q<=cst ws h)->q<=t:=by
 have a:=R.rest g;have c:∀i,i<ws.length->0<=rh rs i:=λi u=>R.h0 _ (xX (by lia) (by rw[R.pl.len];lia))
 obtain⟨s,bs,fs,z,y,L⟩:=lr.of a.pl.sd a.AI a.gc a.qh a.pl.Bk;have f:=RL R.pl.len R.gc c p d;obtain⟨q,l,A⟩:=(wT L (e:=e - m) (by lia)).2 (L.Ei f (by lia));have o:=R.eq (m:=m);have j:=uP (m:=m) R.pl
 refine⟨tu ws rs m+q,?_,?_,λr k=>?_⟩
 ·apply iP;unfold LQ;walk_at "a"
  refine fJ (fQ (fK (eX (fF rfl (eX (fF rfl (eX (fF rfl (eX (fF rfl (fE ((f7 o rfl Dc).mpr (iO ⟨_,rfl,rfl,fN ?_⟩)))))))))))))
  refine fZ (fD (fK (eX (fF rfl (eX (fF rfl (eX (fF rfl (fE ((f7 j rfl Dd).mpr ?_))))))))))
  exact fK (eX (fF rfl (eX (fF rfl (eX (gK (t:=.int (e - m)) rfl (fE ((f7 l rfl ek.FW).mpr (f8 (iH gW))))))))))
 ·have:=A.le L.g f;rw[OE (m:=m) R.pl.len c]
  lia
 ·obtain⟨x,w,pp,rfl⟩:=A.plan L.g;rw[<-L3 R.pl.len c]
  exact k _ _ (TC R.pl.len R.gc c g p pp)
end
end ij
namespace ij
open PySem L2 TL aI NF
open qi (jI o9 yH)
theorem wD{rs:List Rw}{e c:Int}(F:rs.length<=8)(G:0<=e)(s:∀r∈rs,0<=r.1/\0<=r.2/\r.1+r.2<=e):∃m,mP [.lst (rs.map pT),.int e,.int c]=some (.int m)/\0<=m/\m<=e:=by
 have J:Bt 20 170:=.pq (by decide) (by decide) (by decide);have I:Bt 20 171:=.pq (by decide) (by decide) (by decide);have p:=rP (a:=c) (k:=170);have k:=rP (a:=c) (k:=171);suffices h:∃t,mP [.lst (rs.map pT),.int e,.int c]=some t/\∃m,t=.int m/\0<=m/\m<=e by
  obtain⟨_,A,m,rfl,h⟩:=h
  exact⟨m,A,h⟩
 apply m8;unfold zN;walk_at "a"
 refine jI (λd C=>C=[]/\d=[some (.lst (rs.map pT)),some (.int e),some (.int c),some (.int (lD c 170)),none,none]) (by simp_arith[↓gE,↓gD,↓oX]) ?_
 rintro _ _ ⟨rfl,rfl⟩;have q:∀{C Q},aJ (n2 false (T.lst (rs.map pT)) (T.lst []) C) Q↔Q (.bl (decide (rs=[]))) C:=by
  intro C Q;rw[show(T.lst [])=T.lst (([]:List Rw).map pT)from rfl,KQ,HK]
 have f:∀b,(decide (rs=[])||decide (lD c 170%5=0))=b->hA (oC (jD (jx Y0 (gT (iN fP)))) (jD (jx (kH Y3 (fI 5)) (fI 0)))) [some (.lst (rs.map pT)),some (.int e),some (.int c),some (.int (lD c 170)),none,none] [] λx B=>x=b/\B=[]:=by
  intro b g
  refine jY (gC (fD (fF rfl (fV (gS (fE ⟨by decide,q.mpr ⟨_,rfl,?_⟩⟩))))))
  by_cases h:rs=[]
  ·rw[if_pos (decide_eq_true h),<-g,decide_eq_true h];exact⟨rfl,rfl⟩
  ·rw[if_neg (by simpa using h)]
   refine gC (fD (fD (fF rfl (fS (f6 ⟨by decide,fS (iZ ⟨_,rfl,?_,rfl⟩)⟩)))))
   rw[<-g,decide_eq_false h,aTl]
 by_cases i:rs=[]\/lD c 170%5=0
 ·refine fJ (yH (f true (by rw[aTa,decide_eq_true_iff,decide_eq_true_iff];exact i)) ?_)
  have a:=jJ (x:=lD c 170*lD c 171^eU 3) (m:=e+1) (by lia);simp_arith[↓gE,↓gD,↓oX]
  refine⟨l6 ⟨by decide,by decide,?_⟩,jS (p.bt.mono (by decide)),l6 (by lia),_,iH gW,_,rfl,a.1,by lia⟩
  have:=k.1;have:=k.2
  lia
 ·have o:rs≠[]:=λz=>i (.inl z)
  have j:lD c 170%5≠0:=λz=>i (.inr z)
  refine jI (λd C=>C=[]/\d=[some (.lst (rs.map pT)),some (.int e),some (.int c),some (.int (lD c 170)),none,none]) (o9 (f false (by rw[decide_eq_false o,decide_eq_false j];rfl)) (gL ⟨rfl,rfl,rfl⟩)) ?_
  rintro _ _ ⟨rfl,rfl⟩;have D:0<rs.length:=jG o;have a:=jJ (x:=lD c 170/5) (m:=(rs.length:Int)) (by lia);have n:=Jf (rs:=rs) a.1 a.2;have u:=s _ (xX (rs:=rs) a.1 a.2);generalize aB rs (lD c 170/5%(rs.length:Int))=r at n u
  refine jI (λd C=>C=[]/\d=[some (.lst (rs.map pT)),some (.int e),some (.int c),some (.int (lD c 170)),some (.int r.1),some (.int r.2)]) (by
   simp_arith[↓gE,↓gD,aN,↓gZ n,pT]
   exact⟨by decide,l6 (by lia)⟩) ?_
  rintro _ _ ⟨rfl,rfl⟩;have H:=jJ (x:=lD c 170) (m:=5) (by decide);obtain⟨v,l,y⟩:=GG (xs:=[r.1,r.1+r.2,min e (r.1+1),max 0 (r.1+r.2 - 1)]) (i:=lD c 170%5 - 1) (by lia) (by simp;lia);have w:dh [T.int r.1,T.int (r.1+r.2),T.int (min e (r.1+1)),T.int (max 0 (r.1+r.2 - 1))] (lD c 170%5 - 1)=some (.int v):=by
   rw[show[T.int r.1,T.int (r.1+r.2),T.int (min e (r.1+1)),T.int (max 0 (r.1+r.2 - 1))]=[r.1,r.1+r.2,min e (r.1+1),max 0 (r.1+r.2 - 1)].map T.int from rfl,xM,y];rfl
  have g:0<=v/\v<=e:=by
   simp only[bU,b4,or_false]at l;rcases l with rfl|rfl|rfl|rfl<;>lia
  simp_arith[↓gE,↓gD,↓gZ w]
  exact⟨by decide,by decide,_,iH gW,_,rfl,g⟩
end ij
namespace ij
open PySem L2 TL aI NF
def p3(rs:List Rw)(p:Rw):List Rw:=rs.set p.2.toNat (max (aB rs p.2).1 ((aB rs p.1).1+(aB rs p.1).2),(aB rs p.2).2)
theorem P3{rs:List Rw}{p:Rw}(c:0<=p.2)(h:p.2<rs.length){x:Int}(b:0<=x):aB (p3 rs p) x=if x=p.2 then(max (aB rs p.2).1 ((aB rs p.1).1+(aB rs p.1).2),(aB rs p.2).2)else aB rs x:=by
 generalize a:(max (aB rs p.2).1 ((aB rs p.1).1+(aB rs p.1).2),(aB rs p.2).2)=v;unfold p3;rw[a];unfold aB;rw[bI];split
 ·rename_i e;rw[e,bK (by lia)];rfl
 ·rw[aT (by lia),bI]
structure Rd(ps:List Rw)(o:List Int)(hs:Int->Int)(S H:Int)(n k:Nat)(rs:List Rw):Prop where
 len:rs.length=n
 el:∀x:Int,0<=x->x<n->(aB rs x).2=hs x
 nn:∀x:Int,0<=x->x<n->0<=(aB rs x).1
 bd:∀(j:Nat)(w:Int),o[j]?=some w->(aB rs w).1<=S+j*H
 dn:∀(j:Nat)(w a:Int),j<k->o[j]?=some w->(a,w)∈ps->(aB rs a).1+hs a<=(aB rs w).1
section
variable {c:List Rw}{o:List Int}{hs:Int->Int}{S H:Int}{n k:Nat}{rs:List Rw}{p:Rw}
theorem DR(d:u1 c n o){j:Nat}{a w:Int}(f:o[j]?=some w)(h:(a,w)∈c):∃i,i<j/\o[i]?=some a:=by
 obtain⟨i,b⟩:=fT (d.top j w f a h);have g:=(fA b).1;rw[c8]at g;rw[dE (by lia)]at b
 exact⟨i,by lia,b⟩
theorem Rd.step(l:u1 c n o)(G:ji n c)(I:∀x:Int,0<=x->x<n->0<=hs x/\hs x<=H)(y:0<=H)(D:Rd c o hs S H n k rs)(t:p∈c):
 Rd c o hs S H n k (p3 rs p)/\(∀u a,o[k]?=some u->(a,u)∈c->((a,u)=p\/(aB rs a).1+hs a<=(aB rs u).1)->(aB (p3 rs p) a).1+hs a<=(aB (p3 rs p) u).1):=by
 obtain⟨⟨F,C⟩,z,K⟩:=G p t;have L:=D.len;have es:∀x:Int,0<=x->aB (p3 rs p) x=if x=p.2 then(max (aB rs p.2).1 ((aB rs p.1).1+hs p.1),(aB rs p.2).2)else aB rs x:=λx m=>by rw[P3 z (by lia) m,D.el p.1 F C]
 have up:∀x:Int,0<=x->(aB rs x).1<=(aB (p3 rs p) x).1:=λx m=>by
  rw[es x m];split
  ·rename_i e;rw[e];exact Int.le_max_left _ _
  ·exact bM _
 have A:∀(j:Nat)(x:Int),j<k->o[j]?=some x->(aB (p3 rs p) x).1=(aB rs x).1:=λj x b m=>by
  have g:=(l.kg x (aZ m)).1;rw[es x g];split
  ·rename_i e;subst e
   exact Int.max_eq_left (D.dn j p.2 p.1 b m t)
  ·rfl
 have d:∀(j:Nat)(w a:Int),j<=k->o[j]?=some w->(a,w)∈c->(aB rs a).1+hs a<=(aB rs w).1->(aB (p3 rs p) a).1+hs a<=(aB (p3 rs p) w).1:=λj w a b r f h=>by
  obtain⟨i,v,q⟩:=DR l r f;rw[A i a (by lia) q]
  exact cL h (up w (l.kg w (aZ r)).1)
 refine⟨⟨by unfold p3;rw[cA];exact L,λx g s=>?_,λx g s=>cL (D.nn x g s) (up x g),λj w b=>?_,λj w a b r f=>d j w a (by lia) r f (D.dn j w a b r f)⟩,λu a B f h=>?_⟩
 ·rw[es x g];split
  ·rename_i e;rw[e];exact D.el p.2 z K
  ·exact D.el x g s
 ·rw[es w (l.kg w (aZ b)).1];split
  ·rename_i e;subst e;obtain⟨i,v,q⟩:=DR l b t
   refine Int.max_le.mpr ⟨D.bd j p.2 b,?_⟩
   have s:=D.bd i p.1 q;have M:=(I p.1 F C).2;have J:((i:Int)+1)*H<=j*H:=cP (by lia) y;rw[d0,aSb]at J
   lia
  ·exact D.bd j w b
 ·rcases h with rfl|h
  ·obtain⟨i,v,q⟩:=DR l B f;rw[A i a v q,es u z,if_pos rfl]
   exact Int.le_max_right _ _
  ·exact d k u a (bE _) B f h
theorem Rd.next(D:Rd c o hs S H n k rs)(h:∀u a,o[k]?=some u->(a,u)∈c->(aB rs a).1+hs a<=(aB rs u).1):Rd c o hs S H n (k+1) rs:=
 ⟨D.len,D.el,D.nn,D.bd,λj w a f d b=>by
  by_cases e:j=k
  ·exact h w a (e ▸ d) b
  ·exact D.dn j w a (by lia) d b⟩
end
end ij
namespace ij
open PySem L2 TL aI NF
open qi (jI o9 yH)
noncomputable def cells(n:Nat):List T:=(aTC 1 n).map T.cell
noncomputable def inr(r:Rw):Cl:=(.l,[T.int r.1,T.int r.2])
def gV(rs:List Rw):ab:=(.l,cells rs.length)::rs.map inr
section
variable {rs:List Rw}{b x:Int}{r:Rw}{n:Nat}
theorem Lp(a:0<=b)(h:b<n):dh (cells n) b=some (.cell (b.toNat+1)):=by
 unfold cells;rw[oO a,bA,aO (by simp;lia),aSG];simp;lia
theorem RJ(a:0<=b)(h:b<rs.length):(gV rs)[b.toNat+1]?=some (inr (aB rs b)):=by
 unfold gV aB;rw[bO,bA,bI,aO (by lia)];rfl
theorem Sh:(gV rs++[inr r]).set 0 (.l,cells rs.length++[T.cell (gV rs).length])=gV (rs++[r]):=by
 have e:cells (rs.length+1)=cells rs.length++[T.cell (rs.length+1)]:=by
  unfold cells;rw[List.range'_1_concat,bN,Nat.add_comm 1];rfl
 unfold gV;simp[e]
theorem Q6(a:0<=b)(h:b<rs.length):(gV rs).set (b.toNat+1) (.l,[T.int x,T.int (aB rs b).2])=gV (rs.set b.toNat (x,(aB rs b).2)):=by
 unfold gV;rw[List.set_cons_succ,cA,aSS];rfl
theorem IG(a:0<=b)(h:b<rs.length):lc (gV rs) (b.toNat+1)=some [T.int (aB rs b).1,T.int (aB rs b).2]:=hZ (RJ a h)
theorem NW:dr 3 (gV rs) (.cell 0)=some (.lst (rs.map pT)):=by
 have R:ek.rD (gV rs) 0 (aTC 1 rs.length) (rs.map λr=>[r.1,r.2]):=by
  refine⟨rfl,by simp,λi c l g d=>?_⟩
  obtain⟨a,f⟩:=fA g;rw[aSG]at f;rw[aSM]at a;rw[bA,aO a]at d;cases d;subst f
  refine⟨?_,by lia⟩
  rw[show 1+1*i=i+1 by lia];unfold gV;rw[bO,bA,aO a];rfl
 have:=R.dr;rw[bR]at this
 exact this
theorem FQ{a:aD}{k:Nat}{j:Int}{v:T}(g:a[4]?=some (some (.cell 0)))(f:a[k]?=some (some (.int b)))(c:0<=b)(h:b<rs.length)(d:dh [T.int (aB rs b).1,T.int (aB rs b).2] j=some v):aA (aA Y4 (k8 k)) (fC (.int j)) a (gV rs)=some (v,gV rs):=
 tT (fD (fD (fF g (fF f (gF ⟨_,rfl,_,Lp c h,fS (gF ⟨_,IG c h,_,d,rfl,rfl⟩)⟩)))))
theorem O1{c:aD}{p:Rw}{Q:TL.Fl->aD->ab->Prop}(g:c[4]?=some (some (.cell 0)))(f:c[11]?=some (some (.int p.1)))(d:c[12]?=some (some (.int p.2)))(h:0<=p.1/\p.1<rs.length)(a:0<=p.2/\p.2<rs.length)(q:Q .nx c (gV (p3 rs p))):wpS pM c (gV rs) Q:=by
 unfold pM
 refine uU.mpr (fK (eX (gK (FQ g d a.1 a.2 rfl) (eX (fD (gK (FQ g f h.1 h.2 rfl) (gK (FQ g f h.1 h.2 rfl) (f8 (fE (uM.mpr (fD (fF g (fF d (gF ⟨_,rfl,_,Lp a.1 a.2,fS ⟨_,_,rfl,rfl,_,IG a.1 a.2,0,rfl,?_⟩⟩))))))))))))))
 have:=Q6 (rs:=rs) (x:=max (aB rs p.2).1 ((aB rs p.1).1+(aB rs p.1).2)) a.1 a.2;show Q .nx c ((gV rs).set (p.2.toNat+1) (.l,[T.int (max (aB rs p.2).1 ((aB rs p.1).1+(aB rs p.1).2)),T.int (aB rs p.2).2]));rw[this]
 exact q
end
abbrev sB(a:List W3)(b:List Rw)(c:Int)(d:List Int)(r:aD):aD:=[some (.lst (a.map w3)),some (.lst (b.map pT)),some (.int c),some (.lst (d.map T.int)),some (.cell 0)]++r
section
variable {ws:List W3}{ps rs:List Rw}{ns:List Int}{c:Int}{i:Nat}
def D4(ws:List W3)(rs:List Rw):Prop:=∀(i:Nat)(w:W3)(r:Rw),ws[i]?=some w->rs[i]?=some r->w.2.1<=r.2/\r.2<=w.1/\0<=r.1/\r.1<=2^241
theorem EN{a:aD}{C:ab}{Q:T->ab->Prop}{c k j:Int}(f:a[2]?=some (some (.int c)))(d:a[5]?=some (some (.int j)))(b:Bt 20 (k+j))(q:Q (.int (lD c (k+j))) C):aC (gG 2 jE (fB Y2 (fB (jH (fC (.int k)) Y5) fP))) a C Q:=
 fK (eX (fF f (eX (fD (fS (fF d (f8 (fE ((oX b).mpr q)))))))))
theorem Hl{i:Nat}{k:Int}(h:0<=k):0<=k+(0+(i:Int)):=by lia
theorem MQ{w x:Int}{p:Bool}(h:0<=w/\w<2^240):∃s:Int,x%(w+2)*(if p then 1 else 0)=s/\0<=s/\s<=2^241:=by
 have:=jJ (x:=x) (m:=w+2) (by lia);cases p
 ·exact⟨0,d8 _,by decide,by decide⟩
 ·exact⟨_,aSv _,this.1,by lia⟩
theorem BJ(Y:ws.length<=8)(P:∀w∈ws,tV w)(M:i<ws.length)(F:rs.length=i)(N:D4 ws rs){a b d e f g h:Option T}{Q:TL.Fl->aD->ab->Prop}
 (k:∀p a b d e f g h,p.length=i+1->D4 ws p->Q .nx (sB ws ps c ns [some (.int (0+(i:Int))),a,b,d,e,f,g,h]) (gV p)):
 wpS pK (sB ws ps c ns [some (.int (0+(i:Int))),a,b,d,e,f,g,h]) (gV rs) Q:=by
 have n:ws[i]?=some ws[i]:=aO M;generalize ws[i]=w at n;have O:dh (ws.map w3) (0+(i:Int))=some (w3 w):=by rw[dF,oO (by lia),bA,cB,n];rfl
 obtain⟨y,x,o,v,H⟩:=P _ (aZ n);have U:Bt 20 (140+(0+(i:Int))):=.pq (by lia) (by lia) (by decide);have S:Bt 20 (150+(0+(i:Int))):=.pq (by lia) (by lia) (by decide);have R:Bt 20 (160+(0+(i:Int))):=.pq (by lia) (by lia) (by decide);have A:=rP (a:=c) (k:=140+(0+(i:Int)));have z:=rP (a:=c) (k:=150+(0+(i:Int)));have B:0<=w.1/\w.1<2^240:=⟨cL y x,v⟩;unfold pK
 refine fJ (fQ (Ah rfl rfl O (iO ⟨_,rfl,rfl,fN (hU (fD (EN rfl rfl U (fD (EN rfl rfl S (fS (f6 ⟨l6 ⟨by decide,by decide,?_⟩,f6 ⟨jS (A.bt.mono (by decide)),rfl,rfl⟩⟩)))))) ?_)⟩)))
 ·have:=z.1;have:=z.2;clear A B y x o v H;lia
 generalize lD c _*_=qr
 refine hU (fD (fD (fD (fF rfl (fS (f6 ⟨by decide,⟨_,_,rfl,f6 ⟨l6 (show 0<w.1+2 by lia),fK (eX (fD (fD (EN rfl rfl R (fS (f6 ⟨by decide,fS (iZ (fE (wF.mpr (f6 ⟨kB (Bt.of_lt (k:=64) ?_ ?_),rfl,rfl⟩))))⟩))))))⟩⟩⟩)))))) ?_
 ·split<;>decide
 ·split<;>decide
 obtain⟨sl,D,s⟩:=MQ (p:=decide (lD c (160+(0+(i:Int)))%3=0)) (x:=qr/7) B;rw[D];clear D
 refine jI (λG C=>C=gV rs/\∃qr sl,(0<=sl/\sl<=2^241)/\G=sB ws ps c ns [some (.int (0+(i:Int))),some (.int w.1),some (.int w.2.1),some (.int w.2.2),some (.int qr),some (.int sl),g,h]) (hX (gC (fD (fD (yn rfl ⟨_,_,rfl,rfl,rfl⟩ (by decide) (fS (f6 ⟨by decide,fS (iZ ⟨_,rfl,?_⟩)⟩))))))) ?_
 ·generalize decide (oA ns 61%2=1)=q;cases q
  ·exact(if_neg bJ).mpr (gL ⟨rfl,rfl,_,_,s,rfl⟩)
  ·have l:=jJ (x:=oA ns (30+(0+(i:Int)))) (m:=10^eU 31) (by decide)
   exact(if_pos rfl).mpr (hU (yn rfl ⟨_,_,rfl,rfl,rfl⟩ (Hl (by decide)) ⟨rfl,rfl⟩) (fQ (fD (yn rfl ⟨_,_,rfl,rfl,rfl⟩ (Hl (by decide)) ⟨_,_,rfl,f6 ⟨by decide,fL ⟨rfl,rfl,_,_,⟨l.1,eA (cD l.2 (by decide))⟩,rfl⟩⟩⟩))))
 rintro _ _ ⟨rfl,qr,sl,r,rfl⟩;have X:=jJ (x:=qr) (m:=w.1 - w.2.1+1) (by lia)
 refine kO (fF rfl (eX (jC (gS (eX (fF rfl (eX (fD (fF rfl (fD (fF rfl (gK (t:=.int (w.1 - w.2.1+1)) rfl (f6 ⟨l6 (by lia),f8 (fE ⟨by simp[lim],fE ⟨_,rfl,rfl,_,rfl,lT ⟨?_,?_⟩⟩⟩)⟩)))))))))))))
 ·unfold cells;rw[aN,aSM];simp only[lim]
  lia
 change Q .nx _ ((gV rs++[inr (sl,w.2.1+qr%(w.1 - w.2.1+1))]).set 0 (.l,cells rs.length++[T.cell (gV rs).length]));rw[Sh]
 refine k _ _ _ _ _ _ _ _ (by simp[F]) λj I J u m=>?_
 by_cases L:j<rs.length
 ·rw[aW L]at m
  exact N j I J u m
 ·have K:=(fA m).1;rw[bF,aSs]at K;have t:j=i:=by lia
  subst t;rw[n]at u;cases u;rw[bD (by lia),F,c7]at m;cases m;dsimp only
  exact⟨by lia,by lia,r⟩
theorem Vz(P:ws.length<=8)(J:∀w∈ws,tV w)(cz:ps.length<=63)(z:ji ws.length ps)(U:tp ps):∃rs,nX [.lst (ws.map w3),.lst (ps.map pT),.int c,.lst (ns.map T.int)]=some (.lst (rs.map pT))/\Row ws ps rs/\∀p∈ps,(aB rs p.1).1+(aB rs p.1).2<=(aB rs p.2).1:=by
 obtain⟨_,_,o,_,ho,cr⟩:=pS P (by lia) z U;have G:=cr.qj ho;suffices h:∃t,nX [.lst (ws.map w3),.lst (ps.map pT),.int c,.lst (ns.map T.int)]=some t/\∃rs,t=.lst (rs.map pT)/\∃hs:Int->Int,(∀(i:Nat)(w:W3),ws[i]?=some w->w.2.1<=hs i/\hs i<=w.1)/\Rd ps o hs (2^241) (2^240) ws.length ws.length rs by
  obtain⟨_,e1,rs,rfl,hs,X,D⟩:=h;have R:=D.len;have at_:∀r∈rs,∃i:Nat,i<ws.length/\aB rs i=r:=λr v=>by
   obtain⟨i,l⟩:=fT v;have q:=(fA l).1
   exact⟨i,by lia,by rw[uQ,bI,l];rfl⟩
  have key:∀i:Nat,i<ws.length->0<=(aB rs i).2/\0<=(aB rs i).1/\(aB rs i).1+(aB rs i).2<2^252:=λi l=>by
   have q:=X i ws[i] (aO l);have n:=J _ (c9 l);have Q:=n.1;have h4:=n.2.2.2.1;obtain⟨j,s⟩:=fT (G.all i l);have h5:=(fA s).1;have h6:=D.bd j i s;rw[D.el i (by lia) (by lia)]
   exact⟨by lia,D.nn i (by lia) (by lia),by lia⟩
  refine⟨rs,e1,⟨⟨R,P,λw z=>(J w z).bd,λp y=>?_⟩,cz,z,U,λr v=>?_,λr v=>?_⟩,λp y=>?_⟩
  ·obtain⟨i,l⟩:=fT y;have q:=(fA l).1;rw[b7]at q;have M:i<ws.length:=by lia
   rw[CA R M]at l;cases l;have n:=X i ws[i] (aO M);rw[D.el i (by lia) (by lia),aO M]
   exact n
  ·obtain⟨i,l,rfl⟩:=at_ r v
   exact(key i l).1
  ·obtain⟨i,l,rfl⟩:=at_ r v
   exact(key i l).2
  ·obtain⟨⟨a0,a1⟩,b0,b1⟩:=z p y;obtain⟨j,s⟩:=fT (G.all p.2.toNat (by lia));rw[bG b0]at s;have h5:=(fA s).1;rw[D.el p.1 a0 a1]
   exact D.dn j p.2 p.1 (by lia) s y
 apply m8;unfold wR;walk_at "a"
 refine jI (λm C=>C=gV []/\m=sB ws ps c ns [none,none,none,none,none,none,none,none]) (by simp_arith[↓gE,↓gD];exact⟨by decide,rfl⟩) ?_
 rintro _ _ ⟨rfl,rfl⟩
 refine jI (λm C=>∃rs,(rs.length=ws.length/\D4 ws rs)/\C=gV rs/\∃a b d e f g h i,m=sB ws ps c ns [a,b,d,e,f,g,h,i]) ?_ ?_
 ·refine kI (gK (t:=.int ws.length) (tT (by simp_arith[↓gE,↓gD,aN])) ⟨_,rfl,by lia,?_⟩)
  refine pD (λi m C=>∃rs,(rs.length=i/\D4 ws rs)/\C=gV rs/\∃a b d e f g h i,m=sB ws ps c ns [a,b,d,e,f,g,h,i]) ⟨[],⟨rfl,λi w r _ h=>by simp at h⟩,rfl,_,_,_,_,_,_,_,_,rfl⟩ ?_ ?_
  ·rintro i m C l ⟨rs,⟨I,F⟩,rfl,_,_,_,_,_,_,_,_,rfl⟩
   exact fL (BJ P J (by lia) I F λL _ _ _ _ _ _ _ q n=>⟨trivial,L,⟨q,n⟩,rfl,_,_,_,_,_,_,_,_,rfl⟩)
  ·rintro m C ⟨rs,⟨I,F⟩,h⟩
   exact⟨rfl,rs,⟨by lia,F⟩,h⟩
 rintro _ _ ⟨rs,⟨I,F⟩,rfl,_,_,_,_,_,_,_,_,rfl⟩;have N:∀(i:Nat)(w:W3),ws[i]?=some w->w.2.1<=(aB rs i).2/\(aB rs i).2<=w.1/\0<=(aB rs i).1/\(aB rs i).1<=2^241:=λi w l=>by
  have q:=(fA l).1
  refine F i w _ l ?_
  rw[uQ,bI,aO (by lia)];rfl
 have K:∀x:Int,0<=x->x<ws.length->(0<=(aB rs x).2/\(aB rs x).2<=2^240)/\0<=(aB rs x).1/\(aB rs x).1<=2^241:=λx B q=>by
  have l:x.toNat<ws.length:=by lia
  have n:=N x.toNat _ (aO l);have Q:=J _ (c9 l);rw[bG B]at n
  exact⟨⟨cL Q.1 n.1,cL n.2.1 (eA Q.2.2.2.1)⟩,n.2.2⟩
 have Z:Rd ps o (λx=>(aB rs x).2) (2^241) (2^240) ws.length 0 rs:=⟨I,λ_ _ _=>rfl,λx B q=>(K x B q).2.1,λj w s=>by
  have v:=G.kg w (aZ s);have:=(K w v.1 v.2).2.2
  lia,λj w a s=>by lia⟩
 have A:∀(i:Nat)(w:W3),ws[i]?=some w->w.2.1<=(λx:Int=>(aB rs x).2) i/\(λx:Int=>(aB rs x).2) i<=w.1:=λi w l=>⟨(N i w l).1,(N i w l).2.1⟩
 have Y:∀x:Int,0<=x->x<ws.length->0<=(λx:Int=>(aB rs x).2) x/\(λx:Int=>(aB rs x).2) x<=2^240:=λx B q=>(K x B q).1
 generalize (λx:Int=>(aB rs x).2)=hs at Z A Y
 refine jI (λm C=>∃rs,Rd ps o hs (2^241) (2^240) ws.length ws.length rs/\C=gV rs/\∃a b d e f g h i,m=sB ws ps c ns [a,b,d,e,f,g,h,i]) ?_ ?_
 ·refine kI (gK (t:=.int ws.length) (tT (by simp_arith[↓gE,↓gD,aN])) ⟨_,rfl,by lia,?_⟩)
  rw[cB]
  refine pD (λk m C=>∃rs,Rd ps o hs (2^241) (2^240) ws.length k rs/\C=gV rs/\∃a b d e f g h i,m=sB ws ps c ns [a,b,d,e,f,g,h,i]) ⟨rs,Z,rfl,_,_,_,_,_,_,_,_,rfl⟩ ?_ λm C h=>⟨rfl,h⟩
  rintro k m C hk ⟨rs,D,rfl,_,_,_,_,_,_,_,_,rfl⟩;unfold tL
  refine fL (j4 (fF rfl ⟨_,rfl,?_⟩))
  refine k7 (xs:=ps) (en:=pT) (λi m C=>∃rs,(Rd ps o hs (2^241) (2^240) ws.length k rs/\∀u a,o[k]?=some u->(a,u)∈ps.take i->(aB rs a).1+hs a<=(aB rs u).1)/\C=gV rs/\∃a b d e f g h i,m=sB ws ps c ns [a,b,d,e,f,g,h,i]) ⟨rs,⟨D,λu a _ h=>by simp at h⟩,rfl,_,_,_,_,_,_,_,_,rfl⟩ ?_ ?_
  ·rintro i p m C l ⟨rs,⟨D,H⟩,rfl,_,_,_,_,_,_,_,_,rfl⟩;have y:=aZ l;obtain⟨q1,E⟩:=z p y;have R:=D.len;obtain⟨D',S⟩:=D.step G z Y (by decide) y
   refine iO ⟨_,rfl,rfl,O1 (p:=p) rfl rfl rfl ⟨q1.1,by lia⟩ ⟨E.1,by lia⟩ ⟨trivial,_,⟨D',λu a O hm=>?_⟩,rfl,_,_,_,_,_,_,_,_,rfl⟩⟩
   rw[dY,l]at hm;rcases fY hm with hm|hm
   ·exact S u a O (aSz hm) (.inr (H u a O hm))
   ·have:(a,u)=p:=gJ hm
    exact S u a O (this ▸ y) (.inl this)
  ·rintro m C ⟨rs,⟨D,H⟩,rfl,h⟩;rw[cO]at H
   exact⟨trivial,rs,D.next H,rfl,h⟩
 rintro _ _ ⟨L,D,rfl,_,_,_,_,_,_,_,_,rfl⟩
 exact fZ (fF rfl ⟨_,NW,L,rfl,hs,A,D⟩)
end
end ij
namespace aI
open PySem L2 TL NF
section
variable {a j l:List (Int×Int×Int)}{c m o:List (Int×Int)}{d r s:List (List Int)}{bs fs u v w A:List Int}{z y B C D F e G q H I:Int}{b h J K M N:Nat->Int}
noncomputable def two(n:Nat)(f g:Nat->Int)(i:Nat):Int:=if i<n then f i else g (i - n)
theorem lr.Ej(L:lr a c d bs fs z y)(p:Pl a c e b h)(Q:0<=e)(R:cst a h=0):y<=e:=by
 have key:∀i,i<a.length->bw (a.map jV) i<=h i:=λi f=>by
  have P:0<=(gM a).p i:=(pZ (P:=rB) L.g.ok f).2.2.1;have S:=p.hu i f;have n:=p.lh i f;rw[GJ f];split
  ·exact n
  ·rename_i U;have g:=ID (g:=λi=>(gM a).p i*((gM a).u i - h i)) (n:=a.length) (λk O=>dQ (pZ (P:=rB) L.g.ok O).2.2.1 (by have:=p.hu k O;lia)) f;have Y:(gM a).p i*((gM a).u i - h i)<=0:=cL g (aSV R);by_cases X:h i<(gM a).u i
   ·have:=Int.mul_pos (show 0<(gM a).p i by lia) (show 0<(gM a).u i - h i by lia)
    lia
   ·lia
 rw[<-L.yy]
 refine L.g.fst L.f (aN _) Q p.b0 (λx t=>?_) λi f=>?_
 ·have S:=p.ne x t;have n:=L.g.gc _ t;have g:=key x.1.toNat (by lia);rw[bG n.1.1]at g
  lia
 ·have:=p.en i f;have:=key i f
  lia
end
end aI
namespace ij
open PySem L2 TL aI NF
section
variable {ws:List W3}{ps rs:List Rw}{a:List (List Int)}{bs fs:List Int}{z y e:Int}{pp:Nat->Int}{i:Nat}
theorem Qx(L:lr ws ps a bs fs z y)(t:∀w∈ws,tV w):y<=8*2^240:=by
 obtain⟨_,_,o,_,n,s⟩:=pS L.g.l8 L.g.pl L.g.gc L.g.qh;have d:=s.qj n;have f:∀(j:Nat)(w:Int),o[j]?=some w->o.idxOf w=j:=λj w c=>by
  obtain⟨m,q⟩:=fA c;rw[<-q]
  exact d.nd.idxOf_getElem j m
 have at_:∀i:Nat,i<ws.length->∃j:Nat,j<8/\o[j]?=some (i:Int):=λi b=>by
  obtain⟨j,c⟩:=fT (d.all i b);have m:=(fA c).1;have:=L.g.l8
  exact⟨j,by lia,c⟩
 have g:∀i,i<ws.length->0<=(gM ws).l i/\(gM ws).l i<=(gM ws).u i/\(gM ws).u i<2^240:=λi b=>by
  have h:tV ((ws[i]?).getD (0,0,0)):=pZ (P:=tV) t b
  exact⟨h.1,h.2.1,h.2.2.2.1⟩
 refine L.Ej (b:=λi=>(o.idxOf (i:Int):Int)*2^240) (h:=(gM ws).u) ⟨λi b=>by lia,λi b=>(g i b).2.1,λi b=>bM _,λi b=>?_,λp l=>?_⟩ (by decide) (pI λi b=>by rw[aSW,d8])
 ·obtain⟨j,c,e⟩:=at_ i b;have:=g i b;rw[f j _ e]
  lia
 ·obtain⟨c1,c2⟩:=L.g.gc p l;obtain⟨j,c,e⟩:=at_ p.2.toNat (by lia);rw[bG c2.1]at e;obtain⟨k,u,r⟩:=DR d e l;have:=g p.1.toNat (by lia);rw[bG c1.1,bG c2.1,f j _ e,f k _ r]
  lia
def lq(ws:List W3)(pp:Nat->Int):List Rw:=(bH ws.length).map λi=>(hG pp i,el (gM ws) pp i)
theorem uY:(lq ws pp).length=ws.length:=by unfold lq;rw[aN,eL]
theorem DH(b:i<ws.length):aB (lq ws pp) i=(hG pp i,el (gM ws) pp i):=by
 rw[uQ,bI];unfold lq;rw[bA,cW b];rfl
theorem Gy:(ek.qa ws pp).map iT=(lq ws pp).map pT:=by
 apply aRJ;intro i;rw[bA,bA];by_cases b:i<ws.length
 ·rw[ek.J2 b];unfold lq;rw[bA,cW b];rfl
 ·rw[b5 (by unfold ek.qa;rw[aN,aR3];lia),b5 (by rw[uY];lia)];rfl
def td(rs:List Rw)(j:Nat):Int:=if j%2=0 then(aB rs ((j/2 - 1:Nat):Int)).1 else(aB rs ((j/2 - 1:Nat):Int)).1+(aB rs ((j/2 - 1:Nat):Int)).2
theorem Je:hG (td rs) i=(aB rs i).1:=by
 unfold hG td;rw[if_pos (by lia),show(2*i+2)/2 - 1=i by lia]
theorem Iw(h:(aB rs i).2<=(gM ws).u i):el (gM ws) (td rs) i=(aB rs i).2:=by
 have c:td rs (2*i+2)=(aB rs i).1:=Je;have b:td rs (2*i+3)=(aB rs i).1+(aB rs i).2:=by
  unfold td;rw[if_neg (by lia),show(2*i+3)/2 - 1=i by lia]
 unfold el;rw[c,b,show(aB rs i).1+(aB rs i).2 - (aB rs i).1=(aB rs i).2 by lia]
 exact Int.min_eq_right h
theorem Qh(c:rs.length=ws.length)(h:∀i,i<ws.length->rh rs i<=(gM ws).u i):lq ws (td rs)=rs:=by
 apply aRJ;intro i;by_cases b:i<ws.length
 ·have e:rs[i]?=some (aB rs i):=by rw[uQ,bI,aO (by lia)];rfl
  unfold lq;rw[bA,cW b,e];show some (hG (td rs) i,el (gM ws) (td rs) i)=_;rw[Je,Iw (h i b)]
 ·rw[b5 (by rw[uY];lia),b5 (by lia)]
theorem VB:lY=ek.lY:=rfl
theorem WC:lV=ek.lV:=rfl
theorem y8(R:Row ws ps rs)(p:Pl ws ps e (rb rs) (rh rs)):lY [.lst (ws.map w3),.lst (rs.map pT)]=some (.int (cst ws (rh rs))):=by
 have c:∀i,i<ws.length->el (gM ws) (td rs) i=rh rs i:=λi b=>Iw (p.hu i b)
 have h:=ek.zY (ws:=ws) (pp:=td rs) R.pl.sd R.pl.Bk λi b=>by
  have d:=pZ (P:=rB) R.pl.Bk b;have k:(gM ws).u i<2^252:=d.2.2.2.1;have j:0<=(gM ws).l i:=d.1;have g:=p.lh i b;have f:=p.hu i b;rw[c i b]
  exact⟨by lia,by lia⟩
 rw[Gy,Qh R.pl.len p.hu,<-VB,jU λi b=>by rw[c i b]]at h
 exact h
end
end ij
namespace ij
open PySem L2 TL aI NF
open qi (jI o9 yH)
section
variable {ws:List W3}{ps rs:List Rw}{e:Int}
theorem Ee{a b:Int}:∃x y,zp [a,b]=[x,y]/\x<=y/\(x=a\/x=b)/\(y=a\/y=b):=by
 have p:=yK (xs:=[a,b]);have s:=Gj (xs:=[a,b]);have c:=p.length_eq;match h:zp [a,b],c with
 | [x,y],_=>
   rw[h]at p s
   refine⟨x,y,rfl,?_,by simpa using p.mem_iff.mp (bC (a:=x) (l:=[y])),by simpa using p.mem_iff.mp (show y∈[x,y]by simp)⟩
   exact(kF s).1 y bC
theorem Row.xy(R:Row ws ps rs)(j:∀r∈rs,r.1+r.2<=e)(g:∀p∈ps,(aB rs p.1).1+(aB rs p.1).2<=(aB rs p.2).1):Pl ws ps e (rb rs) (rh rs):=by
 have d:∀i:Nat,i<ws.length->aB rs i∈rs:=λi a=>xX (by lia) (by rw[R.pl.len];lia)
 have f:∀i:Nat,i<ws.length->(gM ws).l i<=rh rs i/\rh rs i<=(gM ws).u i:=λi a=>R.pl.Ez _ (aZ (CA R.pl.len a))
 refine⟨λi a=>(R.b0 _ (d i a)).1,λi a=>(f i a).1,λi a=>(f i a).2,λi a=>j _ (d i a),λp b=>?_⟩
 have c:=R.gc p b;have h:=g p b;unfold rb rh;rw[bG c.1.1,bG c.2.1]
 exact h
theorem Rj{f:List (List Int)}{bs fs:List Int}{z y:Int}{pp:Nat->Int}(L:lr ws ps f bs fs z y)(d:∀i,i<ws.length->0<=hG pp i/\(gM ws).l i<=el (gM ws) pp i/\el (gM ws) pp i<=(gM ws).u i/\hG pp i+el (gM ws) pp i<=e)(j:e<2^252):Row ws ps (lq ws pp)/\∀r∈lq ws pp,0<=r.1/\0<=r.2/\r.1+r.2<=e:=by
 have key:∀r∈lq ws pp,0<=r.1/\0<=r.2/\r.1+r.2<=e:=λr b=>by
  obtain⟨i,a,rfl⟩:=fU b;have a:=iY a;have h:=d i a;have l:0<=(gM ws).l i:=(pZ (P:=rB) L.g.ok a).1
  exact⟨h.1,by dsimp only;lia,h.2.2.2⟩
 refine⟨⟨⟨uY,L.g.l8,L.g.ok,λp g=>?_⟩,L.AI,L.g.gc,L.g.qh,λr b=>(key r b).2.1,λr b=>⟨(key r b).1,cU (key r b).2.2 j⟩⟩,key⟩
 obtain⟨i,a⟩:=fT g;have k:=(fA a).1;rw[b7]at k;have c:i<ws.length:=by lia
 rw[CA uY c,DH c]at a;cases a;have h:=d i c
 exact⟨h.2.1,h.2.2.1⟩
end
abbrev sK(ns:List Int)(ws:List W3)(ps:List Rw)(c:Int)(r:aD):aD:=[some (.lst (ns.map T.int)),some (.lst (ws.map w3)),some (.lst (ps.map pT)),some (.int c)]++r
theorem S2:∀ns:List Int,ns.length<=63->(∀n∈ns,Builtin.Int.intBits n<=2^20)->Ds [.lst (ns.map T.int)]=some (.bl true):=by
 intro ns hl hb;obtain⟨ws,ps,nd,bs,fs,z,y,e1,L,h8,h20,bj⟩:=Et hl (M:=8) (by decide) (by decide) (u:=10^20) (by decide) (by decide);have hz0:=L.z0;have hzy:=L.zy;have hy:=Qx L bj;generalize hc:oA ns 2=c;obtain⟨rs,ep,R,ax⟩:=Vz (c:=c) (ns:=ns) h8 bj (by lia) L.g.gc L.g.qh;obtain⟨x1,J⟩:=qE (ns:=(rs.map λr=>r.1+r.2)++[0]) (by simp);generalize ut:uH ((rs.map λr=>r.1+r.2)++[0])=f at x1 J;have m:rs.length<=8:=by rw[R.pl.len];exact h8
 have qm:∀r∈rs,r.1+r.2<=f:=λr j=>J _ (eO _ (cM j))
 have v:0<=f:=J 0 (by simp);have hle:f<2^252:=by
  rcases fY x1 with h|h
  ·obtain⟨r,j,rfl⟩:=fU h
   exact(R.b0 r j).2
  ·rw[gJ h];decide
 have p0:=R.xy qm ax;have l:∀r∈rs,0<=r.1/\0<=r.2/\r.1+r.2<=f:=λr j=>⟨(R.b0 r j).1,R.h0 r j,qm r j⟩
 obtain⟨m1,E,wm⟩:=wD (c:=c) m v l;obtain⟨m2,Z,hm2⟩:=wD (c:=c+1) m v l;obtain⟨a,b,eab,mm,ha,xa⟩:=Ee (a:=m1) (b:=m2);have iz:0<=a:=by rcases ha with rfl|rfl<;>lia
 have xb:b<=f:=by rcases xa with rfl|rfl<;>lia
 have et:=Sd R iz mm;obtain⟨t,eT,hT,_⟩:=Lx R (m:=b) (by lia) xb (by lia) p0;have eP:=y8 R p0;have w1:∀{C Q},aJ (jZ 3 Ba [.lst (ns.map T.int),.int 8,.int (10^eU 20)] C) Q↔Q (.tup [.lst (ws.map w3),.lst (ps.map pT)]) C:=f7 e1 rfl (by walk_at "c");apply iP;unfold Im;walk_at "a"
 refine jI (λd C=>C=[]/\d=[some (.lst (ns.map T.int)),some (.lst (ws.map w3)),some (.lst (ps.map pT)),none,none,none,none,none,none,none,none,none]) (by simp_arith[↓gE,↓gD,↓w1];decide) ?_
 rintro _ _ ⟨rfl,rfl⟩
 refine jI (λd C=>C=[]/\d=sK ns ws ps c [none,none,none,none,none,none,none,none]) (by simp_arith[↓gE,↓gD,↓uZ,hc]) ?_
 rintro _ _ ⟨rfl,rfl⟩
 refine jI (λd C=>C=[]/\d=sK ns ws ps c [some (.lst (rs.map pT)),none,none,none,none,none,none,none]) (fQ (fK (eX (fF rfl (eX (fF rfl (eX (fF rfl (eX (fF rfl (fE ((f7 ep rfl (by rw[fW,fW,fW,fW,hJ,gY,gY,gY,nA,kA,iX];rfl)).mpr (fL ⟨rfl,rfl,rfl⟩))))))))))))) ?_
 rintro _ _ ⟨rfl,rfl⟩
 refine jI (λd C=>C=[]/\d=sK ns ws ps c [some (.lst (rs.map pT)),some (.int f),none,none,none,none,none,none]) ?_ ?_
 ·refine fQ (fK (eX (fV (mJ (fV (iQ (gP ⟨_,rfl,_,rfl,by rw[aN];simp only[lim];lia,iG (λr=>T.int (r.1+r.2)) (λr j=>iO ⟨_,rfl,rfl,gK (t:=.int (r.1+r.2)) rfl ⟨rfl,rfl⟩⟩) ?_⟩)))))))
  refine fV (gS (eX (fS (fE ⟨by decide,m4 ⟨_,rfl,_,rfl,by simp[lim];lia,fE (mI ⟨_,rfl,(rs.map λr=>r.1+r.2)++[0],?_,by simp,fL ⟨rfl,rfl,?_⟩⟩)⟩⟩))))
  ·rw[show(rs.map fun(r:Rw)=>T.int (r.1+r.2))++[T.int 0]=((rs.map fun(r:Rw)=>r.1+r.2)++[0]).map λx=>T.int x by simp,n5];simp
  ·rw[ut];rfl
 rintro _ _ ⟨rfl,rfl⟩;have F:∀{x y:Int},ei [.lst (rs.map pT),.int x,.int y]=true:=by intro x y;rw[fW,fW,fW,hJ,gY,kA];rfl
 refine jI (λd C=>C=[]/\d=sK ns ws ps c [some (.lst (rs.map pT)),some (.int f),some (.lst [.int a,.int b]),none,none,none,none,none]) ?_ ?_
 ·refine fQ (fV (rR.mpr (eX (fV (gS (eX (fK (eX (fF rfl (eX (fF rfl (eX (fF rfl (fE ((f7 E rfl F).mpr ?_)))))))))))))))
  refine eX (fK (eX (fF rfl (eX (fF rfl (eX (gK (t:=.int (c+1)) rfl (fE ((f7 Z rfl F).mpr (fE ⟨by simp[lim],fE ⟨(zp [m1,m2]).map T.int,rfl,fL ⟨rfl,rfl,?_⟩⟩⟩))))))))))
  rw[eab];rfl
 rintro _ _ ⟨rfl,rfl⟩;have D:∀{x y:Int},ei [.lst (ws.map w3),.lst (ps.map pT),.lst (rs.map pT),.int x,.int y]=true:=by intro x y;rw[fW,fW,fW,fW,fW,hJ,gY,gY,gY,nA,kA,kA];rfl
 refine jI (λd C=>C=[]/\d=sK ns ws ps c [some (.lst (rs.map pT)),some (.int f),some (.lst [.int a,.int b]),none,none,none,none,none]) (o9 (jP (iU (fK (eX (fF rfl (eX (fF rfl (eX (fF rfl (eX (gK (ek.Ad (a:=6) rfl rfl rfl) (eX (gK (ek.Ad (a:=6) rfl rfl rfl) (fE ((f7 et rfl D).mpr ⟨true,rfl,rfl,rfl⟩))))))))))))))) (gL ⟨rfl,rfl,rfl⟩)) ?_
 rintro _ _ ⟨rfl,rfl⟩
 refine jI (λd C=>C=[]/\d=sK ns ws ps c [some (.lst (rs.map pT)),some (.int f),some (.lst [.int a,.int b]),some (.int t),none,none,none,none]) (fQ (fK (eX (fF rfl (eX (fF rfl (eX (fF rfl (eX (fF rfl (eX (gK (ek.Ad (a:=6) rfl rfl rfl) (fE ((f7 eT rfl D).mpr (fL ⟨rfl,rfl,rfl⟩))))))))))))))) ?_
 rintro _ _ ⟨rfl,rfl⟩
 refine jI (λd C=>C=[]/\d=sK ns ws ps c [some (.lst (rs.map pT)),some (.int f),some (.lst [.int a,.int b]),some (.int t),none,none,none,none]) (o9 (jY (jP (iU (fK (eX (fF rfl (fE (wE.mpr ⟨true,rfl,?_⟩)))))))) (gL ⟨rfl,rfl,rfl⟩)) ?_
 ·rw[if_neg (by simp)]
  refine gC (fD (fF rfl (fK (eX (fF rfl (eX (fF rfl (fE ((f7 eP rfl Dg).mpr (f8 ⟨_,rfl,?_,rfl⟩))))))))))
  exact decide_eq_false (by lia)
 rintro _ _ ⟨rfl,rfl⟩;have w4:∀{C Q},aJ (jZ 2 sL [.lst (ws.map w3),.lst (ps.map pT)] C) Q↔Q (.tup [.int z,.int y]) C:=f7 L.en rfl ek.HJ;generalize T.lst [.int a,.int b]=B6
 refine jI (λd C=>C=[]/\d=sK ns ws ps c [some (.lst (rs.map pT)),some (.int f),some B6,some (.int t),some (.int z),some (.int y),none,none]) (by simp_arith[↓gE,↓gD,↓w4]) ?_
 rintro _ _ ⟨rfl,rfl⟩;have qe:Bt 20 (70:Int):=.pq (by lia) (by lia) (by decide);have m2':Bt 20 (71:Int):=.pq (by lia) (by lia) (by decide);have s:Sm (lD c 70):=rP;have o:Sm (lD c 71):=rP;obtain⟨dr,wx⟩:∃dr,dr=lD c 70*lD c 71^eU 3+oA ns 62:=⟨_,rfl⟩;have hm:0<=dr%(y - z+1)/\dr%(y - z+1)<y - z+1:=⟨aSp _ (by lia),aR1 _ (by lia)⟩
 refine jI (λd C=>C=[]/\d=sK ns ws ps c [some (.lst (rs.map pT)),some (.int f),some B6,some (.int t),some (.int z),some (.int y),some (.int dr),none]) ?_ ?_
 ·simp_arith[↓gE,↓gD,↓uZ,↓oX];rw[<-wx];have I:=o.1;have H:=o.2;have k:Bt 31 (lD c 71):=Bt.of_lt I (cD H (by decide));have bd0:Bt 31 (lD c 70):=Bt.of_lt s.1 (cD s.2 (by decide));have bp:Bt (31+31+31) (lD c 71^eU 3):=by
   rw[show lD c 71^eU 3=lD c 71*lD c 71*lD c 71 by show lD c 71^3=_;rw[aSY,aSY,aSY,Int.pow_zero,aSb]]
   exact(k.mul k).mul k
  have P:(lD c 71).natAbs<2^64:=by lia
  exact⟨decide_eq_true ⟨by decide,by decide,P⟩,tZ bd0 bp (by decide),rfl⟩
 rintro _ _ ⟨rfl,rfl⟩;clear wx;generalize hg:dr%(y - z+1)=g at hm;have M:z<=z+g:=by lia
 have K:z+g<2^252:=by lia
 refine jI (λd C=>C=[]/\d=sK ns ws ps c [some (.lst (rs.map pT)),some (.int (z+g)),some B6,some (.int t),some (.int z),some (.int y),some (.int dr),none]) (by simp_arith[↓gE,↓gD];rw[hg];exact⟨decide_eq_true (by lia),rfl⟩) ?_
 rintro _ _ ⟨rfl,rfl⟩;generalize z+g=e at M K;have W:=L.g.AH (bonus:=0) (by decide);obtain⟨_,P2⟩:=Vu L.g L.e L.f (by rw[L.zz];exact L.le) (e:=e) (cD K (by decide));rw[L.zz]at P2;obtain⟨f1,a1,pp,Cm,N,G1,jq,zu⟩:=P2 M;obtain⟨q,q1,PA⟩:=(wT L (e:=e) (by lia)).2 M;have lu:∀i,i<ws.length->(gM ws).l i<=(gM ws).u i:=λi S=>(pZ (P:=rB) L.g.ok S).2.1
 obtain⟨k1,k2,k3⟩:=J1 W G1 jq (cU zu W.pP) lu;have kq:q=len (jR ws nd 0) f1 - a1*e:=PA.MM ⟨f1,a1,pp,G1,jq,zu,rfl⟩;have yg:∀p∈ps,hG pp p.1.toNat+el (gM ws) pp p.1.toNat<=hG pp p.2.toNat:=λp G=>k2 _ (DB L.g.gc L.g.oD G)
 have eI:=ek.VJ (ps:=ps) (e:=e) (pp:=pp) L.g.l8 L.g.pl L.g.gc k1 yg;rw[<-WC,Gy]at eI;obtain⟨R2,wj⟩:=Rj L k1 K;have p2:Pl ws ps e (rb (lq ws pp)) (rh (lq ws pp)):=R2.xy (λr j=>(wj r j).2.2) λp G=>by
  obtain⟨c1,c2⟩:=L.g.gc p G;have h:=yg p G;have I:=DH (ws:=ws) (pp:=pp) (i:=p.1.toNat) (by lia);have H:=DH (ws:=ws) (pp:=pp) (i:=p.2.toNat) (by lia);rw[bG c1.1]at I;rw[bG c2.1]at H;rw[I,H]
  exact h
 have u:cst ws (rh (lq ws pp))=q:=by
  rw[kq]
  refine Eq.trans (jU λi S=>?_) k3
  show(gM ws).p i*((gM ws).u i - (aB (lq ws pp) i).2)=_;rw[DH S]
 obtain⟨m3,Y,qk⟩:=wD (rs:=lq ws pp) (e:=e) (c:=c+2) (by rw[uY];exact L.g.l8) (by lia) wj;obtain⟨t2,w,X,U⟩:=Lx R2 (m:=m3) qk.1 qk.2 (by lia) p2;have O:t2=q:=aRG (by rw[<-u];exact X) (U q λb h p=>PA.le L.g p);have A:=y8 R2 p2;rw[u]at A;rw[O]at w;have R1:=(ek.UP (ws:=ws) (pp:=pp) (Cm:=Cm)).sh (C:=[]);generalize hC1:Cm++(ws.zipIdx.map λx=>(Kd.l,(gu pp x.1 x.2).map T.int))++[(Kd.l,(bH ws.length).map λi=>T.cell (Cm.length+i))]=C1 at N R1;generalize hk1:Cm.length+ws.length=kp at N R1;have B:=R1.dr;rw[Gy]at B
 refine fJ (fQ (fK (eX (fF rfl (eX (fF rfl (eX (fF rfl (fE ((ek.Mc N rfl ek.FW).mpr (fL (fN ?_))))))))))))
 refine fJ (o9 (jP (iU (fK (eX (fF rfl (eX (fF rfl (eX (fF rfl (eX (fF rfl (fE (oM rfl (iC ek.FH (iC ek.HB (iC (iH gW) (iC B pR)))) ⟨_,eI,rfl,true,rfl,rfl,rfl⟩))))))))))))) (gL (fN ?_)))
 refine fJ (fQ (fK (eX (fF rfl (eX (fF rfl (eX (gK (t:=.int (c+2)) rfl (fE (oM rfl (iC B (iC (iH gW) (iC (iH gW) pR))) ⟨_,Y,rfl,fL (fN ?_)⟩))))))))))
 refine fZ (fD (fK (eX (fF rfl (eX (fF rfl (eX (fF rfl (eX (fF rfl (eX (fF rfl (fE (oM rfl (iC ek.FH (iC ek.HB (iC B (iC (iH gW) (iC (iH gW) pR))))) ⟨_,w,rfl,?_⟩))))))))))))))
 refine fK (eX (fF rfl (eX (fF rfl (fE (oM rfl (iC ek.FH (iC B pR)) ⟨_,A,rfl,iZ ?_⟩))))))
 rw[decide_eq_true rfl]
 exact iH mB
end ij
end
namespace ij
open PySem L2 TL aI
open HT (top)
local macro_rules| `(tactic|walk_at "bq")=>`(tactic|first|exact λ_ _ _ _ _ _=>rp λ_=>rfl|exact λ_ _ _ _ _ _=>t4 λ_=>rp λ_=>rfl|exact λ_ _ _ _ _ _=>t4 λ_=>t4 λ_=>rp λ_=>rfl|exact λ_ _ _ _ _ _=>t4 λ_=>t4 λ_=>t4 λ_=>rp λ_=>rfl|exact λ_ _ _ _ _ _=>t4 λ_=>t4 λ_=>t4 λ_=>t4 λ_=>rp λ_=>rfl)
section
variable {P:Program}{w:World}{K:aL}{a:Str->Option Value}{c:Heap}{f:Addr}{d:FuncData}
set_option maxHeartbeats 0
theorem T5:Ky P w K a c "_law_mixed" "_law_mixed" (top 55) ["_law_cell","_law_k"] 1 (spT K 2 jE):=λF=>da (N:=["_law_cell","_law_k","_law_number"]) F hV (iL hW) λb g=>
 (fH (gA b 2 (i6 (iD (iD (lL (e9 0) fM) (lL (lL (e9 1) (e9 1)) fM)) fM) fM))
  (fH (gA b 2 (i6 (lL (e9 2) (e9 2)) fM))
  (fO (gO (i6 (lL (e9 2) (e9 2)) fM)))))
theorem VF(b:a "len"=none):Ky P w K a c "_law_cell_at" "_law_cell_at" (top 54) ["_law_script","_law_k"] 1 (spT K 2 iW):=λF=>da (N:=["_law_script","_law_k"]) F hV (iL hW) λg h=>
 (fH (lC (As (e9 1) (mG b (eY (e9 0) fG))) (fO (gO (g8 (e9 0) (e9 1)))) i0)
  (fO (gO fM)))
theorem VT(h:jB P w K a c 1 "_law_mixed" 2 jE)(j:jB P w K a c 1 "_law_cell_at" 2 iW)(i:a "range"=none)(k:a "min"=none)(l:a "len"=none):Ky P w K a c "_law_numbers" "_law_numbers" (top 57) ["_law_cells"] 2 (spT K 1 oZ):=λF=>da (N:=["_law_cells","_law_numbers_here","_law_k","_law_at"]) F hV (iL hW) λb g=>
 (fH (sU b 1 i rfl (fy ["_law_k"] ["_law_cells"] [0]) fM (kK (by decide)) (λ_ _ _ _=>(kY (show List.Nodup (["_law_k","_law_cells"]:List Str)by decide) 0)) (λ_ _ _ _=>iV) (λ_ _ _ _=>(gB h (aF g) (eY (gB j (aF g) (eY (e9 1) (eY fM fG))) (eY (iD fM (e9 0)) fG)))))
  (fH (LA i rfl fM (rZ k rfl (eY fM (eY (mG l (eY (e9 0) fG)) fG))) (kY b 2) (fH (gA b 3 (i6 (e9 2) fM))
  (fO (sY (gB h (aF g) (eY (iD (g8 (e9 1) (e9 3)) (g8 (e9 0) (e9 2))) (eY (e9 2) fG))) (e9 1) (e9 3)))))
  (fO (gO (e9 1)))))
theorem Vd(h:jB P w K a c 1 "_law_mixed" 2 jE)(i:a "range"=none):Ky P w K a c "_law_names" "_law_names" (top 56) ["_law_cell","_law_many"] 2 (spT K 2 uI):=λF=>da (N:=["_law_cell","_law_many","_law_points","_law_k"]) F hV (iL hW) λb g=>
 (fH (gA b 2 (lF (iJ fG)))
  (fH (m9 i rfl (e9 1) (kY b 3) (fO (F4 (e9 2) (eY (i6 (gB h (aF g) (eY (e9 0) (eY (e9 3) fG))) (iD (e9 3) fM)) (eY (e9 3) fG)))))
  (fO (gO (e9 2)))))
theorem Wg(i:jB P w K a c 1 "_law_cell_at" 2 iW)(j:a "range"=none)(g:a "int"=none):Ky P w K a c "_law_lot_free" "_law_lot_free" (top 59) ["_law_cells","_law_many","_law_unit"] 2 (spT K 3 qQ):=λF=>da (N:=["_law_cells","_law_many","_law_unit","_law_base","_law_works","_law_k","_law_left_here","_law_least","_law_more","_law_order","_law_needs","_law_a"]) F hV (iL hW) λb h=>
 (fH (gA b 3 (g8 (gQ (iJ (eY fM (eY (lL (e9 2) (A4 fM fM)) fG)))) (i6 (lO (gB i (aF h) (eY (e9 0) (eY fM fG))) fM) fM)))
  (fH (gA b 4 (lF (iJ fG)))
  (fH (m9 j rfl (e9 1) (kY b 5) (fH (gA b 6 (gB i (aF h) (eY (e9 0) (eY (iD fM (e9 5)) fG))))
  (fH (gA b 7 (i6 (e9 6) (g8 (gQ (iJ (eY fM (eY (e9 3) fG)))) (pN g (eY (yp (e9 3) fM) fG)))))
  (fH (gA b 6 (Gp (e9 6) (g8 (gQ (iJ (eY fM (eY (e9 3) fG)))) (pN g (eY (yp (e9 3) fM) fG)))))
  (fH (gA b 8 (i6 (e9 6) (g8 (gQ (iJ (eY fM (eY (e9 3) fG)))) (pN g (eY (yp (e9 3) fM) fG)))))
  (fH (gA b 6 (Gp (e9 6) (g8 (gQ (iJ (eY fM (eY (e9 3) fG)))) (pN g (eY (yp (e9 3) fM) fG)))))
  (fO (qN (e9 4) (eY (gQ (iJ (eY (iD (e9 7) (e9 8)) (eY (e9 7) (eY (i6 (e9 6) (g8 (gQ (iJ (eY fM (eY (e9 3) fG)))) (pN g (eY (yp (e9 3) fM) fG)))) fG))))) fG)))))))))
  (fH (gA b 6 (gB i (aF h) (eY (e9 0) (eY fM fG))))
  (fH (gA b 9 (lF (iJ fG)))
  (fH (m9 j rfl (e9 1) (kY b 5) (fH (F4 (e9 9) (eY (i6 (e9 6) (iD (e9 5) fM)) (eY (e9 5) fG)))
  (fO (gA b 6 (Gp (e9 6) (iD (e9 5) fM))))))
  (fH (gA b 10 (lF (iJ fG)))
  (fH (m9 j rfl (e9 1) (kY b 5) (fO (mZ rfl (gQ (Gg (e9 9) GX (FU (e9 5)))) (kY b 11) (fH (lC (te (cq h) (i6 (e9 6) fM) fM) (fO (qN (e9 10) (eY (gQ (iJ (eY (e9 11) (eY (g8 (e9 9) (e9 5)) fG)))) fG))) i0)
  (fO (gA b 6 (lO (e9 6) fM)))))))
  (fO (gO (CD (eY (e9 4) (eY (e9 10) fG)))))))))))))
theorem Sa(h:a "int"=none):Ky P w K a c "_law_work" "_law_work" (top 58) ["_law_one","_law_two","_law_three","_law_mode","_law_unit"] 1 (spT K 5 uT):=λF=>da (N:=["_law_one","_law_two","_law_three","_law_mode","_law_unit","_law_least","_law_more","_law_price_here"]) F hV (iL hW) λb g=>
 (fH (gA b 5 (i6 (e9 0) fM))
  (fH (gA b 6 (i6 (e9 1) fM))
  (fH (gA b 7 (i6 (e9 2) fM))
  (fH (lC (te (cq g) (e9 3) fM) (fH (gA b 5 (iD (lL (e9 0) (e9 4)) (i6 (e9 1) fM)))
  (fH (gA b 6 (lL (lL (e9 1) (e9 4)) (pN h (eY (yp (i6 (e9 1) fM) fM) fG))))
  (fO (gA b 7 (iD (lL (e9 2) (e9 4)) (i6 (e9 0) fM)))))) i0)
  (fH (lC (te (cq g) (e9 3) fM) (fH (gA b 6 (lL (i6 (e9 1) fM) (i6 (lO (e9 1) fM) fM)))
  (fO (gA b 7 (g8 (gQ (iJ (eY fM (eY fM (eY fM (eY (iD fM (i6 (e9 2) fM)) fG)))))) (i6 (lO (e9 2) fM) fM))))) i0)
  (fH (lC (tr (Dt (te (cq g) (e9 3) fM) (DS (te (cq g) (i6 (e9 0) fM) fM)))) (fO (gA b 5 fM)) i0)
  (fO (gO (gQ (iJ (eY (iD (e9 5) (e9 6)) (eY (e9 5) (eY (e9 7) fG)))))))))))))
theorem Qc(l:jB P w K a c 2 "_law_numbers" 1 oZ)(m:jB P w K a c 1 "_law_cell_at" 2 iW)(k:jB P w K a c 2 "_law_names" 2 uI)(j:jB P w K a c 2 "_law_lot_free" 3 qQ)(i:jB P w K a c 1 "_law_work" 5 uT)(n:a "range"=none)(h:a "min"=none)(o:a "int"=none)(p:a "len"=none):Ky P w K a c "_law_lot" "_law_lot" (top 60) ["_law_cells","_law_most","_law_unit"] 3 (spT K 3 Ba):=λF=>da (N:=["_law_cells","_law_most","_law_unit","_law_numbers_here","_law_first","_law_few","_law_many","_law_cell","_law_works","_law_names_here","_law_needs","_law_k","_law_b","_law_back","_law_a"]) F hV (iL hW) λb g=>
 (fH (gA b 3 (gB l (aF g) (eY (e9 0) fG)))
  (fH (gA b 4 (gB m (aF g) (eY (e9 0) (eY fM fG))))
  (fH (gA b 5 (i6 (lO (e9 4) fM) (rZ h rfl (eY fM (eY (iD (e9 1) fM) fG)))))
  (fH (gA b 6 (g8 (gQ (iJ (eY (e9 5) (eY (mS (e9 1) (g8 (gQ (iJ (eY fM (eY fM (eY fM (eY fM fG)))))) (i6 (lO (e9 4) fM) fM))) (eY (e9 5) (eY (rZ h rfl (eY (e9 1) (eY (iD fM (i6 (lO (e9 4) fM) fM)) fG))) fG)))))) (i6 (e9 4) fM)))
  (fH (gA b 7 (gB m (aF g) (eY (e9 0) (eY fM fG))))
  (fH (lC (te (cq g) (i6 (lO (e9 7) fM) fM) fM) (fO (gO (gB j (aF g) (eY (e9 0) (eY (rZ h rfl (eY (e9 6) (eY (g8 (gQ (iJ (eY fM (eY fM fG)))) (pN o (eY (Ni (e9 1) fM) fG))) fG))) (eY (e9 2) fG)))))) i0)
  (fH (Ub b 8 n rfl (fy ["_law_k"] ["_law_numbers_here","_law_cell","_law_unit"] [3,7,2]) (e9 6) (kK (by decide)) (λ_ _ _ _=>(kY (show List.Nodup (["_law_k","_law_numbers_here","_law_cell","_law_unit"]:List Str)by decide) 0)) (λ_ _ _ _=>iV) (λ_ _ _ _=>(gB i (aF g) (eY (g8 (e9 1) (e9 0)) (eY (g8 (e9 1) (iD fM (e9 0))) (eY (g8 (e9 1) (iD fM (e9 0))) (eY (i6 (e9 2) fM) (eY (e9 3) fG))))))))
  (fH (gA b 9 (gB k (aF g) (eY (g8 (e9 3) fM) (eY (e9 6) fG))))
  (fH (gA b 10 (lF (iJ fG)))
  (fH (LA n rfl fM (iD fM (rZ h rfl (eY fM (eY (iD (e9 6) (i6 (lO (e9 7) fM) fM)) fG)))) (kY b 11) (fO (lC (yq (e9 6) fM) (fH (gA b 12 (iD fM (i6 (g8 (e9 3) (e9 11)) (mS (e9 6) fM))))
  (fH (gA b 13 (i6 (lO (g8 (e9 3) (e9 11)) fM) (rZ h rfl (eY (e9 12) (eY (g8 (gQ (iJ (eY fM (eY fM (eY fM fG))))) (i6 (lO (e9 7) fM) fM)) fG)))))
  (fH (gA b 14 (g8 (gQ (iJ (eY (mS (mS (e9 12) fM) (e9 13)) (eY (e9 13) fG)))) (i6 (lO (e9 7) fM) fM)))
  (fO (F4 (e9 10) (eY (i6 (lO (g8 (e9 3) (e9 11)) fM) (iD (mG p (eY (e9 10) fG)) fM)) (eY (gQ (iJ (eY (g8 (e9 9) (e9 14)) (eY (g8 (e9 9) (e9 12)) fG)))) fG))))))) i0)))
  (fO (gO (CD (eY (e9 8) (eY (gQ (Gg (e9 10) (FU (i6 (lO (e9 7) fM) fM)) GX)) fG)))))))))))))))
theorem WM(h:jB P w K a c 1 "_law_mixed" 2 jE)(i:jB P w K a c 1 "_law_cell_at" 2 iW)(j:a "range"=none)(k:a "len"=none)(m:a "int"=none)(l:a "max"=none):Ky P w K a c "_law_plan_by" "_law_plan_by" (top 65) ["_law_works","_law_needs","_law_cell","_law_script"] 2 (spT K 4 nX):=λF=>da (N:=["_law_works","_law_needs","_law_cell","_law_script","_law_rows","_law_k","_law_usual","_law_least","_law_price_here","_law_far","_law_slack","_law_a","_law_b"]) F hV (iL hW) λb g=>
 (fH (gA b 4 (lF (iJ fG)))
  (fH (m9 j rfl (mG k (eY (e9 0) fG)) (kY b 5) (fH (v7 (g8 (e9 0) (e9 5)) (lS rfl (iB b 6 (iB b 7 (iB b 8 lR)))))
  (fH (gA b 9 (lL (gB h (aF g) (eY (e9 2) (eY (iD fM (e9 5)) fG))) (A4 (gB h (aF g) (eY (e9 2) (eY (iD fM (e9 5)) fG))) fM)))
  (fH (gA b 10 (lL (i6 (lO (e9 9) fM) (iD (e9 6) fM)) (pN m (eY (Dh (cq g) (i6 (gB h (aF g) (eY (e9 2) (eY (iD fM (e9 5)) fG))) fM) fM) fG))))
  (fH (lC (te (cq g) (i6 (gB i (aF g) (eY (e9 3) (eY fM fG))) fM) fM) (fH (gA b 9 (gB i (aF g) (eY (e9 3) (eY (iD fM (e9 5)) fG))))
  (fO (gA b 10 (i6 (gB i (aF g) (eY (e9 3) (eY (iD fM (e9 5)) fG))) (A4 fM fM))))) i0)
  (fO (qN (e9 4) (eY (lF (iJ (eY (e9 10) (eY (iD (e9 7) (i6 (e9 9) (iD (mS (e9 6) (e9 7)) fM))) fG)))) fG))))))))
  (fH (m9 j rfl (mG k (eY (e9 0) fG)) (kY b 5) (fO (mZ rfl (e9 1) (lS rfl (iB b 11 (iB b 12 lR))) (fO (sY (vS l rfl (eY (g8 (g8 (e9 4) (e9 12)) fM) (eY (iD (g8 (g8 (e9 4) (e9 11)) fM) (g8 (g8 (e9 4) (e9 11)) fM)) fG))) (g8 (e9 4) (e9 12)) fM)))))
  (fO (gO (e9 4))))))
theorem V1:Ky P w K a c "is_work" "is_work" (top 6) ["many","number"] 1 (spT K 2 mT):=λF=>da (N:=["many","number"]) F hV (iL hW) λb g=>
 (fO (gO (WX fM (e9 1) (e9 0))))
theorem xF(h:jB P w K a c 1 "is_work" 2 mT)(i:a "range"=none):Ky P w K a c "needed_works" "needed_works" (top 7) ["many","needs"] 2 (spT K 2 iS):=λF=>da (N:=["many","needs","needed","first","second"]) F hV (iL hW) λb g=>
 (fH (sU b 2 i rfl (fy ["work"] [] []) (e9 0) (kK (by decide)) (λ_ _ _ _=>(kY (show List.Nodup (["work"]:List Str)by decide) 0)) (λ_ _ _ _=>iV) (λ_ _ _ _=>(lF (iJ fG))))
  (fH (mZ rfl (e9 1) (lS rfl (iB b 3 (iB b 4 lR))) (fH (lC (tr (ua (rW (nY (gB h (aF g) (eY (e9 0) (eY (e9 3) fG))))) (Bf (rW (nY (gB h (aF g) (eY (e9 0) (eY (e9 4) fG)))))))) (fO Lq) i0)
  (fO (lC (HS (cq g) (e9 3) (g8 (e9 2) (e9 4))) (fO (qN (g8 (e9 2) (e9 4)) (eY (e9 3) fG))) i0))))
  (fO (gO (e9 2)))))
theorem WS(i:a "range"=none)(j:a "len"=none)(g:a "all"=none):Ky P w K a c "least_ready" "least_ready" (top 8) ["needed","told"] 1 (spT K 2 nO):=λF=>da (N:=["needed","told","work"]) F hV (iL hW) λh b=>
 (fH (m9 i rfl (mG j (eY (e9 0) fG)) (kY h 2) (fO (lC (tr (Dt (HS (cq b) (e9 2) (e9 1)) (DS (nY (HM g rfl (eY (gQ (lM rfl (fy ["first"] ["told"] [1]) (g8 (e9 0) (e9 2)) (kK (by decide)) (λ_ _ _ _=>(kY (show List.Nodup (["first","told"]:List Str)by decide) 0)) (λ_ _ _ _=>iV) (λ_ _ _ _=>(Nf (cq b) (e9 0) (e9 1))))) fG)))))) (fO (gO (e9 2))) i0)))
  (fO Lq))
theorem Wf(i:jB P w K a c 2 "needed_works" 2 iS)(b:jB P w K a c 1 "least_ready" 2 nO)(j:a "len"=none):Ky P w K a c "order_of" "order_of" (top 5) ["many","needs"] 3 (spT K 2 lW):=λF=>da (N:=["many","needs","needed","order"]) F hV (iL hW) λg h=>
 (fH (gA g 2 (gB i (aF h) (eY (e9 0) (eY (e9 1) fG))))
  (fH (gA g 3 (lF (iJ fG)))
  (fH (qC 10 (As (mG j (eY (e9 3) fG)) (e9 0)) (fO (qN (e9 3) (eY (gB b (aF h) (eY (e9 2) (eY (e9 3) fG))) fG))))
  (fO (gO (e9 3))))))
theorem Wa:Ky P w K a c "done_at" "done_at" (top 11) ["row"] 1 (spT K 1 nK):=λF=>da (N:=["row"]) F hV (iL hW) λb g=>
 (fO (gO (iD (g8 (e9 0) fM) (g8 (e9 0) fM))))
theorem VC(b:jB P w K a c 1 "done_at" 1 nK):Ky P w K a c "is_done" "is_done" (top 16) ["row","moment"] 2 (spT K 2 l5):=λF=>da (N:=["row","moment"]) F hV (iL hW) λh g=>
 (fO (gO (Nj (gB b (aF g) (eY (e9 0) fG)) (e9 1))))
theorem Tc(b:jB P w K a c 2 "is_done" 2 l5):Ky P w K a c "waits" "waits" (top 17) ["row","moment"] 3 (spT K 2 pE):=λF=>da (N:=["row","moment"]) F hV (iL hW) λh g=>
 (fO (gO (Ir (HG (g8 (e9 0) fM) (e9 1)) (Fc (HL (gB b (aF g) (eY (e9 0) (eY (e9 1) fG))))))))
theorem xK(h:jB P w K a c 3 "waits" 2 pE)(j:jB P w K a c 2 "is_done" 2 l5)(g:jB P w K a c 1 "done_at" 1 nK)(k:a "list"=none):Ky P w K a c "rest_of_work" "rest_of_work" (top 15) ["work","row","moment"] 4 (spT K 3 nC):=λF=>da (N:=["work","row","moment","left"]) F hV (iL hW) λi b=>
 (fH (lC (nY (gB h (aF b) (eY (e9 1) (eY (e9 2) fG)))) (fO (gO (gQ (Jd k (eY (e9 0) fG))))) i0)
  (fH (lC (nY (gB j (aF b) (eY (e9 1) (eY (e9 2) fG)))) (fO (gO (gQ (iJ (eY fM (eY fM (eY fM fG))))))) i0)
  (fH (gA i 3 (mS (gB g (aF b) (eY (e9 1) fG)) (e9 2)))
  (fO (gO (gQ (iJ (eY (e9 3) (eY (e9 3) (eY fM fG))))))))))
theorem VM(i:jB P w K a c 3 "order_of" 2 lW)(g:jB P w K a c 4 "rest_of_work" 3 nC)(j:jB P w K a c 2 "is_done" 2 l5)(m:a "len"=none)(k:a "list"=none)(l:a "zip"=none):Ky P w K a c "rest_of" "rest_of" (top 13) ["works","needs","plan","moment"] 5 (spT K 4 l4):=λF=>da (N:=["works","needs","plan","moment","left_works","left_needs"]) F hV (iL hW) λh b=>
 (fH (oH (gB i (aF b) (eY (mG m (eY (e9 0) fG)) (eY (e9 1) fG))))
  (fH (Lh h 4 l rfl (fy ["work","row"] ["moment"] [3]) (e9 0) (e9 2) (oP (by decide)) (λ_ _ _ _=>(lS rfl (iB (show List.Nodup (["work","row","moment"]:List Str)by decide) 0 (iB (show List.Nodup (["work","row","moment"]:List Str)by decide) 1 lR)))) (λ_ _ _ _=>iV) (λ_ _ _ _=>(gB g (aF b) (eY (e9 0) (eY (e9 1) (eY (e9 2) fG))))))
  (fH (Jz h 5 rfl (fy ["need"] ["plan","moment"] [2,3]) (e9 1) (kK (by decide)) (λ_ _ _ _=>(kY (show List.Nodup (["need","plan","moment"]:List Str)by decide) 0)) (λ_ _ _ _=>(uA (rW (nY (gB j (aF b) (eY (g8 (e9 1) (g8 (e9 0) fM)) (eY (e9 2) fG))))))) (λ_ _ _ _=>(gQ (Jd k (eY (e9 0) fG)))))
  (fO (gO (CD (eY (e9 4) (eY (e9 5) fG))))))))
theorem VU(b:a "sum"=none)(g:a "zip"=none):Ky P w K a c "price_of" "price_of" (top 10) ["works","plan"] 1 (spT K 2 qT):=λF=>da (N:=["works","plan"]) F hV (iL hW) λh i=>
 (fO (gO (Cr b rfl (eY (gQ (Gm g rfl (fy ["work","row"] [] []) (e9 0) (e9 1) (oP (by decide)) (λ_ _ _ _=>(lS rfl (iB (show List.Nodup (["work","row"]:List Str)by decide) 0 (iB (show List.Nodup (["work","row"]:List Str)by decide) 1 lR)))) (λ_ _ _ _=>iV) (λ_ _ _ _=>(lL (g8 (e9 0) fM) (mS (g8 (e9 0) fM) (g8 (e9 1) fM)))))) fG))))
theorem TQ(b:jB P w K a c 1 "price_of" 2 qT)(h:jB P w K a c 3 "waits" 2 pE)(j:a "zip"=none):Ky P w K a c "spent" "spent" (top 14) ["works","plan","moment"] 4 (spT K 3 pG):=λF=>da (N:=["works","plan","moment","met"]) F hV (iL hW) λi g=>
 (fH (Lh i 3 j rfl (fy ["work","row"] ["moment"] [2]) (e9 0) (e9 1) (oP (by decide)) (λ_ _ _ _=>(lS rfl (iB (show List.Nodup (["work","row","moment"]:List Str)by decide) 0 (iB (show List.Nodup (["work","row","moment"]:List Str)by decide) 1 lR)))) (λ_ _ _ _=>(uA (rW (nY (gB h (aF g) (eY (e9 1) (eY (e9 2) fG))))))) (λ_ _ _ _=>(gQ (iJ (eY (e9 0) (eY (e9 1) fG))))))
  (fO (gO (gB b (aF g) (eY (gQ (lM rfl (fy ["work","row"] [] []) (e9 3) (oP (by decide)) (λ_ _ _ _=>(lS rfl (iB (show List.Nodup (["work","row"]:List Str)by decide) 0 (iB (show List.Nodup (["work","row"]:List Str)by decide) 1 lR)))) (λ_ _ _ _=>iV) (λ_ _ _ _=>(e9 0)))) (eY (gQ (lM rfl (fy ["work","row"] [] []) (e9 3) (oP (by decide)) (λ_ _ _ _=>(lS rfl (iB (show List.Nodup (["work","row"]:List Str)by decide) 0 (iB (show List.Nodup (["work","row"]:List Str)by decide) 1 lR)))) (λ_ _ _ _=>iV) (λ_ _ _ _=>(e9 1)))) fG))))))
theorem Vx(g:a "range"=none):Ky P w K a c "through" "through" (top 47) ["many","rows"] 1 (spT K 2 oN):=λF=>da (N:=["many","rows","amounts","row","work"]) F hV (iL hW) λb h=>
 (fH (sU b 2 g rfl (fy ["work"] [] []) (e9 0) (kK (by decide)) (λ_ _ _ _=>(kY (show List.Nodup (["work"]:List Str)by decide) 0)) (λ_ _ _ _=>iV) (λ_ _ _ _=>fM))
  (fH (mZ rfl (e9 1) (kY b 3) (fO (mZ rfl (gQ (Gg (e9 3) (FU fM) GX)) (kY b 4) (fO (Sq (e9 2) (e9 4) (g8 (e9 3) fM))))))
  (fO (gO (e9 2)))))
theorem W5:Ky P w K a c "work_worth" "work_worth" (top 49) ["work","amount"] 1 (spT K 2 m6):=λF=>da (N:=["work","amount"]) F hV (iL hW) λb g=>
 (fH (lC (Nh (e9 1) (g8 (e9 0) fM)) (fO (gO (lL (e9 1) (g8 (e9 0) fM)))) i0)
  (fO (gO (iD (lL (g8 (e9 0) fM) (mS (g8 (e9 0) fM) (g8 (e9 0) fM))) (lL (e9 1) (g8 (e9 0) fM))))))
theorem S6(g:jB P w K a c 1 "through" 2 oN)(b:jB P w K a c 1 "work_worth" 2 m6)(j:a "sum"=none)(l:a "len"=none)(k:a "zip"=none):Ky P w K a c "worth" "worth" (top 48) ["works","rows","end"] 2 (spT K 3 yF):=λF=>da (N:=["works","rows","end","amounts","gained"]) F hV (iL hW) λh i=>
 (fH (gA h 3 (gB g (aF i) (eY (mG l (eY (e9 0) fG)) (eY (e9 1) fG))))
  (fH (gA h 4 (Cr j rfl (eY (gQ (Gm k rfl (fy ["work","amount"] [] []) (e9 0) (e9 3) (oP (by decide)) (λ_ _ _ _=>(lS rfl (iB (show List.Nodup (["work","amount"]:List Str)by decide) 0 (iB (show List.Nodup (["work","amount"]:List Str)by decide) 1 lR)))) (λ_ _ _ _=>iV) (λ_ _ _ _=>(gB b (aF i) (eY (e9 0) (eY (e9 1) fG)))))) fG)))
  (fO (gO (mS (e9 4) (lL (e9 2) (Cr j rfl (eY (gQ (lM rfl (fy ["row"] [] []) (e9 1) (kK (by decide)) (λ_ _ _ _=>(kY (show List.Nodup (["row"]:List Str)by decide) 0)) (λ_ _ _ _=>iV) (λ_ _ _ _=>(g8 (e9 0) fM)))) fG))))))))
theorem xG(b:a "zip"=none):Ky P w K a c "done_moments" "done_moments" (top 21) ["begins","hours"] 1 (spT K 2 lQ):=λF=>da (N:=["begins","hours"]) F hV (iL hW) λg h=>
 (fO (gO (gQ (Gm b rfl (fy ["begin","took"] [] []) (e9 0) (e9 1) (oP (by decide)) (λ_ _ _ _=>(lS rfl (iB (show List.Nodup (["begin","took"]:List Str)by decide) 0 (iB (show List.Nodup (["begin","took"]:List Str)by decide) 1 lR)))) (λ_ _ _ _=>iV) (λ_ _ _ _=>(iD (e9 0) (e9 1)))))))
theorem Wj(i:jB P w K a c 3 "order_of" 2 lW)(j:jB P w K a c 2 "needed_works" 2 iS)(h:a "len"=none)(k:a "max"=none):Ky P w K a c "earliest" "earliest" (top 19) ["hours","needs"] 4 (spT K 2 nG):=λF=>da (N:=["hours","needs","order","needed","begins","work"]) F hV (iL hW) λb g=>
 (fH (gA b 2 (gB i (aF g) (eY (mG h (eY (e9 0) fG)) (eY (e9 1) fG))))
  (fH (gA b 3 (gB j (aF g) (eY (mG h (eY (e9 0) fG)) (eY (e9 1) fG))))
  (fH (gA b 4 (lF (lM rfl (fy ["work"] [] []) (e9 2) (kK (by decide)) (λ_ _ _ _=>(kY (show List.Nodup (["work"]:List Str)by decide) 0)) (λ_ _ _ _=>iV) (λ_ _ _ _=>fM))))
  (fH (mZ rfl (e9 2) (kY b 5) (fO (sY (Jm k rfl (gQ (lM rfl (fy ["first"] ["begins","hours"] [4,0]) (g8 (e9 3) (e9 5)) (kK (by decide)) (λ_ _ _ _=>(kY (show List.Nodup (["first","begins","hours"]:List Str)by decide) 0)) (λ_ _ _ _=>iV) (λ_ _ _ _=>(iD (g8 (e9 1) (e9 0)) (g8 (e9 2) (e9 0)))))) fM) (e9 4) (e9 5))))
  (fO (gO (e9 4)))))))
theorem U0(g:jB P w K a c 1 "done_moments" 2 lQ)(b:jB P w K a c 4 "earliest" 2 nG)(i:a "max"=none):Ky P w K a c "length" "length" (top 20) ["hours","needs"] 5 (spT K 2 mE):=λF=>da (N:=["hours","needs"]) F hV (iL hW) λj h=>
 (fO (gO (Jm i rfl (gB g (aF h) (eY (gB b (aF h) (eY (e9 0) (eY (e9 1) fG))) (eY (e9 0) fG))) fM)))
theorem z9:Ky P w K a c "least_hours" "least_hours" (top 43) ["works"] 1 (spT K 1 mF):=λF=>da (N:=["works"]) F hV (iL hW) λb g=>
 (fO (gO (gQ (lM rfl (fy ["work"] [] []) (e9 0) (kK (by decide)) (λ_ _ _ _=>(kY (show List.Nodup (["work"]:List Str)by decide) 0)) (λ_ _ _ _=>iV) (λ_ _ _ _=>(g8 (e9 0) fM))))))
theorem WE(g:jB P w K a c 5 "length" 2 mE)(b:jB P w K a c 1 "least_hours" 1 mF):Ky P w K a c "least_end" "least_end" (top 40) ["works","needs"] 6 (spT K 2 i8):=λF=>da (N:=["works","needs"]) F hV (iL hW) λi h=>
 (fO (gO (gB g (aF h) (eY (gB b (aF h) (eY (e9 0) fG)) (eY (e9 1) fG)))))
theorem W1:Ky P w K a c "steps_from" "steps_from" (top 36) ["place","flows"] 1 (spS K 2 mV):=λF=>da (N:=["place","flows"]) F kU lU λg b=>
 (fO (gO (gQ (RX rfl (fy ["step"] ["place","flows"] [0,1]) (e9 1) (kK (by decide)) (λ_ _ _ _=>(kY (show List.Nodup (["step","place","flows"]:List Str)by decide) 0)) (λ_ _ _ _=>(uA (tr (Dt (te (cq b) (g8 (e9 0) fM) (e9 1)) (DS (yq (DL (cq b) (e9 2) (e9 0)) fM)))))) (λ_ _ _ _=>(e9 0))))))
theorem vR(g:vZ P w K a c 1 "steps_from" 2 mV)(i:∃t,a "SOURCE"=some (.int 0 t)):Ky P w K a c "flowing_route" "flowing_route" (top 35) ["flows"] 2 (spS K 1 lK):=λF=>da (N:=["flows","route","steps"]) F kU lU λb h=>
 (fH (gA b 1 (lF (iJ fG)))
  (fH (gA b 2 (l7 g (aF h) (eY (o7 i) (eY (e9 0) fG))))
  (fH (qC 40 (nY (e9 2)) (fH (qN (e9 1) (eY (g8 (e9 2) fM) fG))
  (fO (gA b 2 (l7 g (aF h) (eY (g8 (g8 (e9 2) fM) fM) (eY (e9 0) fG)))))))
  (fO (gO (e9 1))))))
theorem Vq:Ky P w K a c "work_at" "work_at" (top 29) ["place"] 1 (spT K 1 sG):=λF=>da (N:=["place"]) F hV (iL hW) λb g=>
 (fO (gO (mS (lO (e9 0) fM) fM)))
theorem VX(b:jB P w K a c 1 "work_at" 1 sG):Ky P w K a c "works_on" "works_on" (top 38) ["route"] 2 (spS K 1 qG):=λF=>da (N:=["route"]) F kU lU λh g=>
 (fO (gO (gQ (lM rfl (fy ["tail","head"] [] []) (gQ (Ox (e9 0))) (oP (by decide)) (λ_ _ _ _=>(lS rfl (iB (show List.Nodup (["tail","head"]:List Str)by decide) 0 (iB (show List.Nodup (["tail","head"]:List Str)by decide) 1 lR)))) (λ_ _ _ _=>iV) (λ_ _ _ _=>(gB b (aF g) (eY (e9 0) fG)))))))
theorem Wu(h:a "min"=none):Ky P w K a c "take_out" "take_out" (top 37) ["flows","route"] 1 (spS K 2 qR):=λF=>da (N:=["flows","route","amount","step"]) F kU lU λb g=>
 (fH (gA b 2 (Jo h rfl (eY (gQ (lM rfl (fy ["step"] ["flows"] [0]) (e9 1) (kK (by decide)) (λ_ _ _ _=>(kY (show List.Nodup (["step","flows"]:List Str)by decide) 0)) (λ_ _ _ _=>iV) (λ_ _ _ _=>(DL (cq g) (e9 1) (e9 0))))) fG)))
  (fH (mZ rfl (e9 1) (kY b 3) (fO (Vs (cq g) (e9 0) (e9 3) (e9 2))))
  (fO (gO (e9 2)))))
theorem WZ(j:vZ P w K a c 2 "flowing_route" 1 lK)(i:vZ P w K a c 2 "works_on" 1 qG)(h:vZ P w K a c 1 "take_out" 2 qR)(k:j5 K "Net" "pipes")(l:j5 K "Pipe" "tail")(o:j5 K "Pipe" "head")(m:j5 K "Pipe" "room")(n:j5 K "Pipe" "back"):Ky P w K a c "stream" "Net.stream" (inClass (top 26) 8) ["self"] 3 (spS K 1 oG):=λF=>da (N:=["self","flows","pipe","step","rows","route"]) F kU lU λb g=>
 (fH (gA b 1 Rb)
  (fH (mZ rfl (lN k (e9 0)) (kY b 2) (fH (gA b 3 (CD (eY (lN l (e9 2)) (eY (lN o (e9 2)) fG))))
  (fO (JN (cq g) (e9 1) (e9 3) (iD (Sl (cq g) (e9 1) (e9 3) fM) (lN m (lN n (e9 2))))))))
  (fH (gA b 4 (lF (iJ fG)))
  (fH (gA b 5 (l7 j (aF g) (eY (e9 1) fG)))
  (fH (qC (10^200) (nY (e9 5)) (fH (qN (e9 4) (eY (lF (Cp (gQ (iJ (eY (l7 h (aF g) (eY (e9 1) (eY (e9 5) fG))) fG))) (l7 i (aF g) (eY (e9 5) fG)))) fG))
  (fO (gA b 5 (l7 j (aF g) (eY (e9 1) fG))))))
  (fO (gO (e9 4))))))))
theorem Wo(g:j5 K "Pipe" "tail")(j:j5 K "Pipe" "head")(b:j5 K "Pipe" "hours")(h:j5 K "Pipe" "room")(i:j5 K "Pipe" "back"):Ky P w K a c "__init__" "Pipe.__init__" (inClass (top 25) 0) ["self","tail","head","hours","room"] 1 (spS K 5 nL):=λF=>da (N:=["self","tail","head","hours","room"]) F kU lU λk l=>
 (fH (qI g (e9 0) (e9 1))
  (fH (qI j (e9 0) (e9 2))
  (fH (qI b (e9 0) (e9 3))
  (fH (qI h (e9 0) (e9 4))
  (fO (qI i (e9 0) DF))))))
theorem VQ(b:Cf P w K a c 1 "Pipe" 5 nL [] [])(i:j5 K "Pipe" "back")(j:j5 K "Net" "pipes"):Ky P w K a c "lay" "Net.lay" (inClass (top 26) 1) ["self","tail","head","hours","room"] 3 (spS K 5 kR):=λF=>da (N:=["self","tail","head","hours","room","pipe","back"]) F kU lU λg h=>
 (fH (gA g 5 (F3 b (aF h) (eY (e9 1) (eY (e9 2) (eY (e9 3) (eY (e9 4) fG))))))
  (fH (gA g 6 (F3 b (aF h) (eY (e9 2) (eY (e9 1) (eY (Om (e9 3)) (eY fM fG))))))
  (fH (qI i (e9 5) (e9 6))
  (fH (qI i (e9 6) (e9 5))
  (fO (qN (lN j (e9 0)) (eY (e9 5) fG)))))))
theorem zA:Ky P w K a c "begin_place" "begin_place" (top 27) ["work"] 1 (spT K 1 jA):=λF=>da (N:=["work"]) F hV (iL hW) λb g=>
 (fO (gO (iD (lL fM (e9 0)) fM)))
theorem W0:Ky P w K a c "done_place" "done_place" (top 28) ["work"] 1 (spT K 1 jO):=λF=>da (N:=["work"]) F hV (iL hW) λb g=>
 (fO (gO (iD (lL fM (e9 0)) fM)))
theorem VS{s:Value}(h:tN P w K a c 3 "Net" "lay" 5 kR)(o:jB P w K a c 2 "needed_works" 2 iS)(i:jB P w K a c 1 "begin_place" 1 jA)(j:jB P w K a c 1 "done_place" 1 jO)(p:j5 K "Net" "pipes")(m:j5 K "Net" "places")(k:a "enumerate"=none)(l:a "len"=none)(r:a "sum"=none)(n:∃t,a "SOURCE"=some (.int 0 t))(q:∃t,a "SINK"=some (.int 1 t))(F:B7 K "__init__" "Net.__init__" (inClass (top 26) 0) f d s):oW P w K a c kb 4 f d ["self","works","needs","bonus"] (spS K 4 p8):=MS (N:=["self","works","needs","bonus","plenty","number","work","second","firsts","first"]) F kU lU λg b=>
 (fH (qI p (e9 0) (lF (iJ fG)))
  (fH (qI m (e9 0) (iD (lL fM (mG l (eY (e9 1) fG))) fM))
  (fH (gA g 4 (iD (iD (Cr r rfl (eY (gQ (lM rfl (fy ["work"] [] []) (e9 1) (kK (by decide)) (λ_ _ _ _=>(kY (show List.Nodup (["work"]:List Str)by decide) 0)) (λ_ _ _ _=>iV) (λ_ _ _ _=>(g8 (e9 0) fM)))) fG)) (e9 3)) fM))
  (fH (Kk k rfl (e9 1) (lS rfl (iB g 5 (iB g 6 lR))) (fH (oH (uy h (aF b) (e9 0) (eY (o7 n) (eY (gB i (aF b) (eY (e9 5) fG)) (eY fM (eY (e9 4) fG))))))
  (fH (oH (uy h (aF b) (e9 0) (eY (gB i (aF b) (eY (e9 5) fG)) (eY (gB j (aF b) (eY (e9 5) fG)) (eY (g8 (e9 6) fM) (eY (g8 (e9 6) fM) fG))))))
  (fH (oH (uy h (aF b) (e9 0) (eY (gB i (aF b) (eY (e9 5) fG)) (eY (gB j (aF b) (eY (e9 5) fG)) (eY (g8 (e9 6) fM) (eY (e9 4) fG))))))
  (fO (oH (uy h (aF b) (e9 0) (eY (gB j (aF b) (eY (e9 5) fG)) (eY (o7 q) (eY fM (eY (e9 4) fG)))))))))))
  (fO (Kk k rfl (gB o (aF b) (eY (mG l (eY (e9 1) fG)) (eY (e9 2) fG))) (lS rfl (iB g 7 (iB g 8 lR))) (fO (mZ rfl (e9 8) (kY g 9) (fO (oH (uy h (aF b) (e9 0) (eY (gB j (aF b) (eY (e9 9) fG)) (eY (gB i (aF b) (eY (e9 7) fG)) (eY fM (eY (e9 4) fG)))))))))))))))
theorem uN(b:j5 K "Net" "pipes")(i:j5 K "Pipe" "back")(h:j5 K "Pipe" "room"):Ky P w K a c "open_pipes" "Net.open_pipes" (inClass (top 26) 6) ["self"] 1 (spS K 1 kG):=λF=>da (N:=["self","both"]) F kU lU λg j=>
 (fH (gA g 1 (gQ (Cp (lN b (e9 0)) (gQ (lM rfl (fy ["pipe"] [] []) (lN b (e9 0)) (kK (by decide)) (λ_ _ _ _=>(kY (show List.Nodup (["pipe"]:List Str)by decide) 0)) (λ_ _ _ _=>iV) (λ_ _ _ _=>(lN i (e9 0))))))))
  (fO (gO (gQ (lM rfl (fy ["pipe"] [] []) (e9 1) (kK (by decide)) (λ_ _ _ _=>(kY (show List.Nodup (["pipe"]:List Str)by decide) 0)) (λ_ _ _ _=>(uA (yq (lN h (e9 0)) fM))) (λ_ _ _ _=>(e9 0)))))))
theorem vP(h:j5 K "Pipe" "hours")(i:j5 K "Pipe" "tail")(g:j5 K "Pipe" "head"):Ky P w K a c "raise_moments" "raise_moments" (top 30) ["moments","pipes"] 1 (spS K 2 mO):=λF=>da (N:=["moments","pipes","raised","pipe","reached"]) F kU lU λb j=>
 (fH (gA b 2 uo)
  (fH (mZ rfl (e9 1) (kY b 3) (fH (gA b 4 (iD (g8 (e9 0) (lN i (e9 3))) (lN h (e9 3))))
  (fO (lC (yq (e9 4) (g8 (e9 0) (lN g (e9 3)))) (fH (sY (e9 4) (e9 0) (lN g (e9 3)))
  (fO (gA b 2 uo))) i0))))
  (fO (gO (e9 2)))))
theorem yW(j:tN P w K a c 1 "Net" "open_pipes" 1 kG)(b:vZ P w K a c 1 "raise_moments" 2 mO)(i:j5 K "Net" "places")(l:a "range"=none)(k:∃t,a "SINK"=some (.int 1 t)):Ky P w K a c "moments" "Net.moments" (inClass (top 26) 4) ["self","end"] 2 (spS K 2 jN):=λF=>da (N:=["self","end","found","pipes"]) F kU lU λg h=>
 (fH (sU g 2 l rfl (fy ["place"] [] []) (lN i (e9 0)) (kK (by decide)) (λ_ _ _ _=>(kY (show List.Nodup (["place"]:List Str)by decide) 0)) (λ_ _ _ _=>iV) (λ_ _ _ _=>fM))
  (fH (sY (e9 1) (e9 2) (o7 k))
  (fH (gA g 3 (Fh j (aF h) (e9 0)))
  (fH (qC (10^200) (nY (l7 b (aF h) (eY (e9 2) (eY (e9 3) fG)))) (fO Sz))
  (fO (gO (e9 2)))))))
theorem yX(h:j5 K "Pipe" "tail")(i:j5 K "Pipe" "head"):Ky P w K a c "next_routes" "next_routes" (top 32) ["routes","pipes"] 1 (spS K 2 nP):=λF=>da (N:=["routes","pipes","fresh","pipe"]) F kU lU λg b=>
 (fH (gA g 2 Rl)
  (fH (mZ rfl (e9 1) (kY g 3) (fO (lC (tr (Dt (N7 (cq b) (lN h (e9 3)) (e9 0)) (DS (Jn (cq b) (lN i (e9 3)) (e9 0))))) (fO (JN (cq b) (e9 2) (lN i (e9 3)) (gQ (Cp (DL (cq b) (e9 0) (lN h (e9 3))) (gQ (iJ (eY (e9 3) fG))))))) i0)))
  (fO (gO (e9 2)))))
theorem zB(g:vZ P w K a c 1 "next_routes" 2 nP)(j:j5 K "Pipe" "hours")(m:j5 K "Pipe" "head")(l:j5 K "Pipe" "tail")(k:∃t,a "SOURCE"=some (.int 0 t))(i:∃t,a "SINK"=some (.int 1 t)):Ky P w K a c "tight_route" "tight_route" (top 31) ["pipes","moments"] 2 (spS K 2 nS):=λF=>da (N:=["pipes","moments","tight","routes"]) F kU lU λh b=>
 (fH (Jz h 2 rfl (fy ["pipe"] ["moments"] [1]) (e9 0) (kK (by decide)) (λ_ _ _ _=>(kY (show List.Nodup (["pipe","moments"]:List Str)by decide) 0)) (λ_ _ _ _=>(uA (te (cq b) (iD (g8 (e9 1) (lN l (e9 0))) (lN j (e9 0))) (g8 (e9 1) (lN m (e9 0)))))) (λ_ _ _ _=>(e9 0)))
  (fH (gA h 3 (QZ (o7 k) (gQ (iJ fG))))
  (fH (qC 40 (Jn (cq b) (o7 i) (e9 3)) (fO (oH (P7 (e9 3) (l7 g (aF b) (eY (e9 3) (eY (e9 2) fG)))))))
  (fO (gO (DL (cq b) (e9 3) (o7 i)))))))
theorem Qn(b:j5 K "Pipe" "room")(h:j5 K "Pipe" "back"):Ky P w K a c "pour" "pour" (top 34) ["route","amount"] 1 (spS K 2 DY):=λF=>da (N:=["route","amount","pipe"]) F kU lU λg i=>
 (fO (mZ rfl (e9 0) (kY g 2) (fH (UO b (e9 2) (e9 1))
  (fO (UW b (lN h (e9 2)) (e9 1))))))
theorem V0(b:j5 K "Pipe" "room")(g:a "min"=none):Ky P w K a c "room_on" "room_on" (top 33) ["route"] 1 (spS K 1 sX):=λF=>da (N:=["route"]) F kU lU λh i=>
 (fO (gO (Jo g rfl (eY (gQ (lM rfl (fy ["pipe"] [] []) (e9 0) (kK (by decide)) (λ_ _ _ _=>(kY (show List.Nodup (["pipe"]:List Str)by decide) 0)) (λ_ _ _ _=>iV) (λ_ _ _ _=>(lN b (e9 0))))) fG))))
theorem V7(k:tN P w K a c 2 "Net" "moments" 2 jN)(j:vZ P w K a c 2 "tight_route" 2 nS)(i:vZ P w K a c 1 "pour" 2 DY)(l:tN P w K a c 1 "Net" "open_pipes" 1 kG)(h:vZ P w K a c 1 "room_on" 1 sX)(m:∃t,a "SINK"=some (.int 1 t)):Ky P w K a c "fill" "Net.fill" (inClass (top 26) 2) ["self","end"] 3 (spS K 2 qO):=λF=>da (N:=["self","end","moments","route"]) F kU lU λg b=>
 (fH (gA g 2 (uy k (aF b) (e9 0) (eY fM fG)))
  (fO (qC (10^200) (yq (g8 (e9 2) (o7 m)) (e9 1)) (fH (gA g 3 (l7 j (aF b) (eY (Fh l (aF b) (e9 0)) (eY (e9 2) fG))))
  (fH (oH (l7 i (aF b) (eY (e9 3) (eY (l7 h (aF b) (eY (e9 3) fG)) fG))))
  (fO (gA g 2 (uy k (aF b) (e9 0) (eY fM fG)))))))))
theorem WY(g:Cf P w K a c 4 "Net" 4 p8 [.int 0] [.int 0])(b:tN P w K a c 3 "Net" "fill" 2 qO):Ky P w K a c "filled_net" "filled_net" (top 44) ["works","needs","end"] 6 (spS K 3 lX):=λF=>da (N:=["works","needs","end","net"]) F kU lU λi h=>
 (fH (gA i 3 (F3 g (aF h) (eY (e9 0) (eY (e9 1) fG))))
  (fH (oH (uy b (aF h) (e9 3) (eY (e9 2) fG)))
  (fO (gO (e9 3)))))
theorem WH(g:tN P w K a c 3 "Net" "stream" 1 oG)(i:jB P w K a c 6 "least_end" 2 i8)(h:vZ P w K a c 6 "filled_net" 3 lX):Ky P w K a c "stream_at" "stream_at" (top 42) ["works","needs","end"] 7 (yo K 3 lP):=λF=>da (N:=["works","needs","end"]) F Le (JK K8) λj b=>
 (fH (lC (As (e9 2) (gB i (aF b) (eY (e9 0) (eY (e9 1) fG)))) (fO (gO DF)) i0)
  (fO (gO (Fh g (aF b) (l7 h (aF b) (eY (e9 0) (eY (e9 1) (eY (e9 2) fG))))))))
theorem V5(g:jB P w K a c 2 "worth" 3 yF)(i:jB P w K a c 6 "least_end" 2 i8)(h:DD P w K a c 7 "stream_at" 3 lP):Ky P w K a c "price_at" "price_at" (top 51) ["works","needs","end"] 8 (spT K 3 oS):=λF=>da (N:=["works","needs","end"]) F hV (iL hW) λj b=>
 (fH (lC (As (e9 2) (gB i (aF b) (eY (e9 0) (eY (e9 1) fG)))) (fO (gO DF)) i0)
  (fO (gO (gB g (aF b) (eY (e9 0) (eY (Kl h (aF b) (eY (e9 0) (eY (e9 1) (eY (e9 2) fG)))) (eY (e9 2) fG)))))))
theorem VZ(i:jB P w K a c 5 "rest_of" 4 l4)(j:jB P w K a c 4 "spent" 3 pG)(h:jB P w K a c 8 "price_at" 3 oS):Ky P w K a c "_law_total" "_law_total" (top 69) ["_law_works","_law_needs","_law_rows","_law_end","_law_moment_here"] 9 (spT K 5 pY):=λF=>da (N:=["_law_works","_law_needs","_law_rows","_law_end","_law_moment_here","_law_some","_law_pairs"]) F hV (iL hW) λg b=>
 (fH (v7 (gB i (aF b) (eY (e9 0) (eY (e9 1) (eY (e9 2) (eY (e9 4) fG))))) (lS rfl (iB g 5 (iB g 6 lR))))
  (fO (gO (iD (gB j (aF b) (eY (e9 0) (eY (e9 2) (eY (e9 4) fG)))) (gB h (aF b) (eY (e9 5) (eY (e9 6) (eY (mS (e9 3) (e9 4)) fG))))))))
theorem VD(h:a "range"=none)(g:a "max"=none)(i:a "len"=none):Ky P w K a c "_law_length" "_law_length" (top 61) ["_law_hours","_law_needs"] 1 (spT K 2 lZ):=λF=>da (N:=["_law_hours","_law_needs","_law_begins","_law_k","_law_a","_law_b"]) F hV (iL hW) λb j=>
 (fH (gA b 2 (lF (lM rfl (fy ["_law_one"] [] []) (e9 0) (kK (by decide)) (λ_ _ _ _=>(kY (show List.Nodup (["_law_one"]:List Str)by decide) 0)) (λ_ _ _ _=>iV) (λ_ _ _ _=>fM))))
  (fH (m9 h rfl (mG i (eY (e9 0) fG)) (kY b 3) (fO (mZ rfl (e9 1) (lS rfl (iB b 4 (iB b 5 lR))) (fO (sY (vS g rfl (eY (g8 (e9 2) (e9 5)) (eY (iD (g8 (e9 2) (e9 4)) (g8 (e9 0) (e9 4))) fG))) (e9 2) (e9 5))))))
  (fO (gO (IT g rfl (eY (gQ (Cp (gQ (Lz h rfl (fy ["_law_k"] ["_law_begins","_law_hours"] [2,0]) (mG i (eY (e9 0) fG)) (kK (by decide)) (λ_ _ _ _=>(kY (show List.Nodup (["_law_k","_law_begins","_law_hours"]:List Str)by decide) 0)) (λ_ _ _ _=>iV) (λ_ _ _ _=>(iD (g8 (e9 1) (e9 0)) (g8 (e9 2) (e9 0)))))) (gQ (iJ (eY fM fG))))) fG))))))
theorem TK(g:jB P w K a c 1 "_law_length" 2 lZ)(i:a "int"=none):Ky P w K a c "_law_ends" "_law_ends" (top 62) ["_law_works","_law_needs"] 2 (spT K 2 sL):=λF=>da (N:=["_law_works","_law_needs","_law_least"]) F hV (iL hW) λh b=>
 (fH (gA h 2 (gB g (aF b) (eY (gQ (lM rfl (fy ["_law_work_here"] [] []) (e9 0) (kK (by decide)) (λ_ _ _ _=>(kY (show List.Nodup (["_law_work_here"]:List Str)by decide) 0)) (λ_ _ _ _=>iV) (λ_ _ _ _=>(g8 (e9 0) fM)))) (eY (e9 1) fG))))
  (fO (gO (CD (eY (e9 2) (eY (gB g (aF b) (eY (gQ (lM rfl (fy ["_law_work_here"] [] []) (e9 0) (kK (by decide)) (λ_ _ _ _=>(kY (show List.Nodup (["_law_work_here"]:List Str)by decide) 0)) (λ_ _ _ _=>iV) (λ_ _ _ _=>(g8 (e9 0) (pN i (eY (Dh (cq b) (g8 (e9 0) fM) fM) fG)))))) (eY (e9 1) fG))) fG))))))
theorem We(h:jB P w K a c 1 "begin_place" 1 jA)(i:jB P w K a c 1 "done_place" 1 jO)(j:a "min"=none):Ky P w K a c "plan_row" "plan_row" (top 45) ["number","work","moments"] 2 (zr K 3 qL):=λF=>da (N:=["number","work","moments","begin"]) F SM (O4 Sw) λg b=>
 (fH (gA g 3 (g8 (e9 2) (gB h (aF b) (eY (e9 0) fG))))
  (fO (gO (lF (iJ (eY (e9 3) (eY (rZ j rfl (eY (g8 (e9 1) fM) (eY (mS (g8 (e9 2) (gB i (aF b) (eY (e9 0) fG))) (e9 3)) fG))) fG)))))))
theorem Vv(h:tN P w K a c 2 "Net" "moments" 2 jN)(l:jB P w K a c 6 "least_end" 2 i8)(g:ER P w K a c 2 "plan_row" 3 qL)(k:vZ P w K a c 6 "filled_net" 3 lX)(j:a "enumerate"=none):Ky P w K a c "plan_at" "plan_at" (top 41) ["works","needs","end"] 7 (yo K 3 nH):=λF=>da (N:=["works","needs","end","moments"]) F Le (JK K8) λi b=>
 (fH (lC (As (e9 2) (gB l (aF b) (eY (e9 0) (eY (e9 1) fG)))) (fO (gO DF)) i0)
  (fH (gA i 3 (uy h (aF b) (l7 k (aF b) (eY (e9 0) (eY (e9 1) (eY (e9 2) fG)))) (eY (e9 2) fG)))
  (fO (gO (lF (QP j rfl (fy ["number","work"] ["moments"] [3]) (e9 0) (oP (by decide)) (λ_ _ _ _=>(lS rfl (iB (show List.Nodup (["number","work","moments"]:List Str)by decide) 0 (iB (show List.Nodup (["number","work","moments"]:List Str)by decide) 1 lR)))) (λ_ _ _ _=>iV) (λ_ _ _ _=>(lF (OQ g (aF b) (eY (e9 0) (eY (e9 1) (eY (e9 2) fG))))))))))))
theorem Wn(h:jB P w K a c 1 "_law_mixed" 2 jE)(k:a "len"=none)(i:a "min"=none)(j:a "max"=none):Ky P w K a c "_law_moment" "_law_moment" (top 66) ["_law_rows","_law_end","_law_cell"] 2 (spT K 3 mP):=λF=>da (N:=["_law_rows","_law_end","_law_cell","_law_mixed_here","_law_begin","_law_hours"]) F hV (iL hW) λg b=>
 (fH (gA g 3 (gB h (aF b) (eY (e9 2) (eY fM fG))))
  (fH (lC (tr (ua (te (cq b) (e9 0) (gQ (iJ fG))) (Bf (te (cq b) (i6 (e9 3) fM) fM)))) (fO (gO (i6 (lL (e9 3) (A4 (gB h (aF b) (eY (e9 2) (eY fM fG))) fM)) (iD (e9 1) fM)))) i0)
  (fH (v7 (g8 (e9 0) (i6 (lO (e9 3) fM) (mG k (eY (e9 0) fG)))) (lS rfl (iB g 4 (iB g 5 lR))))
  (fO (gO (g8 (gQ (iJ (eY (e9 4) (eY (iD (e9 4) (e9 5)) (eY (rZ i rfl (eY (e9 1) (eY (iD (e9 4) fM) fG))) (eY (vS j rfl (eY fM (eY (mS (iD (e9 4) (e9 5)) fM) fG))) fG)))))) (mS (i6 (e9 3) fM) fM)))))))
theorem U2(g:a "max"=none)(h:a "int"=none):Ky P w K a c "_law_left" "_law_left" (top 67) ["_law_rows","_law_moment_here"] 1 (spT K 2 u3):=λF=>da (N:=["_law_rows","_law_moment_here","_law_found","_law_begin","_law_hours","_law_left_here"]) F hV (iL hW) λb i=>
 (fH (gA b 2 (lF (iJ fG)))
  (fH (mZ rfl (e9 0) (lS rfl (iB b 3 (iB b 4 lR))) (fH (gA b 5 (vS g rfl (eY fM (eY (mS (iD (e9 3) (e9 4)) (vS g rfl (eY (e9 3) (eY (e9 1) fG)))) fG))))
  (fO (qN (e9 2) (eY (gQ (iJ (eY (lL (vS g rfl (eY fM (eY (mS (e9 3) (e9 1)) fG))) (pN h (eY (Nc (yp (e9 5) fM) (Fc (yp (e9 3) (e9 1)))) fG))) (eY (e9 5) fG)))) fG)))))
  (fO (gO (e9 2)))))
theorem VN(h:jB P w K a c 5 "rest_of" 4 l4)(j:jB P w K a c 1 "_law_left" 2 u3)(i:jB P w K a c 4 "spent" 3 pG):Ky P w K a c "_law_twice" "_law_twice" (top 68) ["_law_works","_law_needs","_law_rows","_law_one","_law_other"] 6 (spT K 5 sQ):=λF=>da (N:=["_law_works","_law_needs","_law_rows","_law_one","_law_other","_law_some","_law_pairs","_law_left_here","_law_paid"]) F hV (iL hW) λg b=>
 (fH (v7 (gB h (aF b) (eY (e9 0) (eY (e9 1) (eY (e9 2) (eY (e9 3) fG))))) (lS rfl (iB g 5 (iB g 6 lR))))
  (fH (gA g 7 (gB j (aF b) (eY (e9 2) (eY (e9 3) fG))))
  (fH (gA g 8 (gB i (aF b) (eY (e9 0) (eY (e9 2) (eY (e9 3) fG)))))
  (fH (lC (N1 (cq b) (gB h (aF b) (eY (e9 5) (eY (e9 6) (eY (e9 7) (eY (mS (e9 4) (e9 3)) fG))))) (gB h (aF b) (eY (e9 0) (eY (e9 1) (eY (e9 2) (eY (e9 4) fG)))))) (fO (gO uo)) i0)
  (fO (gO (Dh (cq b) (iD (e9 8) (gB i (aF b) (eY (e9 5) (eY (e9 7) (eY (mS (e9 4) (e9 3)) fG))))) (gB i (aF b) (eY (e9 0) (eY (e9 2) (eY (e9 4) fG)))))))))))
theorem Td(b:a "isinstance"=none)(h:a "int"=none)(g:a "bool"=none):Ky P w K a c "_law_whole" "_law_whole" (top 53) ["_law_found"] 1 (spT K 1 nT):=λF=>da (N:=["_law_found"]) F hV (iL hW) λi j=>
 (fO (gO (Ir (UV b h (e9 0)) (Fc (HL (VA b g (e9 0)))))))
theorem Wz(k:jB P w K a c 1 "_law_whole" 1 nT)(m:a "range"=none)(l:a "all"=none)(g:a "len"=none)(i:a "isinstance"=none)(j:a "list"=none):Ky P w K a c "_law_is_plan" "_law_is_plan" (top 63) ["_law_works","_law_needs","_law_end","_law_plan"] 2 (spT K 4 lV):=λF=>da (N:=["_law_works","_law_needs","_law_end","_law_plan","_law_k","_law_row"]) F hV (iL hW) λh b=>
 (fH (lC (tr (ua (rW (nY (Ms i j (e9 3)))) (Bf (HI (cq b) (mG g (eY (e9 3) fG)) (mG g (eY (e9 0) fG)))))) (fO (gO uo)) i0)
  (fH (m9 m rfl (mG g (eY (e9 0) fG)) (kY h 4) (fH (gA h 5 (g8 (e9 3) (e9 4)))
  (fH (lC (tr (ua (rW (nY (Ms i j (e9 5)))) (ua (HI (cq b) (mG g (eY (e9 5) fG)) fM) (ua (rW (nY (gB k (aF b) (eY (g8 (e9 5) fM) fG)))) (Bf (rW (nY (gB k (aF b) (eY (g8 (e9 5) fM) fG))))))))) (fO (gO uo)) i0)
  (fO (lC (tr (ua (As (g8 (e9 5) fM) fM) (ua (As (g8 (e9 5) fM) (g8 (g8 (e9 0) (e9 4)) fM)) (ua (yq (g8 (e9 5) fM) (g8 (g8 (e9 0) (e9 4)) fM)) (Bf (yq (iD (g8 (e9 5) fM) (g8 (e9 5) fM)) (e9 2))))))) (fO (gO uo)) i0)))))
  (fO (gO (HM l rfl (eY (gQ (lM rfl (fy ["_law_a","_law_b"] ["_law_plan"] [3]) (e9 1) (oP (by decide)) (λ_ _ _ _=>(lS rfl (iB (show List.Nodup (["_law_a","_law_b","_law_plan"]:List Str)by decide) 0 (iB (show List.Nodup (["_law_a","_law_b","_law_plan"]:List Str)by decide) 1 lR)))) (λ_ _ _ _=>iV) (λ_ _ _ _=>(HG (g8 (g8 (e9 2) (e9 1)) fM) (iD (g8 (g8 (e9 2) (e9 0)) fM) (g8 (g8 (e9 2) (e9 0)) fM)))))) fG))))))
theorem VG(b:a "sum"=none)(g:a "range"=none)(h:a "len"=none):Ky P w K a c "_law_price" "_law_price" (top 64) ["_law_works","_law_plan"] 1 (spT K 2 lY):=λF=>da (N:=["_law_works","_law_plan"]) F hV (iL hW) λi j=>
 (fO (gO (Cr b rfl (eY (gQ (Lz g rfl (fy ["_law_k"] ["_law_works","_law_plan"] [0,1]) (mG h (eY (e9 0) fG)) (kK (by decide)) (λ_ _ _ _=>(kY (show List.Nodup (["_law_k","_law_works","_law_plan"]:List Str)by decide) 0)) (λ_ _ _ _=>iV) (λ_ _ _ _=>(lL (g8 (g8 (e9 1) (e9 0)) fM) (mS (g8 (g8 (e9 1) (e9 0)) fM) (g8 (g8 (e9 2) (e9 0)) fM)))))) fG))))
theorem Pc(n:jB P w K a c 3 "_law_lot" 3 Ba)(l:jB P w K a c 1 "_law_cell_at" 2 iW)(o:jB P w K a c 2 "_law_plan_by" 4 nX)(i:jB P w K a c 9 "_law_total" 5 pY)(p:jB P w K a c 2 "_law_ends" 2 sL)(q:DD P w K a c 7 "plan_at" 3 nH)(h:jB P w K a c 2 "_law_moment" 3 mP)(r:jB P w K a c 6 "_law_twice" 5 sQ)(s:jB P w K a c 2 "_law_is_plan" 4 lV)(j:jB P w K a c 1 "_law_price" 2 lY)(t:jB P w K a c 1 "_law_whole" 1 nT)(k:jB P w K a c 1 "_law_mixed" 2 jE)(u:a "max"=none)(m:a "sorted"=none):Ky P w K a c "law" "law" (top 70) ["_law_script"] 10 (spT K 1 Ds):=λF=>da (N:=["_law_script","_law_works","_law_needs","_law_cell","_law_rows","_law_end","_law_both","_law_total_here","_law_least","_law_free","_law_drawn","_law_moment_here"]) F hV (iL hW) λg b=>
 (fH (v7 (gB n (aF b) (eY (e9 0) (eY fM (eY (A4 fM fM) fG)))) (lS rfl (iB g 1 (iB g 2 lR))))
  (fH (gA g 3 (gB l (aF b) (eY (e9 0) (eY fM fG))))
  (fH (gA g 4 (gB o (aF b) (eY (e9 1) (eY (e9 2) (eY (e9 3) (eY (e9 0) fG))))))
  (fH (gA g 5 (IT u rfl (eY (gQ (Cp (gQ (lM rfl (fy ["_law_begin","_law_hours"] [] []) (e9 4) (oP (by decide)) (λ_ _ _ _=>(lS rfl (iB (show List.Nodup (["_law_begin","_law_hours"]:List Str)by decide) 0 (iB (show List.Nodup (["_law_begin","_law_hours"]:List Str)by decide) 1 lR)))) (λ_ _ _ _=>iV) (λ_ _ _ _=>(iD (e9 0) (e9 1))))) (gQ (iJ (eY fM fG))))) fG)))
  (fH (gA g 6 (gQ (S8 m (eY (gQ (iJ (eY (gB h (aF b) (eY (e9 4) (eY (e9 5) (eY (e9 3) fG)))) (eY (gB h (aF b) (eY (e9 4) (eY (e9 5) (eY (iD (e9 3) fM) fG)))) fG)))) fG))))
  (fH (lC (rW (nY (gB r (aF b) (eY (e9 1) (eY (e9 2) (eY (e9 4) (eY (g8 (e9 6) fM) (eY (g8 (e9 6) fM) fG)))))))) (fO (gO uo)) i0)
  (fH (gA g 7 (gB i (aF b) (eY (e9 1) (eY (e9 2) (eY (e9 4) (eY (e9 5) (eY (g8 (e9 6) fM) fG)))))))
  (fH (lC (tr (ua (rW (nY (gB t (aF b) (eY (e9 7) fG)))) (Bf (yq (e9 7) (gB j (aF b) (eY (e9 1) (eY (e9 4) fG))))))) (fO (gO uo)) i0)
  (fH (v7 (gB p (aF b) (eY (e9 1) (eY (e9 2) fG))) (lS rfl (iB g 8 (iB g 9 lR))))
  (fH (gA g 10 (iD (lL (gB k (aF b) (eY (e9 3) (eY fM fG))) (A4 (gB k (aF b) (eY (e9 3) (eY fM fG))) fM)) (gB l (aF b) (eY (e9 0) (eY fM fG)))))
  (fH (gA g 5 (iD (e9 8) (i6 (e9 10) (iD (mS (e9 9) (e9 8)) fM))))
  (fH (gA g 4 (Kl q (aF b) (eY (e9 1) (eY (e9 2) (eY (e9 5) fG)))))
  (fH (lC (rW (nY (gB s (aF b) (eY (e9 1) (eY (e9 2) (eY (e9 5) (eY (e9 4) fG))))))) (fO (gO uo)) i0)
  (fH (gA g 11 (gB h (aF b) (eY (e9 4) (eY (e9 5) (eY (iD (e9 3) fM) fG)))))
  (fO (gO (Dh (cq b) (gB i (aF b) (eY (e9 1) (eY (e9 2) (eY (e9 4) (eY (e9 5) (eY (e9 11) fG)))))) (gB j (aF b) (eY (e9 1) (eY (e9 4) fG))))))))))))))))))))
end
set_option maxHeartbeats 0 in
theorem Qa{l:aTb}{w:World}{K:aL}{h:Heap}{g:Str->Option Value}{fa:Addr}(X:K.In h)(G:h.Ns mainGlobals g)(hfa:g "law"=some (.ref fa))
 {m:Addr}(d:Cm K "Pipe" m)
 {k:Addr}(c:Cm K "Net" k)
 (v60:bW K (.ref k) "pipes"=some none)
 (v61:bW K (.ref m) "tail"=some none)
 (v62:bW K (.ref m) "head"=some none)
 (v63:bW K (.ref m) "room"=some none)
 (v64:bW K (.ref m) "back"=some none)
 (v65:bW K (.ref m) "hours"=some none)
 (v66:bW K (.ref k) "places"=some none)
 (a1:Nm K "_law_mixed" (top 55))
 (a2:Nm K "_law_cell_at" (top 54))
 (a3:Nm K "_law_numbers" (top 57))
 (a4:Nm K "_law_names" (top 56))
 (a5:Nm K "_law_lot_free" (top 59))
 (a6:Nm K "_law_work" (top 58))
 (a7:Nm K "_law_lot" (top 60))
 (a8:Nm K "_law_plan_by" (top 65))
 (a9:Nm K "is_work" (top 6))
 (a10:Nm K "needed_works" (top 7))
 (a11:Nm K "least_ready" (top 8))
 (a12:Nm K "order_of" (top 5))
 (a13:Nm K "done_at" (top 11))
 (a14:Nm K "is_done" (top 16))
 (a15:Nm K "waits" (top 17))
 (a16:Nm K "rest_of_work" (top 15))
 (a17:Nm K "rest_of" (top 13))
 (a18:Nm K "price_of" (top 10))
 (a19:Nm K "spent" (top 14))
 (a20:Nm K "through" (top 47))
 (a21:Nm K "work_worth" (top 49))
 (a22:Nm K "worth" (top 48))
 (a23:Nm K "done_moments" (top 21))
 (a24:Nm K "earliest" (top 19))
 (a25:Nm K "length" (top 20))
 (a26:Nm K "least_hours" (top 43))
 (a27:Nm K "least_end" (top 40))
 (a28:Nm K "steps_from" (top 36))
 (a29:Nm K "flowing_route" (top 35))
 (a30:Nm K "work_at" (top 29))
 (a31:Nm K "works_on" (top 38))
 (a32:Nm K "take_out" (top 37))
 (a33:Mm K k "stream" "Net.stream" (inClass (top 26) 8))
 (a34:Mm K m "__init__" "Pipe.__init__" (inClass (top 25) 0))
 (a35:Mm K k "lay" "Net.lay" (inClass (top 26) 1))
 (a36:Nm K "begin_place" (top 27))
 (a37:Nm K "done_place" (top 28))
 {u:Addr}{xu J:Option Addr}{xm:Array (Option Value)}{xw yf D xp vm F:Value}
 {L:Addr}
 (a38:bW K (.ref k) "__init__"=some (some (.ref u)))(l38:K.lookup u=some ⟨xw,xu,.func (cK "__init__" "Net.__init__" (k9 (inClass (top 26) 0)) (kE (inClass (top 26) 0)) (iM (inClass (top 26) 0)) (.ref L) yf D xp J vm F),xm⟩)(c38:dI K vm "Net.__init__"=true)(k38:cI K (.ref u)=true)
 (n38:aRI K (.ref u)=true)
 {rn:Value}{rm:Option Addr}{xk:Nat}{rj:Array (Option Value)}{rg:Tok}(d38:K.lookup L=some ⟨rn,rm,.seq #[.int 0 rg] xk,rj⟩)
 (a39:Mm K k "open_pipes" "Net.open_pipes" (inClass (top 26) 6))
 (a40:Nm K "raise_moments" (top 30))
 (a41:Mm K k "moments" "Net.moments" (inClass (top 26) 4))
 (a42:Nm K "next_routes" (top 32))
 (a43:Nm K "tight_route" (top 31))
 (a44:Nm K "pour" (top 34))
 (a45:Nm K "room_on" (top 33))
 (a46:Mm K k "fill" "Net.fill" (inClass (top 26) 2))
 (a47:Nm K "filled_net" (top 44))
 (a48:Nm K "stream_at" (top 42))
 (a49:Nm K "price_at" (top 51))
 (a50:Nm K "_law_total" (top 69))
 (a51:Nm K "_law_length" (top 61))
 (a52:Nm K "_law_ends" (top 62))
 (a53:Nm K "plan_row" (top 45))
 (a54:Nm K "plan_at" (top 41))
 (a55:Nm K "_law_moment" (top 66))
 (a56:Nm K "_law_left" (top 67))
 (a57:Nm K "_law_twice" (top 68))
 (a58:Nm K "_law_whole" (top 53))
 (a59:Nm K "_law_is_plan" (top 63))
 (a60:Nm K "_law_price" (top 64))
 {n:Addr}{xr vo:Option Addr}{xl:Array (Option Value)}{xv tj vg sr pj vh:Value}
 (a61:bQ K mainGlobals "law"=some (some (.ref n)))(l61:K.lookup n=some ⟨xv,xr,.func (cK "law" "law" (k9 (top 70)) (kE (top 70)) (iM (top 70)) .none tj vg sr vo pj vh),xl⟩)(c61:dI K pj "law"=true)(k61:cI K (.ref n)=true)
 (z60:bQ K mainGlobals "len"=some none)
 (z61:bQ K mainGlobals "range"=some none)
 (z62:bQ K mainGlobals "min"=some none)
 (z63:bQ K mainGlobals "int"=some none)
 (z64:bQ K mainGlobals "max"=some none)
 (E:bQ K mainGlobals "all"=some none)
 (Z:bQ K mainGlobals "list"=some none)
 (Y:bQ K mainGlobals "zip"=some none)
 (U:bQ K mainGlobals "sum"=some none)
 (S:bQ K mainGlobals "enumerate"=some none)
 (R:bQ K mainGlobals "isinstance"=some none)
 (Q:bQ K mainGlobals "bool"=some none)
 (P:bQ K mainGlobals "sorted"=some none)
 {u60:Tok}(y60:bQ K mainGlobals "SOURCE"=some (some (.int 0 u60)))
 {u61:Tok}(y61:bQ K mainGlobals "SINK"=some (some (.int 1 u61))):
 ∃fd:FuncData,(∀(s:Shared)(v:Value),BindsTo s fd ⟨[v],[]⟩ [("_law_script",v)])/\∀b:Heap,K.In b->b.Ns mainGlobals g->oW l.prog w K g b kb 10 fa fd ["_law_script"] (spT K 1 Ds):=by
 have e:=hfa.symm.trans (aRE X G a61);cases e;have M:j5 K "Net" "pipes":=j5.of c.e c.c v60;have z:j5 K "Pipe" "tail":=j5.of d.e d.c v61;have C:j5 K "Pipe" "head":=j5.of d.e d.c v62;have A:j5 K "Pipe" "room":=j5.of d.e d.c v63;have B:j5 K "Pipe" "back":=j5.of d.e d.c v64;have lp:j5 K "Pipe" "hours":=j5.of d.e d.c v65;have qz:j5 K "Net" "places":=j5.of c.e c.c v66;have f:=b8 X G z60;have i:=b8 X G z61;have q:=b8 X G z62;have p:=b8 X G z63;have o:=b8 X G z64;have qd:=b8 X G E;have jn:=b8 X G Z;have y:=b8 X G Y;have O:=b8 X G U;have mz:=b8 X G S;have lx:=b8 X G R;have yc:=b8 X G Q;have ya:=b8 X G P;have ln:∃t,g "SOURCE"=some (.int 0 t):=⟨_,aRE X G y60⟩;have N:∃t,g "SINK"=some (.int 1 t):=⟨_,aRE X G y61⟩
 refine⟨cK "law" "law" (k9 (top 70)) (kE (top 70)) (iM (top 70)) .none tj vg sr vo pj vh,λs v=>.of_eq rfl,λb _ _=>?_⟩
 have a:= @MZ l.prog w K g b h;have j:= @M0 l.prog w K g b h;have x:= @Es l.prog w K g b;have xI:= @M4 l.prog w K g b h;have r:= @Er l.prog w K g b h;have xN:= @M3 l.prog w K g b h;have H:=a X G a1 T5;have I:=a X G a2 (VF f);have d62:=a X G a3 (VT H I i q f);have d63:=a X G a4 (Vd H i);have d64:=a X G a5 (Wg I i p);have d65:=a X G a6 (Sa p);have oy:=a X G a7 (Qc d62 I d63 d64 d65 i q p f);have ox:=a X G a8 (WM H I i f p o);have xi:=a X G a9 V1;have lg:=a X G a10 (xF xi i);have d68:=a X G a11 (WS i f qd);have qu:=a X G a12 (Wf lg d68 f);have qw:=a X G a13 Wa;have lb:=a X G a14 (VC qw);have qv:=a X G a15 (Tc lb);have d73:=a X G a16 (xK qv lb qw jn);have dw:=a X G a17 (VM qu d73 lb f jn y);have d74:=a X G a18 (VU O y);have dv:=a X G a19 (TQ d74 qv y);have d75:=a X G a20 (Vx i);have d76:=a X G a21 W5;have pi:=a X G a22 (S6 d75 d76 O f y);have d77:=a X G a23 (xG y);have d78:=a X G a24 (Wj qu lg f o);have d79:=a X G a25 (U0 d77 d78 o);have d80:=a X G a26 z9;have cv:=a X G a27 (WE d79 d80);have xh:=j X G a28 W1;have xg:=j X G a29 (vR xh ln);have d82:=a X G a30 Vq;have d84:=j X G a31 (VX d82);have d85:=j X G a32 (Wu q);have d99:=x c a33 (WZ xg d84 d85 M z C A B);have xf:=xI X G d a34 (Wo z C lp A B);have oo:=x c a35 (VQ xf B M);have la:=a X G a36 zA;have kz:=a X G a37 W0;have F38:=QR (st:=(inClass (top 26) 0)) l38 c38;have d97:Cf l.prog w K g b 4 "Net" 4 p8 [.int 0] [.int 0]:=⟨⟨k,u,_,["self","works","needs","bonus"],[.int 0 rg],c.e,aRE X G c.e,⟨c.mi,a38,n38,c.kp⟩,VS oo lg la kz M qz mz f O ln N F38,VR 3 rfl d38 rfl (λus hl=>match us,hl with| [_,_,_],_=>⟨_,rfl,rfl⟩),(.cons ⟨_,rfl⟩ .nil)⟩,λ_ _=>(.cons .int .nil)⟩;have qt:=x c a39 (uN M B A);have d91:=j X G a40 (vP lp z C);have om:=x c a41 (yW qt d91 qz i N);have d92:=j X G a42 (yX z C);have d94:=j X G a43 (zB d92 lp C z ln N);have d95:=j X G a44 (Qn A B);have d96:=j X G a45 (V0 A q);have d98:=x c a46 (V7 om d94 d95 qt d96 N);have ip:=j X G a47 (WY d97 d98);have ph:=r X G a48 (WH d99 cv ip);have pe:=a X G a49 (V5 pi cv ph);have ll:=a X G a50 (VZ dw dv pe);have lm:=a X G a51 (VD i o f);have ow:=a X G a52 (TK lm p);have pd:=xN X G a53 (We la kz q);have ou:=r X G a54 (Vv om cv pd ip mz);have jl:=a X G a55 (Wn H f q o);have oz:=a X G a56 (U2 o p);have ot:=a X G a57 (VN dw oz dv);have gq:=a X G a58 (Td lx p yc);have oq:=a X G a59 (Wz gq i qd f lx jn);have lj:=a X G a60 (VG O i f)
 exact(Pc oy I ox ll ow ou jl ot oq lj gq H o ya) (FX l61 c61 k61)
end ij
open PySem PySem.W PyProof.Rows
local macro_rules| `(tactic|walk_at "kN")=>`(tactic| (refine' TL.Nm.of ?a ?l ?c ?k;(case a=>k_is);(case l=>k_is);(case c=>k_is);(case k=>k_is)))
local macro_rules| `(tactic|walk_at "kM")=>`(tactic| (refine' TL.Mm.of ?a ?l ?c ?k ?n;(case a=>k_is);(case l=>k_is);(case c=>k_is);(case k=>k_is);(case n=>k_is)))
local macro_rules| `(tactic|walk_at "kC")=>`(tactic| (refine'⟨?e,⟨?p,?h,?o,?s⟩,?m,?k⟩;(case e=>k_is);(case p=>k_is);(case h=>k_is);(case o=>k_is);(case s=>k_is);(case m=>k_is);(case k=>k_is)))
set_option maxRecDepth 100000 in
set_option maxHeartbeats 0 in
theorem PySem.Challenge.cw_hastebook_k58_whole_rests_and_prices_holds : PySem.Challenge.rw_hastebook_k58_whole_rests_and_prices.Holds := by
 refine holds_law (by decide+kernel) λsaid=>?_;refine holds_open (q:=HT.vw) (YP:=Hook.says (kHook HT.KH HT.KA HT.ka)) (N:=4080) HT.left (Hook.of (kHook HT.KH HT.KA HT.ka)) (Hook.keeps _) HT.xs XL.keeps rfl rfl rfl HT.rs rfl (by first|assumption|decide+kernel) (by decide+kernel) ⟨rfl,rfl,rfl,rfl,rfl,by decide+kernel⟩ ?hw ?hc;(case hw=>w_witness2)
 k_fill
 refine TL.Vb (l:=PySem.Challenge.rw_hastebook_k58_whole_rests_and_prices) (x:="_law_script") (R:=ij.Ds) (k:=10) rfl rfl ⟨rfl,by decide,by decide⟩ (λw h Y=>PySem.W.kIn_of Y) ij.S2 ?F
 case F=>
  intro w mg fa h KX G zh;refine' ij.Qa KX G zh ?h60 ?h61 ?v60 ?v61 ?v62 ?v63 ?v64 ?v65 ?v66 ?a1 ?a2 ?a3 ?a4 ?a5 ?a6 ?a7 ?a8 ?a9 ?a10 ?a11 ?a12 ?a13 ?a14 ?a15 ?a16 ?a17 ?a18 ?a19 ?a20 ?a21 ?a22 ?a23 ?a24 ?a25 ?a26 ?a27 ?a28 ?a29 ?a30 ?a31 ?a32 ?a33 ?a34 ?a35 ?a36 ?a37 ?a38 ?l38 ?c38 ?k38 ?n38 ?d38 ?a39 ?a40 ?a41 ?a42 ?a43 ?a44 ?a45 ?a46 ?a47 ?a48 ?a49 ?a50 ?a51 ?a52 ?a53 ?a54 ?a55 ?a56 ?a57 ?a58 ?a59 ?a60 ?a61 ?l61 ?c61 ?k61 ?z60 ?z61 ?z62 ?z63 ?z64 ?z65 ?z66 ?z67 ?z68 ?z69 ?z70 ?z71 ?z72 ?y60 ?y61
  (case h60=>walk_at "kC")
  (case h61=>walk_at "kC")
  (case v60=>k_is)
  (case v61=>k_is)
  (case v62=>k_is)
  (case v63=>k_is)
  (case v64=>k_is)
  (case v65=>k_is)
  (case v66=>k_is)
  (case a1=>walk_at "kN")
  (case a2=>walk_at "kN")
  (case a3=>walk_at "kN")
  (case a4=>walk_at "kN")
  (case a5=>walk_at "kN")
  (case a6=>walk_at "kN")
  (case a7=>walk_at "kN")
  (case a8=>walk_at "kN")
  (case a9=>walk_at "kN")
  (case a10=>walk_at "kN")
  (case a11=>walk_at "kN")
  (case a12=>walk_at "kN")
  (case a13=>walk_at "kN")
  (case a14=>walk_at "kN")
  (case a15=>walk_at "kN")
  (case a16=>walk_at "kN")
  (case a17=>walk_at "kN")
  (case a18=>walk_at "kN")
  (case a19=>walk_at "kN")
  (case a20=>walk_at "kN")
  (case a21=>walk_at "kN")
  (case a22=>walk_at "kN")
  (case a23=>walk_at "kN")
  (case a24=>walk_at "kN")
  (case a25=>walk_at "kN")
  (case a26=>walk_at "kN")
  (case a27=>walk_at "kN")
  (case a28=>walk_at "kN")
  (case a29=>walk_at "kN")
  (case a30=>walk_at "kN")
  (case a31=>walk_at "kN")
  (case a32=>walk_at "kN")
  (case a33=>walk_at "kM")
  (case a34=>walk_at "kM")
  (case a35=>walk_at "kM")
  (case a36=>walk_at "kN")
  (case a37=>walk_at "kN")
  (case a38=>k_is)
  (case l38=>k_is)
  (case c38=>k_is)
  (case k38=>k_is)
  (case n38=>k_is)
  (case d38=>k_is)
  (case a39=>walk_at "kM")
  (case a40=>walk_at "kN")
  (case a41=>walk_at "kM")
  (case a42=>walk_at "kN")
  (case a43=>walk_at "kN")
  (case a44=>walk_at "kN")
  (case a45=>walk_at "kN")
  (case a46=>walk_at "kM")
  (case a47=>walk_at "kN")
  (case a48=>walk_at "kN")
  (case a49=>walk_at "kN")
  (case a50=>walk_at "kN")
  (case a51=>walk_at "kN")
  (case a52=>walk_at "kN")
  (case a53=>walk_at "kN")
  (case a54=>walk_at "kN")
  (case a55=>walk_at "kN")
  (case a56=>walk_at "kN")
  (case a57=>walk_at "kN")
  (case a58=>walk_at "kN")
  (case a59=>walk_at "kN")
  (case a60=>walk_at "kN")
  (case a61=>k_is)
  (case l61=>k_is)
  (case c61=>k_is)
  (case k61=>k_is)
  (case z60=>k_is)
  (case z61=>k_is)
  (case z62=>k_is)
  (case z63=>k_is)
  (case z64=>k_is)
  (case z65=>k_is)
  (case z66=>k_is)
  (case z67=>k_is)
  (case z68=>k_is)
  (case z69=>k_is)
  (case z70=>k_is)
  (case z71=>k_is)
  (case z72=>k_is)
  (case y60=>k_is)
  (case y61=>k_is)
